/- Chapter 4: no reading fails with error 0; what is read of sealed bytes is written as it was; bytes made a string behind a guard. -/
import Derived.Test.YtfpgdimgffamoaaGreatDoorFrAlive
import Derived.Test.YtfpgdimgffamoaaGreatDoorSmV
namespace Go.Proofs.YtfpgdimgffamoaaGreatDoor.Ev
open Go.RowKit Go.Proofs.YtfpgdimgffamoaaGreatDoor.Sm
set_option maxHeartbeats 1000000
set_option linter.unusedVariables false
set_option linter.unusedVariables false
theorem conv_okA {P : Program} {B N : Nat} {ρ : List Nat} {s : St} {a : Act} {w : World} {ops : Array Oper} {Q : Exit → Act → World → Prop} {o : Oper} {A : List (Nat × Bool)} {rest : List Oper} (hI : Inv B ρ s N a w) (hA : gpath ops s o = some A) (hd : dstB N A o.dst = true) {src dst : TypeId} {x : Operand} (hop : o.op = .convert src dst x) {xv v : Value} (hx : s.look A x = some (.v xv)) (hc : (convert src dst xv).run P w = .ok v w) (k : ∀ a', Inv B ρ (s.put o.dst A (.v v)) N a' w → wpList P ops Q rest a' w) : wpList P ops Q (o :: rest) a w := by
  refine val_step hI hA hd (.v v) trivial (fun hp => ?_) k
  have ex : a.eval x = xv := (look_eval hI hx hp).1
  unfold execOp
  rw [hop]
  simp only [ex, Sem.run_bind, hc, Result.andThen_ok, Sem.run_pure]
  rfl
end Go.Proofs.YtfpgdimgffamoaaGreatDoor.Ev
namespace Go.Proofs.YtfpgdimgffamoaaGreatDoor.Fr
open Go.RowKit Go.Proofs.YtfpgdimgffamoaaGreatDoor.Sm Go.Proofs.YtfpgdimgffamoaaGreatDoor.Wr
set_option maxHeartbeats 1000000
set_option linter.unusedVariables false
/-- what a reading fails with is no 0. -/
def NZ {α : Type} (p : Par α) : Prop := ∀ x pos e, p x pos = .error e → e.1 ≠ 0
theorem nz_ret {α : Type} (a : α) : NZ (ret a) := fun x pos e h => by cases h
theorem nz_bind {α β : Type} {p : Par α} {q : α → Par β} (hp : NZ p) (hq : ∀ a, NZ (q a)) : NZ (bind p q) := by
  intro x pos e h
  unfold bind at h
  cases h1 : p x pos with
  | error z =>
    rw [h1] at h
    injection h with h
    subst h
    exact hp x pos z h1
  | ok r =>
    rw [h1] at h
    exact hq r.1 x r.2 e h
theorem nz_num (k : Nat) (lo hi : Int) : NZ (numP k lo hi) := by
  intro x pos e h
  unfold numP at h
  split at h
  · injection h with h; subst h; simp
  · split at h
    · cases h
    · injection h with h; subst h; simp
theorem nz_off : NZ offP := by
  intro x pos e h
  unfold offP at h
  split at h
  · injection h with h; subst h; simp
  · split at h
    · cases h
    · injection h with h; subst h; simp
theorem nz_take (k : Nat) : NZ (takeP k) := by
  intro x pos e h
  unfold takeP at h
  split at h
  · injection h with h; subst h; simp
  · cases h
theorem nz_rep : ∀ k, NZ (repP k)
  | 0 => nz_ret _
  | k + 1 => nz_bind (nz_num _ _ _) fun _ => nz_bind (nz_rep k) fun _ => nz_ret _
theorem nz_ages : NZ agesP := nz_bind (nz_num _ _ _) fun n => nz_rep _
theorem nz_body : NZ bodyP := nz_bind (nz_num _ _ _) fun n => nz_take _
theorem nz_tail (k p n : Int) : NZ (tailP k p n) := by
  unfold tailP
  split
  · exact nz_bind (nz_num _ _ _) fun _ => nz_ret _
  · split
    · exact nz_bind (nz_num _ _ _) fun _ => nz_bind (nz_num _ _ _) fun _ => nz_bind nz_ages fun _ => nz_ret _
    · split
      · exact nz_bind (nz_num _ _ _) fun _ => nz_bind (nz_num _ _ _) fun _ => nz_bind (nz_num _ _ _) fun _ => nz_bind nz_off fun _ => nz_ret _
      · split
        · exact nz_bind (nz_num _ _ _) fun _ => nz_bind nz_ages fun _ => nz_ret _
        · exact nz_bind (nz_num _ _ _) fun _ => nz_bind (nz_num _ _ _) fun _ => nz_bind (nz_num _ _ _) fun _ => nz_bind (nz_num _ _ _) fun _ => nz_bind nz_body fun _ => nz_ret _
theorem nz_frame : NZ frameP := nz_bind (nz_num _ _ _) fun _ => nz_bind (nz_num _ _ _) fun _ => nz_bind (nz_num _ _ _) fun _ => nz_tail _ _ _
theorem nz_read {x : List UInt8} {e : Int × Nat} (h : readX x = .error e) : e.1 ≠ 0 := by
  unfold readX at h
  split at h
  · cases h1 : frameP x 0 with
    | error z =>
      rw [h1] at h
      injection h with h
      subst h
      exact nz_frame x 0 z h1
    | ok r =>
      rw [h1] at h
      dsimp only at h
      split at h
      · injection h with h; subst h; simp
      · cases h
  · injection h with h; subst h; simp
theorem nz_dec {b : List UInt8} {e : Int × Nat} (h : decX b = .error e) : e.1 ≠ 0 := by
  unfold decX at h
  split at h
  · injection h with h; subst h; simp
  · split at h
    · exact nz_read h
    · injection h with h; subst h; simp
/-- what is read of sealed bytes may be, and is written as it was. -/
theorem sealed_ok {x : List UInt8} {res : Except (Int × Nat) Frame} (h : decX (sealB x) = res) (hn : noOf (errOf res) = 0) : mayB (frOf res) = true ∧ bytesOf (frOf res) = sealB x := by
  cases res with
  | error e => exact absurd hn (nz_dec h)
  | ok f =>
    unfold decX at h
    split at h
    · cases h
    · rw [isSealed_sealB, if_pos rfl, sealB_take] at h
      obtain ⟨h1, h2⟩ := read_back h
      show mayB f = true ∧ bytesOf f = sealB x
      refine ⟨h1, ?_⟩
      unfold bytesOf
      rw [h1, if_pos rfl, h2]
end Go.Proofs.YtfpgdimgffamoaaGreatDoor.Fr
