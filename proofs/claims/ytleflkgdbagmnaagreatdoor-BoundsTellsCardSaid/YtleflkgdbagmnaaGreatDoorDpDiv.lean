/- Deep reckoning, more rules: quotients and remainders by a letter. No function of the program in it. -/
import Derived.Test.YtleflkgdbagmnaaGreatDoorDpInl
namespace Go.Proofs.YtleflkgdbagmnaaGreatDoor.Dp
open Go.RowKit Go.Proofs.YtleflkgdbagmnaaGreatDoor.Sm
open Go.Proofs.YtleflkgdbagmnaaGreatDoor.Ev (Obl opnds dstB PT nx pt_put undef_bool pickB isRow_false seenL seenR seen_all resRun)
set_option maxHeartbeats 1000000
set_option linter.unusedVariables false
section
variable {κ : Nat → Prop} {B : Base} {N : Nat} {ρ : Own} {s s' : St} {a : Act} {w : World} {ops : Array Oper} {rest : List Oper} {o : Oper} {Q : Exit → St → Prop} {A : List (Nat × Bool)} {P : Program}
/-! ### a nil slice in a struct is a list of nothing -/
theorem RepC.renil {ok : Nat → Prop} {cs : List D} {i z : Nat} {f : Nat → List D} {v : Value} (h : RepC w ok (.r cs) v) (hi : cs[i]? = some (.v (.slice none 0 0))) : RepC w ok (.r (cs.set i (.s 0 z f))) v := by
  cases h with
  | r hl hd =>
    refine .r (by simpa using hl) fun j d u h1 h2 => ?_
    by_cases hj : i = j
    · subst hj
      rw [List.getElem?_set_self (List.getElem?_eq_some_iff.1 hi).1] at h1
      injection h1 with h1
      subst h1
      have := hd i _ u hi h2
      cases this
      exact .s0 z f none 0 (fun _ => rfl) (Nat.zero_le _)
    · rw [List.getElem?_set_ne hj] at h1
      exact hd j d u h1 h2
theorem PC.renil {G : List (Nat × List D)} {f : FuncId} {ds cs : List D} (i z : Nat) (g : Nat → List D) (h : PC P G f ds (· = .r cs)) (hi : cs[i]? = some (.v (.slice none 0 0))) : PC P G f ds (· = .r (cs.set i (.s 0 z g))) := fun κ w vs h1 h2 h3 h4 => (h κ w vs h1 h2 h3 h4).mono (by
  rintro e w' ⟨v, d, rfl, rfl, k2, k3⟩
  exact ⟨v, _, rfl, rfl, k2.renil hi, k3⟩)
/-! ### ways that meet again -/
def JoinR {α : Type} (st : α → St) (I : α → Prop) (ds : List Nat) (m : Nat) (s' : St) : Prop := ∃ x' s1, s'.sel ds m = s1 ∧ s1.underB m = true ∧ Rem s1 (st x') ∧ I x'
theorem JoinR.of {α : Type} {st : α → St} {I : α → Prop} {ds : List Nat} {m : Nat} {s1 : St} (x' : α) (h : s'.sel ds m = s1) (hu : s1.underB m = true) (hs : Rem s1 (st x')) (hI : I x') : JoinR st I ds m s' := ⟨x', s1, h, hu, hs, hI⟩
/-! ### what a variable holds, forgotten -/
theorem PI.more {G : List (Nat × List D)} {f : FuncId} {ds : List D} {mem : List Obj} {R : D → List Obj → Prop} (h : PI P [] f ds mem R) : PI P G f ds mem R := fun κ w ρ vs h1 h2 _ h4 h5 => h κ w ρ vs h1 h2 (fun x hx => (nomatch hx)) h4 h5
/-! ### what is lent to be read alone, with a result of several plain values -/
end
end Go.Proofs.YtleflkgdbagmnaaGreatDoor.Dp
