/- A reader of fields: ages and bytes, and the kind. -/
import Derived.Test.YtfpgdimgffamoaaGreatDoorFrNum
namespace Go.Proofs.YtfpgdimgffamoaaGreatDoor.Fr
open Go.ChangeShapes Go.WideShapes Go.ChangeAt Go.RowKit Go.Proofs.YtfpgdimgffamoaaGreatDoor.Sm Go.Proofs.YtfpgdimgffamoaaGreatDoor.Wr
set_option maxHeartbeats 400000
set_option maxRecDepth 100000

/-! ### ages, one behind the other -/
def reps (x : List UInt8) : Nat → Except (Int × Nat) Nat → List Int × Except (Int × Nat) Nat
  | 0, s => ([], s)
  | k + 1, s => ((reps x k s).1 ++ [(runP (numP 1 0 201) 0 x (reps x k s).2).1], (runP (numP 1 0 201) 0 x (reps x k s).2).2)
theorem bind_ok {α β : Type} {p : Par α} {q : α → Par β} {x : List UInt8} {pos : Nat} {r : α × Nat} (h : p x pos = .ok r) : bind p q x pos = q r.1 x r.2 := by unfold bind; rw [h]
theorem bind_error {α β : Type} {p : Par α} {q : α → Par β} {x : List UInt8} {pos : Nat} {z : Int × Nat} (h : p x pos = .error z) : bind p q x pos = .error z := by unfold bind; rw [h]
theorem rep_snoc (x : List UInt8) : ∀ (n pos : Nat), repP (n + 1) x pos = bind (repP n) (fun l => bind (numP 1 0 201) fun a => ret (l ++ [a])) x pos := by
  intro n
  induction n with
  | zero =>
    intro pos
    rw [bind_ok (p := repP 0) (r := ([], pos)) rfl]
    show bind (numP 1 0 201) (fun a => bind (repP 0) fun l => ret (a :: l)) x pos = _
    cases h : numP 1 0 201 x pos with
    | error z => rw [bind_error h, bind_error h]
    | ok r => rw [bind_ok h, bind_ok h]; rfl
  | succ n ih =>
    intro pos
    show bind (numP 1 0 201) (fun a => bind (repP (n + 1)) fun l => ret (a :: l)) x pos = _
    have e0 : repP (n + 1) x pos = bind (numP 1 0 201) (fun a => bind (repP n) fun l => ret (a :: l)) x pos := rfl
    cases h : numP 1 0 201 x pos with
    | error z =>
      rw [bind_error h, bind_error (e0.trans (bind_error h))]
    | ok r =>
      rw [bind_ok h]
      rw [bind_ok h] at e0
      have ih' := ih r.2
      cases h2 : repP n x r.2 with
      | error z =>
        rw [bind_error h2] at ih' e0
        rw [bind_error ih', bind_error e0]
      | ok s =>
        rw [bind_ok h2] at ih' e0
        have e0' : repP (n + 1) x pos = .ok (r.1 :: s.1, s.2) := e0
        rw [bind_ok e0']
        cases h3 : numP 1 0 201 x s.2 with
        | error z =>
          rw [bind_error h3] at ih'
          rw [bind_error ih', bind_error h3]
        | ok q =>
          rw [bind_ok h3] at ih'
          have ih2 : repP (n + 1) x r.2 = .ok (s.1 ++ [q.1], q.2) := ih'
          rw [bind_ok ih2, bind_ok h3]
          rfl
theorem reps_rep (x : List UInt8) (pos : Nat) : ∀ n, (match repP n x pos with | .ok r => reps x n (.ok pos) = (r.1, .ok r.2) | .error z => (reps x n (.ok pos)).2 = .error z) := by
  intro n
  induction n with
  | zero => rfl
  | succ n ih =>
    rw [rep_snoc]
    cases h : repP n x pos with
    | error z =>
      rw [h] at ih
      rw [bind_error h]
      have ih' : (reps x n (.ok pos)).2 = .error z := ih
      show (runP (numP 1 0 201) 0 x (reps x n (.ok pos)).2).2 = .error z
      rw [ih']
      rfl
    | ok r =>
      rw [h] at ih
      have ih' : reps x n (.ok pos) = (r.1, .ok r.2) := ih
      rw [bind_ok h]
      cases h3 : numP 1 0 201 x r.2 with
      | error z =>
        rw [bind_error h3]
        show (runP (numP 1 0 201) 0 x (reps x n (.ok pos)).2).2 = .error z
        rw [ih', runP_error h3]
      | ok q =>
        rw [bind_ok h3]
        show ((reps x n (.ok pos)).1 ++ [(runP (numP 1 0 201) 0 x (reps x n (.ok pos)).2).1], (runP (numP 1 0 201) 0 x (reps x n (.ok pos)).2).2) = _
        rw [ih', runP_ok h3]
theorem reps_error (x : List UInt8) (z : Int × Nat) : ∀ n, (reps x n (.error z)).2 = .error z := by
  intro n
  induction n with
  | zero => rfl
  | succ n ih =>
    show (runP (numP 1 0 201) 0 x (reps x n (.error z)).2).2 = .error z
    rw [ih]
    rfl
theorem runP_wf {lo hi : Int} {k : Nat} {x : List UInt8} {st : Except (Int × Nat) Nat} (_ : 0 ≤ lo) (hh : hi ≤ 9223372036854775807) : 0 ≤ (runP (numP k lo hi) 0 x st).1 ∧ (runP (numP k lo hi) 0 x st).1 ≤ 9223372036854775807 ∧ ((runP (numP k lo hi) 0 x st).1 ≤ hi ∨ (runP (numP k lo hi) 0 x st).1 = 0) := by
  cases st with
  | error z => exact ⟨Int.le_refl _, show (0 : Int) ≤ 9223372036854775807 by decide, .inr rfl⟩
  | ok pos =>
    cases h : numP k lo hi x pos with
    | error z => rw [runP_error h]; exact ⟨Int.le_refl _, show (0 : Int) ≤ 9223372036854775807 by decide, .inr rfl⟩
    | ok r =>
      rw [runP_ok h]
      unfold numP at h
      split at h
      · cases h
      · split at h
        · rename_i hr
          injection h with h
          rw [← h]
          exact ⟨by have := hr.1; show 0 ≤ (_ : Int); omega, by have := hr.2; show (_ : Int) ≤ _; omega, .inl hr.2⟩
        · cases h
theorem reps_wf (x : List UInt8) (s : Except (Int × Nat) Nat) : ∀ n, ∀ d ∈ (reps x n s).1, -9223372036854775808 ≤ d ∧ d ≤ 9223372036854775807 := by
  intro n
  induction n with
  | zero => intro d hd; cases hd
  | succ n ih =>
    intro d hd
    have hd' : d ∈ (reps x n s).1 ++ [(runP (numP 1 0 201) 0 x (reps x n s).2).1] := hd
    rcases List.mem_append.1 hd' with h | h
    · exact ih d h
    · obtain rfl := List.mem_singleton.1 h
      have := runP_wf (lo := 0) (hi := 201) (k := 1) (x := x) (st := (reps x n s).2) (by omega) (by decide)
      omega
theorem reps_length (x : List UInt8) (s : Except (Int × Nat) Nat) : ∀ n, (reps x n s).1.length = n := by
  intro n
  induction n with
  | zero => rfl
  | succ n ih =>
    show ((reps x n s).1 ++ [_]).length = _
    rw [List.length_append, ih]
    rfl

/-! ### memory that the call made, beside the readers -/
theorem owns_beside2 {w u : World} {base g h : Nat} {e : TypeId} {size : Nat} {v : Value} {n : Nat} {xs : List Value} (o : w.ownsRow base e size v n xs) (hb : Beside2 g h w u) (hg : g < base) (hh : h < base) : u.ownsRow base e size v n xs := by
  refine ⟨o.1, ?_⟩
  rcases o.2 with h2 | ⟨k, cap, cur, hv, hk, hq, r⟩
  · exact Or.inl h2
  · exact Or.inr ⟨k, cap, cur, hv, hk, (hb.block k (Array.getElem?_eq_some_iff.1 hq).1 (by omega) (by omega)).trans hq, r⟩
/-- readers stay while a row of the call's own grows. -/
theorem FRm.grown {w w' : World} {g h base : Nat} {S : Sn} {x : List UInt8} {p : Nat} {bad : Bool} {o : Option (Int × Nat)} (r : FRm w g h S x p bad o) {e : TypeId} {z n : Nat} {v : Value} {xs : List Value} (hown : w.ownsRow base e z v n xs) (hgr : w.grownBy w' v.ownBlock) (hB : h < base) (he : e ≠ 58) : FRm w' g h S x p bad o := by
  have hl := r.lt
  have hs := r.size
  have hrow : ∀ k, v.ownBlock = some k → base ≤ k := fun k hk => (hown.lt k hk).1
  have hb : Below (h + 1) w w' := (Below.refl _ _).grown hgr (by omega) (fun k hk => by have := hrow k hk; omega)
  obtain ⟨ev, h1, h2⟩ := r.ob
  refine ⟨hl, r.sents.below (hb.mono (by omega)), r.rd.below hb (by omega), ev, h1.below hb (by omega), ?_⟩
  cases o with
  | none => exact h2
  | some z =>
    obtain ⟨fb, e1, e2, e3, e4⟩ := h2
    refine ⟨fb, e1, e2, ?_, e4⟩
    refine (hgr.block fb e3.lt (fun ek => ?_)).trans e3
    rcases hown.2 with ⟨hv, _⟩ | ⟨k, cap, cur, hv, hk, hq, _⟩
    · rw [hv] at ek; cases ek
    · rw [hv] at ek
      have ek' : k = fb := by injection ek.symm
      subst ek'
      have := hq.symm.trans e3
      injection this with this
      injection this with _ q2 _
      exact he q2
theorem FR.grown {w w' : World} {g h base : Nat} {S : Sn} {x : List UInt8} {st : Except (Int × Nat) Nat} (r : FR w g h S x st) {e : TypeId} {z n : Nat} {v : Value} {xs : List Value} (hown : w.ownsRow base e z v n xs) (hgr : w.grownBy w' v.ownBlock) (hB : h < base) (he : e ≠ 58) : FR w' g h S x st := by
  cases st with
  | ok pos => exact FRm.grown r hown hgr hB he
  | error z => obtain ⟨p, b, r⟩ := r; exact ⟨p, b, r.grown hown hgr hB he⟩
theorem Beside2.grown {g h : Nat} {a w w' : World} {row : Option Nat} (x : Beside2 g h a w) (hgr : w.grownBy w' row) (hr : ∀ k, row = some k → a.heap.size ≤ k) : Beside2 g h a w' :=
  ⟨hgr.os.trans x.os, hgr.tape.trans x.tape, hgr.output.trans x.output, Nat.le_trans x.size hgr.size, fun k hk hg hh => (hgr.block k (Nat.lt_of_lt_of_le hk x.size) (fun e => by have := hr k e.symm; omega)).trans (x.block k hk hg hh)⟩
theorem int_info : (Tryz.prog.info? 3).map (fun i => (i.zero, i.size, i.bytes)) = some (some (.int .i64 0), 1, 8) := by kernel_rfl
theorem int_parts : ∃ i, Tryz.prog.info? 3 = some i ∧ i.zero = some (.int .i64 0) ∧ i.size = 1 ∧ i.bytes = 8 := by
  have h := int_info
  cases hi : Tryz.prog.info? 3 with
  | none => rw [hi] at h; cases h
  | some i =>
    rw [hi] at h
    simp only [Option.map_some, Option.some.injEq, Prod.mk.injEq] at h
    exact ⟨i, rfl, h.1, h.2.1, h.2.2⟩
theorem ages_reps (x : List UInt8) (st : Except (Int × Nat) Nat) : (runP agesP [] x st).2 = (reps x (runP (numP 1 1 6) 0 x st).1.toNat (runP (numP 1 1 6) 0 x st).2).2 ∧ ∀ pos, (runP agesP [] x st).2 = .ok pos → (reps x (runP (numP 1 1 6) 0 x st).1.toNat (runP (numP 1 1 6) 0 x st).2).1 = (runP agesP [] x st).1 := by
  cases st with
  | error z => exact ⟨rfl, fun _ h => by cases h⟩
  | ok pos =>
    cases h : numP 1 1 6 x pos with
    | error z =>
      have e : agesP x pos = .error z := bind_error h
      rw [runP_error h, runP_error e]
      exact ⟨rfl, fun _ h => by cases h⟩
    | ok r =>
      have e : agesP x pos = repP r.1.toNat x r.2 := bind_ok h
      rw [runP_ok h]
      have k := reps_rep x r.2 r.1.toNat
      cases h2 : repP r.1.toNat x r.2 with
      | error z =>
        rw [h2] at k
        rw [runP_error (e.trans h2)]
        have k' : (reps x r.1.toNat (.ok r.2)).2 = .error z := k
        exact ⟨k'.symm, fun _ h => by cases h⟩
      | ok q =>
        rw [h2] at k
        have k' : reps x r.1.toNat (.ok r.2) = (q.1, .ok q.2) := k
        rw [runP_ok (e.trans h2), k']
        exact ⟨rfl, fun _ _ => rfl⟩
/-- ages, read. -/
def RetAges (w : World) (g h : Nat) (S : Sn) (x : List UInt8) (st : Except (Int × Nat) Nat) (e : Ending) (w' : World) : Prop :=
  ∃ a n c l, e = .returned (.slice a n c) ∧ (w'.ownsRow w.heap.size 3 1 (.slice a n c) n (cellsI l) ∧ ∀ d ∈ l, -9223372036854775808 ≤ d ∧ d ≤ 9223372036854775807) ∧ (∀ pos, (runP agesP [] x st).2 = .ok pos → l = (runP agesP [] x st).1) ∧ FR w' g h S x (runP agesP [] x st).2 ∧ Beside2 g h w w'
theorem rages_calls (g h : Nat) (S : Sn) (x : List UInt8) (st : Except (Int × Nat) Nat) (w : World) (r : FR w g h S x st) :
    Calls Tryz.prog 68 #[.pointer (some ⟨h, 0, none⟩)] w fun e w' => RetAges w g h S x st e w' := by
  obtain ⟨i0, hi0, hz0, hz1, hz2⟩ := int_parts
  have hsz := r.size
  obtain ⟨hgh, hhs⟩ := hsz
  have HR := hid r
  have HAR := hid (ages_reps x st)
  have hwf := runP_wf (lo := 1) (hi := 6) (k := 1) (x := x) (st := st) (by omega) (by decide)
  clear r
  go_enter Tryz.func68, Tryz.ntmps68
  go_wp2_with (go_at_call 67; refine stop ?_)
  unfold Stop
  refine (rplain_calls g h S x st 1 (by omega) (by omega) 1 6 w HR.out).mono ?_
  rintro e w1 ⟨v, rfl, rfl, r1, hb1⟩
  obtain ⟨n0, hn0⟩ : ∃ n0, (runP (numP 1 1 6) 0 x st).1 = n0 := ⟨_, rfl⟩
  obtain ⟨s0, hs0⟩ : ∃ s0, (runP (numP 1 1 6) 0 x st).2 = s0 := ⟨_, rfl⟩
  rw [hn0] at hwf HAR ⊢
  rw [hs0] at r1 HAR
  clear hn0 hs0
  obtain ⟨N, rfl⟩ := Int.eq_ofNat_of_zero_le hwf.1
  rw [Int.toNat_natCast] at HAR
  have hN6 : N ≤ 6 := by omega
  have R1 := hid r1
  have B1 := hid hb1
  clear r1 hb1 hwf HR
  go_wp2
  go_loopw [3, 6] (fun v i wr => ∃ k : Nat, k ≤ N ∧ i = .int .i64 k ∧ Hid (wr.ownsRow w.heap.size 3 1 v k (cellsI (reps x k s0).1)) ∧ Hid (FR wr g h S x (reps x k s0).2) ∧ Hid (Beside2 g h w wr)) (fun _ i _ => N - (intOf i).toNat)
  case atStart => exact ⟨0, by omega, rfl, hid (World.ownsRow_nil _ _ _ _), R1, B1⟩
  case round =>
    clear R1 B1
    obtain ⟨k, hk, rfl, HO, HF, HB⟩ := hrel
    by_cases hlt : k < N
    · go_wp2_with (go_at_call 67; refine stop ?_)
      unfold Stop
      refine (rplain_calls g h S x (reps x k s0).2 1 (by omega) (by omega) 0 201 _ HF.out).mono ?_
      rintro e w2 ⟨v2, rfl, rfl, r2, hb2⟩
      obtain ⟨D, hD⟩ : ∃ D, (runP (numP 1 0 201) 0 x (reps x k s0).2).1 = D := ⟨_, rfl⟩
      rw [hD]
      have HD := hid hD
      have R2 := hid r2
      have B2 := hid (HB.out.trans hb2)
      have hwr := HF.out.size
      have hws := HB.out.size
      have HO2 := hid (owns_beside2 HO.out hb2 (by omega) (by omega))
      clear hD r2 hb2
      have hsz2 := B2.out.size
      go_wp2_with (at_builtin; refine stop ?_)
      unfold Stop
      have hA : Below w2.heap.size w2 (w2.alloc (.cells #[.int .i64 D] 3)) := (Below.refl _ _).alloc (Nat.le_refl _) _
      have hownA : (w2.alloc (.cells #[.int .i64 D] 3)).ownsRow w.heap.size 3 1 _ k (cellsI (reps x k s0).1) := HO2.out.alloc _
      refine wpList_append_rows _ rfl _ _ _ rfl w.heap.size 3 i0 _ 1 8 Tryz.underlying24 hi0 hz0 hz1 hz2 rfl (by decide) _ k _ rfl hownA _ _ 1 1 [.int .i64 D] rfl (RowC.lit w2 3 #[.int .i64 D] 1 1 rfl (by decide)) (by intro u hu; obtain rfl := List.mem_singleton.1 hu; rfl) (by unfold maxLen; omega) (by omega) (by simp; omega) ?_
      intro v3 w3 hown3 hgr hlt3
      have R3 := hid ((R2.out.below hA (Nat.le_refl _)).grown hownA hgr (by omega) (by decide))
      have B3 := hid (((B2.out.trans (Beside2.of_below hA))).grown hgr (fun q hq => hlt3 q hq))
      have HO3 := hid hown3
      clear hown3 hgr hlt3 hA hownA HO HF HB HO2 R2 B2
      go_wp2
      go_roundw
      case rel =>
        refine ⟨k + 1, by omega, by go_num, ?_, ?_, B3⟩
        · have := HO3.out
          rw [← HD.out] at this
          rw [show (reps x (k + 1) s0).1 = (reps x k s0).1 ++ [(runP (numP 1 0 201) 0 x (reps x k s0).2).1] from rfl, cellsI_append]
          exact hid this
        · exact R3
      case measure => simp [intOf]; omega
    · obtain rfl : k = N := by omega
      go_wp2
      go_ret
      obtain ⟨a, c, e1, hr⟩ := Sm.owns_form HO.out
      obtain ⟨q1, q2⟩ := HAR.out
      refine ⟨a, k, c, (reps x k s0).1, congrArg Ending.returned e1, ⟨by have h1 := HO.out; rw [e1] at h1; exact h1, reps_wf x s0 k⟩, fun pos hp => q2 pos hp, ?_, HB.out⟩
      rw [q1]
      exact HF.out
end Go.Proofs.YtfpgdimgffamoaaGreatDoor.Fr
