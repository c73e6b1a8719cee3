/- How far parts are apart: what the document reckons by levels, and package hops by sweeps, is the same, there and back. -/
import Derived.Test.YtleflkgdbagmnaaDoorHpFour
import Derived.Test.YtleflkgdbagmnaaDoorHpTwo
namespace Go.Proofs.YtleflkgdbagmnaaDoor.Pl
open Go.RowKit Go.Proofs.YtleflkgdbagmnaaDoor.Sm Go.Proofs.YtleflkgdbagmnaaDoor.Dp
set_option maxHeartbeats 1000000
set_option linter.unusedVariables false
set_option linter.unusedSimpArgs false
/-- D tells how many links each is from o. -/
structure IsDist (ls : List Link) (o n : Nat) (D : Nat → Int) : Prop where
  orig : D o = 0
  nn : ∀ j, j < n → 0 ≤ D j
  zo : ∀ j, j < n → D j = 0 → j = o
  lip : ∀ i, i < ls.length → D (ls.getD i default).b.toNat ≤ D (ls.getD i default).a.toNat + 1 ∧ D (ls.getD i default).a.toNat ≤ D (ls.getD i default).b.toNat + 1
  step : ∀ j, j < n → 0 < D j → ∃ i, i < ls.length ∧ (((ls.getD i default).a.toNat = j ∧ D (ls.getD i default).b.toNat = D j - 1) ∨ ((ls.getD i default).b.toNat = j ∧ D (ls.getD i default).a.toNat = D j - 1))
theorem IsDist.tri {ls : List Link} {p q n : Nat} {D E : Nat → Int} (hin : InN ls n) (hD : IsDist ls p n D) (hE : IsDist ls q n E) : ∀ (k : Nat) (j : Nat), j < n → E j = k → D q ≤ D j + E j
  | 0, j, hj, h => by
    have := hE.zo j hj (by omega)
    subst this
    omega
  | k + 1, j, hj, h => by
    obtain ⟨i, hi, h1 | h1⟩ := hE.step j hj (by omega)
    · have h2 := tri hin hD hE k _ (hin i hi).2 (by omega)
      have h3 := hD.lip i hi
      rw [h1.1] at h3
      omega
    · have h2 := tri hin hD hE k _ (hin i hi).1 (by omega)
      have h3 := hD.lip i hi
      rw [h1.1] at h3
      omega
theorem IsDist.sym {ls : List Link} {p q n : Nat} {D E : Nat → Int} (hin : InN ls n) (hp : p < n) (hq : q < n) (hD : IsDist ls p n D) (hE : IsDist ls q n E) : D q = E p := by
  have h1 := hD.tri hin hE (E p).toNat p hp (by have := hE.nn p hp; omega)
  have h2 := hE.tri hin hD (D q).toNat q hq (by have := hD.nn q hq; omega)
  have h3 := hD.orig
  have h4 := hE.orig
  omega
/-! ### the document's levels -/
/-- a link away from one of level k. -/
def Nb (ls : List Link) (d0 : List Int) (k : Int) (j : Nat) : Prop := ∃ i, i < ls.length ∧ (((ls.getD i default).a.toNat = j ∧ d0.getD (ls.getD i default).b.toNat default = k) ∨ ((ls.getD i default).b.toNat = j ∧ d0.getD (ls.getD i default).a.toNat default = k))
structure LevS (ls : List Link) (n : Nat) (k : Int) (d0 d : List Int) : Prop where
  len : d.length = n
  keep : ∀ j, 0 ≤ d0.getD j default → d.getD j default = d0.getD j default
  new : ∀ j, d0.getD j default < 0 → d.getD j default = d0.getD j default ∨ (d.getD j default = k + 1 ∧ Nb ls d0 k j)
theorem relax_levS {ls : List Link} {n : Nat} {k : Int} {d0 d : List Int} (hk : 0 ≤ k) (hin : InN ls n) (i : Nat) (hi : i < ls.length) (h : LevS ls n k d0 d) : LevS ls n k d0 (relax k (ls.getD i default) d) := by
  have ha := (hin i hi).1
  have hb := (hin i hi).2
  have hk1 : ∀ j, d.getD j default = k → d0.getD j default = k := fun j hj => by
    rcases Int.lt_or_le (d0.getD j default) 0 with h1 | h1
    · rcases h.new j h1 with h2 | h2 <;> omega
    · rw [← h.keep j h1]; exact hj
  have hA := relaxA_get (k := k) h.len ha hb
  have hlA : (relaxA k (ls.getD i default) d).length = n := by unfold relaxA; split <;> simp [h.len]
  have hB := relaxB_get (k := k) hlA ha hb
  have rab : d0.getD (ls.getD i default).a.toNat default = k → Nb ls d0 k (ls.getD i default).b.toNat := fun h1 => ⟨i, hi, .inr ⟨rfl, h1⟩⟩
  have rba : d0.getD (ls.getD i default).b.toNat default = k → Nb ls d0 k (ls.getD i default).a.toNat := fun h1 => ⟨i, hi, .inl ⟨rfl, h1⟩⟩
  refine ⟨(relax_len k _ d).trans h.len, fun j hj => ?_, fun j hj => ?_⟩
  · have h1 := h.keep j hj
    show (relaxB k (ls.getD i default) (relaxA k (ls.getD i default) d)).getD j default = _
    rw [hB, hA, hA, hA]
    grind
  · have h1 := h.new j hj
    show (relaxB k (ls.getD i default) (relaxA k (ls.getD i default) d)).getD j default = _ ∨ (relaxB k (ls.getD i default) (relaxA k (ls.getD i default) d)).getD j default = _ ∧ _
    have e1 := hk1 (ls.getD i default).a.toNat
    have e2 := hk1 (ls.getD i default).b.toNat
    rw [hB, hA, hA, hA]
    grind
theorem sweep_levS {ls : List Link} {n : Nat} {k : Int} {d0 : List Int} (hk : 0 ≤ k) (hin : InN ls n) (hl : d0.length = n) : LevS ls n k d0 (sweep ls (relax k) d0 ls.length) :=
  sweep_ind (LevS ls n k d0) ⟨hl, fun _ _ => rfl, fun _ _ => .inl rfl⟩ (fun i y hi h => relax_levS hk hin i hi h) _ (Nat.le_refl _)
structure LevD (ls : List Link) (o n k : Nat) (d : List Int) : Prop where
  orig : d.getD o default = 0
  zo : ∀ j, j < n → d.getD j default = 0 → j = o
  lip : ∀ i, i < ls.length → (0 ≤ d.getD (ls.getD i default).a.toNat default → d.getD (ls.getD i default).a.toNat default < k → d.getD (ls.getD i default).b.toNat default ≤ d.getD (ls.getD i default).a.toNat default + 1) ∧ (0 ≤ d.getD (ls.getD i default).b.toNat default → d.getD (ls.getD i default).b.toNat default < k → d.getD (ls.getD i default).a.toNat default ≤ d.getD (ls.getD i default).b.toNat default + 1)
  step : ∀ j, j < n → 0 < d.getD j default → ∃ i, i < ls.length ∧ (((ls.getD i default).a.toNat = j ∧ d.getD (ls.getD i default).b.toNat default = d.getD j default - 1) ∨ ((ls.getD i default).b.toNat = j ∧ d.getD (ls.getD i default).a.toNat default = d.getD j default - 1))
theorem dists0_get {n o : Nat} (ho : o < n) (j : Nat) (hj : j < n) : (dists0 n o).getD j default = if j = o then 0 else -1 := by
  unfold dists0
  rw [getD_set (hi := by simpa using ho)]
  split
  · rfl
  · exact getD_rep _ _ _ _ hj
theorem levD_all {ls : List Link} {o n : Nat} (hin : InN ls n) (ho : o < n) : ∀ k, LevD ls o n k (distsN ls (dists0 n o) k)
  | 0 => by
    have e := fun j hj => dists0_get ho j hj
    refine ⟨?_, fun j hj h => ?_, fun i hi => ⟨fun h1 h2 => ?_, fun h1 h2 => ?_⟩, fun j hj h => ?_⟩
    · show (dists0 n o).getD o default = 0
      rw [e o ho, if_pos rfl]
    · have h : (dists0 n o).getD j default = 0 := h
      rw [e j hj] at h
      by_cases h1 : j = o
      · exact h1
      · rw [if_neg h1] at h; omega
    · omega
    · omega
    · have h : 0 < (dists0 n o).getD j default := h
      rw [e j hj] at h
      split at h <;> omega
  | k + 1 => by
    have h := levD_all hin ho k
    have hN := levN_all hin ho k
    have hN1 := levN_all hin ho (k + 1)
    have L := sweep_levS (k := (k : Int)) (by omega) hin hN.len
    have hy : distsN ls (dists0 n o) (k + 1) = sweep ls (relax k) (distsN ls (dists0 n o) k) ls.length := rfl
    rw [← hy] at L
    generalize distsN ls (dists0 n o) (k + 1) = y at *
    generalize distsN ls (dists0 n o) k = d at *
    have two : ∀ j, (0 ≤ d.getD j default ∧ y.getD j default = d.getD j default) ∨ (d.getD j default < 0 ∧ (y.getD j default = d.getD j default ∨ (y.getD j default = (k : Int) + 1 ∧ Nb ls d k j))) := fun j => by
      rcases Int.lt_or_le (d.getD j default) 0 with h1 | h1
      · exact .inr ⟨h1, L.new j h1⟩
      · exact .inl ⟨h1, L.keep j h1⟩
    refine ⟨?_, fun j hj h0 => ?_, fun i hi => ⟨fun h1 h2 => ?_, fun h1 h2 => ?_⟩, fun j hj h0 => ?_⟩
    · rw [L.keep o (by rw [h.orig]; exact Int.le_refl _), h.orig]
    · rcases two j with h1 | h1
      · exact h.zo j hj (by omega)
      · rcases h1.2 with h2 | h2 <;> omega
    · have l1 := (h.lip i hi).1
      have c1 := (hN.closed i hi).1
      have t1 := hN1.top (ls.getD i default).b.toNat
      have t2 := hN.top (ls.getD i default).a.toNat
      have kb := L.keep (ls.getD i default).b.toNat
      rcases two (ls.getD i default).a.toNat with q | q
      · by_cases hk : d.getD (ls.getD i default).a.toNat default = k
        · omega
        · have c2 := c1 q.1 (by omega)
          have l2 := l1 q.1 (by omega)
          have := kb c2
          omega
      · rcases q.2 with h3 | h3 <;> omega
    · have l1 := (h.lip i hi).2
      have c1 := (hN.closed i hi).2
      have t1 := hN1.top (ls.getD i default).a.toNat
      have t2 := hN.top (ls.getD i default).b.toNat
      have kb := L.keep (ls.getD i default).a.toNat
      rcases two (ls.getD i default).b.toNat with q | q
      · by_cases hk : d.getD (ls.getD i default).b.toNat default = k
        · omega
        · have c2 := c1 q.1 (by omega)
          have l2 := l1 q.1 (by omega)
          have := kb c2
          omega
      · rcases q.2 with h3 | h3 <;> omega
    · have back : ∀ m v, d.getD m default = v → 0 ≤ v → y.getD m default = v := fun m v e1 e2 => by rw [L.keep m (by omega), e1]
      rcases two j with q | q
      · obtain ⟨i, hi, h1 | h1⟩ := h.step j hj (by omega)
        · exact ⟨i, hi, .inl ⟨h1.1, by rw [q.2]; exact back _ _ h1.2 (by omega)⟩⟩
        · exact ⟨i, hi, .inr ⟨h1.1, by rw [q.2]; exact back _ _ h1.2 (by omega)⟩⟩
      · rcases q.2 with h3 | ⟨h3, i, hi, h1 | h1⟩
        · omega
        · exact ⟨i, hi, .inl ⟨h1.1, by rw [h3, back _ _ h1.2 (by omega)]; omega⟩⟩
        · exact ⟨i, hi, .inr ⟨h1.1, by rw [h3, back _ _ h1.2 (by omega)]; omega⟩⟩
theorem isDist_of {ls : List Link} {o n : Nat} (hin : InN ls n) (ho : o < n) (hr : ∀ j, j < n → Rch ls o j) : IsDist ls o n (fun j => (distsN ls (dists0 n o) n).getD j default) := by
  have h := levD_all hin ho n
  have hN := levN_all hin ho n
  have nn : ∀ j, j < n → 0 ≤ (distsN ls (dists0 n o) n).getD j default := fun j hj => (dists_iff hin ho j hj).2 (hr j hj)
  have low : ∀ j, j < n → (distsN ls (dists0 n o) n).getD j default < n := fun j hj => levN_low hN j hj (nn j hj)
  exact ⟨h.orig, nn, h.zo, fun i hi => ⟨(h.lip i hi).1 (nn _ (hin i hi).1) (low _ (hin i hi).1), (h.lip i hi).2 (nn _ (hin i hi).2) (low _ (hin i hi).2)⟩, h.step⟩
/-! ### reached from anywhere -/
theorem Rch.trans {ls : List Link} {o p q : Nat} (h : Rch ls o p) (k : Rch ls p q) : Rch ls o q :=
  k.in_ (S := fun x => Rch ls o x) h fun i hi => ⟨fun h => .ab i hi h, fun h => .ba i hi h⟩
theorem Rch.symm {ls : List Link} {o p : Nat} (h : Rch ls o p) : Rch ls p o :=
  h.in_ (S := fun x => Rch ls x o) .zero fun i hi => ⟨fun h => (Rch.ba i hi .zero).trans h, fun h => (Rch.ab i hi .zero).trans h⟩
/-! ### a right network -/
structure RightF (c : Config) : Prop where
  len1 : 1 ≤ c.parts.length
  len6 : c.parts.length ≤ 6
  links : c.links.length ≤ 10
  inL : LinksIn c
  lt : ∀ i, i < c.links.length → (c.links.getD i default).a < (c.links.getD i default).b
  reach : ∀ o, o < c.parts.length → ∀ j, j < c.parts.length → Rch c.links o j
theorem findN_hit {p : Nat → Bool} : ∀ {n i : Nat}, findN p n = some i → p i = true
  | 0, i, h => by simp [findN] at h
  | n + 1, i, h => by
    unfold findN at h
    split at h
    · rename_i j hj
      injection h with h
      subst h
      exact findN_hit hj
    · split at h
      · rename_i hp
        injection h with h
        subst h
        exact hp
      · cases h
theorem right_of {c : Config} (h : (checkR c).1 = 0) : RightF c := by
  unfold checkR at h
  split at h
  · simp at h
  rename_i h1
  split at h
  · simp at h
  split at h
  · simp at h
  rename_i h3
  split at h
  · rename_i i hi
    have := findN_hit hi
    simp only [bne_iff_ne, ne_eq] at this
    exact absurd h this
  rename_i h4
  split at h
  · simp at h
  rename_i h5
  have hL := links_in h4
  have hin := inN_of hL
  have r0 : ∀ j, j < c.parts.length → Rch c.links 0 j := fun j hj => by
    have := findN_none h5 j hj
    simp only [decide_eq_false_iff_not, Int.not_lt] at this
    exact (dists_iff hin (by omega) j hj).1 this
  refine ⟨by omega, by omega, by omega, hL, fun i hi => ?_, fun o ho j hj => (r0 o ho).symm.trans (r0 j hj)⟩
  have h6 := findN_none h4 i hi
  simp only [bne_eq_false_iff_eq] at h6
  unfold linkE at h6
  split at h6
  · omega
  · rename_i h7
    simp only [Bool.or_eq_true, decide_eq_true_eq, not_or, Int.not_le] at h7
    omega
theorem RightF.inN {c : Config} (h : RightF c) : InN c.links c.parts.length := inN_of h.inL
theorem RightF.dist {c : Config} (h : RightF c) {o : Nat} (ho : o < c.parts.length) : IsDist c.links o c.parts.length (fun j => (distsL c o).getD j default) := isDist_of h.inN ho (h.reach o ho)
theorem RightF.low {c : Config} (h : RightF c) {o : Nat} (ho : o < c.parts.length) (j : Nat) (hj : j < c.parts.length) : (distsL c o).getD j default < c.parts.length := levN_low (levN_all h.inN ho _) j hj ((h.dist ho).nn j hj)
theorem RightF.sym {c : Config} (h : RightF c) {p q : Nat} (hp : p < c.parts.length) (hq : q < c.parts.length) : (distsL c p).getD q default = (distsL c q).getD p default := IsDist.sym h.inN hp hq (h.dist hp) (h.dist hq)
/-! ### package hops' sweeps -/
/-- no less than D. -/
def Above (n : Nat) (D : Nat → Int) (d : List Int) : Prop := d.length = n ∧ ∀ j, j < n → D j ≤ d.getD j default
theorem relaxM1_get {l : Link} {d : List Int} {n : Nat} (hl : d.length = n) (ha : l.a.toNat < n) (j : Nat) : (relaxM1 l d).getD j default = if j = l.a.toNat then (if d.getD l.b.toNat default + 1 < d.getD l.a.toNat default then d.getD l.b.toNat default + 1 else d.getD l.a.toNat default) else d.getD j default := by
  unfold relaxM1
  rw [getD_set (hi := by omega)]
theorem relaxM2_get {l : Link} {d : List Int} {n : Nat} (hl : d.length = n) (hb : l.b.toNat < n) (j : Nat) : (relaxM2 l d).getD j default = if j = l.b.toNat then (if d.getD l.a.toNat default + 1 < d.getD l.b.toNat default then d.getD l.a.toNat default + 1 else d.getD l.b.toNat default) else d.getD j default := by
  unfold relaxM2
  rw [getD_set (hi := by omega)]
theorem relaxM_len (l : Link) (d : List Int) : (relaxM l d).length = d.length := by simp [relaxM, relaxM1, relaxM2]
theorem relaxM_facts {l : Link} {d : List Int} {n : Nat} (hl : d.length = n) (ha : l.a.toNat < n) (hb : l.b.toNat < n) : (∀ j, j < n → (relaxM l d).getD j default ≤ d.getD j default) ∧ (relaxM l d).getD l.a.toNat default ≤ d.getD l.b.toNat default + 1 ∧ (relaxM l d).getD l.b.toNat default ≤ d.getD l.a.toNat default + 1 := by
  have h1 := relaxM1_get hl ha
  have h2 := relaxM2_get (l := l) (d := relaxM1 l d) (n := n) (by simp [relaxM1, hl]) hb
  refine ⟨fun j hj => ?_, ?_, ?_⟩
  · show (relaxM2 l (relaxM1 l d)).getD j default ≤ _
    rw [h2, h1, h1, h1]
    grind
  · show (relaxM2 l (relaxM1 l d)).getD l.a.toNat default ≤ _
    rw [h2, h1, h1]
    grind
  · show (relaxM2 l (relaxM1 l d)).getD l.b.toNat default ≤ _
    rw [h2, h1, h1]
    grind
theorem relaxM_above {l : Link} {d : List Int} {n : Nat} {D : Nat → Int} (h : Above n D d) (ha : l.a.toNat < n) (hb : l.b.toNat < n) (hD : D l.b.toNat ≤ D l.a.toNat + 1 ∧ D l.a.toNat ≤ D l.b.toNat + 1) : Above n D (relaxM l d) := by
  have h1 := relaxM1_get h.1 ha
  have h2 := relaxM2_get (l := l) (d := relaxM1 l d) (n := n) (by simp [relaxM1, h.1]) hb
  have ea := h.2 _ ha
  have eb := h.2 _ hb
  refine ⟨(relaxM_len l d).trans h.1, fun j hj => ?_⟩
  have ej := h.2 j hj
  show _ ≤ (relaxM2 l (relaxM1 l d)).getD j default
  rw [h2, h1, h1, h1]
  grind
theorem sweepM_above {ls : List Link} {n o : Nat} {D : Nat → Int} (hin : InN ls n) (hD : IsDist ls o n D) {d : List Int} (h : Above n D d) : ∀ i, i ≤ ls.length → Above n D (sweep ls relaxM d i) :=
  fun i hi => sweep_ind (Above n D) h (fun i y hi h => relaxM_above h (hin i hi).1 (hin i hi).2 (hD.lip i hi)) i hi
theorem sweepM_down {ls : List Link} {n : Nat} (hin : InN ls n) {d : List Int} (hl : d.length = n) : ∀ (m k : Nat), m ≤ k → k ≤ ls.length → (sweep ls relaxM d k).length = n ∧ ∀ j, j < n → (sweep ls relaxM d k).getD j default ≤ (sweep ls relaxM d m).getD j default
  | m, 0, hm, _ => by
    obtain rfl : m = 0 := by omega
    exact ⟨hl, fun _ _ => Int.le_refl _⟩
  | m, k + 1, hm, hk => by
    have hlk := (sweepM_down hin hl 0 k (Nat.zero_le _) (by omega)).1
    have f := relaxM_facts hlk (hin k (by omega)).1 (hin k (by omega)).2
    refine ⟨(relaxM_len _ _).trans hlk, fun j hj => ?_⟩
    rcases Nat.lt_or_ge k m with h | h
    · obtain rfl : m = k + 1 := by omega
      exact Int.le_refl _
    · exact Int.le_trans (f.1 j hj) ((sweepM_down hin hl m k h (by omega)).2 j hj)
theorem sweepM_hit {ls : List Link} {n : Nat} (hin : InN ls n) {d : List Int} (hl : d.length = n) (i : Nat) (hi : i < ls.length) : (sweep ls relaxM d ls.length).getD (ls.getD i default).a.toNat default ≤ d.getD (ls.getD i default).b.toNat default + 1 ∧ (sweep ls relaxM d ls.length).getD (ls.getD i default).b.toNat default ≤ d.getD (ls.getD i default).a.toNat default + 1 := by
  have h0 := sweepM_down hin hl 0 i (Nat.zero_le _) (by omega)
  have h1 := sweepM_down hin hl (i + 1) ls.length (by omega) (Nat.le_refl _)
  have f := relaxM_facts h0.1 (hin i hi).1 (hin i hi).2
  have a0 := h0.2 _ (hin i hi).1
  have b0 := h0.2 _ (hin i hi).2
  have a1 := h1.2 _ (hin i hi).1
  have b1 := h1.2 _ (hin i hi).2
  have e : sweep ls relaxM d (i + 1) = relaxM (ls.getD i default) (sweep ls relaxM d i) := rfl
  rw [e] at a1 b1
  have e0 : sweep ls relaxM d 0 = d := rfl
  rw [e0] at a0 b0
  omega
theorem distMN_near {ls : List Link} {n o : Nat} {D : Nat → Int} (hin : InN ls n) (ho : o < n) (hD : IsDist ls o n D) (hlow : ∀ j, j < n → D j < n) : ∀ k : Nat, Above n D (distMN ls (distM0 n o) k) ∧ ∀ j, j < n → D j ≤ k → (distMN ls (distM0 n o) k).getD j default ≤ D j
  | 0 => by
    have e : ∀ j, j < n → (distM0 n o).getD j default = if j = o then 0 else (n : Int) := fun j hj => by
      unfold distM0
      rw [getD_set (hi := by simpa using ho)]
      split
      · rfl
      · exact getD_rep _ _ _ _ hj
    refine ⟨⟨by simp [distMN, distM0], fun j hj => ?_⟩, fun j hj h => ?_⟩
    · show _ ≤ (distM0 n o).getD j default
      rw [e j hj]
      split
      · rename_i h; rw [h, hD.orig]; exact Int.le_refl _
      · have := hlow j hj; omega
    · show (distM0 n o).getD j default ≤ _
      have h0 := hD.nn j hj
      have := hD.zo j hj (by omega)
      rw [e j hj, if_pos this]
      exact h0
  | k + 1 => by
    obtain ⟨h1, h2⟩ := distMN_near hin ho hD hlow k
    have hl := h1.1
    refine ⟨sweepM_above hin hD h1 _ (Nat.le_refl _), fun j hj h => ?_⟩
    show (sweep ls relaxM (distMN ls (distM0 n o) k) ls.length).getD j default ≤ D j
    have hdn := sweepM_down hin hl 0 ls.length (Nat.zero_le _) (Nat.le_refl _)
    rcases Int.lt_or_le (k : Int) (D j) with hk | hk
    · obtain ⟨i, hi, q | q⟩ := hD.step j hj (by omega)
      · have := (sweepM_hit hin hl i hi).1
        have := h2 _ (hin i hi).2 (by omega)
        rw [q.1] at *
        omega
      · have := (sweepM_hit hin hl i hi).2
        have := h2 _ (hin i hi).1 (by omega)
        rw [q.1] at *
        omega
    · exact Int.le_trans (hdn.2 j hj) (h2 j hj hk)
/-- what package hops finds is what the document asks. -/
theorem RightF.distM {c : Config} (h : RightF c) {o : Nat} (ho : o < c.parts.length) : distM c o = distsL c o := by
  have hn := distMN_near h.inN ho (h.dist ho) (h.low ho) c.parts.length
  have hl : (Pl.distM c o).length = c.parts.length := hn.1.1
  apply List.ext_getElem?
  intro j
  rcases Nat.lt_or_ge j c.parts.length with hj | hj
  · have h1 := hn.1.2 j hj
    have h2 := hn.2 j hj (by have := h.low ho j hj; omega)
    have h3 : (Pl.distM c o).getD j default = (distsL c o).getD j default := Int.le_antisymm h2 h1
    rw [List.getD_eq_getElem?_getD, List.getD_eq_getElem?_getD, List.getElem?_eq_getElem (by omega), List.getElem?_eq_getElem (by rw [distsL_len]; omega)] at h3
    rw [List.getElem?_eq_getElem (by omega), List.getElem?_eq_getElem (by rw [distsL_len]; omega)]
    simpa using h3
  · rw [List.getElem?_eq_none (by omega), List.getElem?_eq_none (by rw [distsL_len]; omega)]
end Go.Proofs.YtleflkgdbagmnaaDoor.Pl
