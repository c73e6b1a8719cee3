/- The document's own answer to: may a frame be? -/
import Derived.Test.YtliejllegabdnaaDoorSmE
import Derived.Test.YtliejllegabdnaaDoorFrSpareR
import Derived.Test.YtliejllegabdnaaDoorFrSameR
import Derived.Test.YtliejllegabdnaaDoorFrAgesR
import Derived.Test.YtliejllegabdnaaDoorFrSmall
namespace Go.Proofs.YtliejllegabdnaaDoor.Fr
open Go.RowKit Go.Proofs.YtliejllegabdnaaDoor.Sm Go.Proofs.YtliejllegabdnaaDoor.Wr Go.Proofs.YtliejllegabdnaaDoor.Ev
set_option maxHeartbeats 4000000
set_option maxRecDepth 100000

theorem below_draw (B : Nat) (w : World) : Below B w w.drew := ⟨rfl, rfl, rfl, Nat.le_refl _, fun _ _ => rfl⟩
theorem mayR_calls (f : Frame) (v : Value) (B : Nat) (w : World) (hf : FrV w B v f) (hB : B ≤ w.heap.size) :
    Calls Tryd.prog 13 #[v] w fun e w' => e = .returned (.bool (mayB f)) ∧ Below w.heap.size w w' := by
  obtain ⟨a, n, c, a', n', c', ev, ra, rb, hw⟩ := id hf
  subst ev
  have hlen := rb.len
  refine enter (N := 127) Tryd.func13 rfl rfl (Nat.le_of_ble_eq_true rfl) fun act I0 => ?_
  refine seq_ok I0 (by kernel_rfl) (by kernel_rfl) fun ρ1 a1 w1 I1 rn1 => ?_
  have hb1 := rn1.below
  have J1 := I1.to [1] (s2 := { tab := [⟨1, [], .p 0 0⟩], mem := [(25, (cells f (.slice a n c) (.slice a' n' c')))] }) (by kernel_rfl)
  clear I0 I1
  refine wp_seq (wp_seq ?_)
  refine held_begin (fun _ => True) (List.range 31) 4 trivial J1 (by kernel_rfl) (by kernel_rfl) (fun _ _ d _ _ h => by cases d <;> exact h) (by kernel_rfl) (by kernel_rfl) (by kernel_rfl) (by kernel_rfl) fun a2 I2 => ?_
  have J2 := I2.to [1, 31, 32, 33] (s2 := { tab := [⟨1, [], .p 0 0⟩, ⟨31, [], .v (.bool (decide (f.kind < 1) || decide (f.kind > 5) || decide (f.part < 0) || decide (f.part ≥ 6) || decide (f.node < 0) || decide (f.node ≥ 12)))⟩, ⟨32, [(31, false)], .v (.agg (cells f (.slice a n c) (.slice a' n' c')).toArray)⟩, ⟨33, [(31, false)], .v (.agg (cells f (.slice a n c) (.slice a' n' c')).toArray)⟩], mem := [(25, (cells f (.slice a n c) (.slice a' n' c')))] }) (by kernel_rfl)
  clear I2 J1
  have hf1 := (hf.below (hb1.mono hB)).below (below_draw B w1)
  have HB0 := hb1.trans (below_draw _ w1)
  clear hb1
  generalize w1.drew = w2 at *
  have hB2 : B ≤ w2.heap.size := Nat.le_trans hB HB0.size
  obtain ⟨z, hz⟩ : ∃ z, (decide (f.kind < 1) || decide (f.kind > 5) || decide (f.part < 0) || decide (f.part ≥ 6) || decide (f.node < 0) || decide (f.node ≥ 12)) = z := ⟨_, rfl⟩
  rw [hz] at J2
  cases z with
  | true =>
    refine held_skip (i := 31) (n := 3) trivial J2 rfl (by kernel_rfl) (fun _ _ d _ _ h => by cases d <;> exact h) rfl (by kernel_rfl) (A := [(31, false)]) (by kernel_rfl) (m := 31) (b := true) (by kernel_rfl) (by kernel_rfl) fun a3 I3 => ?_
    refine held_skip (i := 32) (n := 2) trivial I3 rfl (by kernel_rfl) (fun _ _ d _ _ h => by cases d <;> exact h) rfl (by kernel_rfl) (A := [(31, false)]) (by kernel_rfl) (m := 31) (b := true) (by kernel_rfl) (by kernel_rfl) fun a4 I4 => ?_
    refine held_skip (i := 33) (n := 1) trivial I4 rfl (by kernel_rfl) (fun _ _ d _ _ h => by cases d <;> exact h) rfl (by kernel_rfl) (A := [(31, false)]) (by kernel_rfl) (m := 31) (b := true) (by kernel_rfl) (by kernel_rfl) fun a5 I5 => ?_
    refine held_pick (i := 34) (n := 0) trivial I5 rfl (by kernel_rfl) (fun _ _ d _ _ h => by cases d <;> exact h) rfl (by kernel_rfl) (by kernel_rfl) (by kernel_rfl) (c := .tmp 31) (x := .const (.bool true)) (y := .tmp 36) rfl (b := true) (by kernel_rfl) (av := .v (.bool true)) (by kernel_rfl) fun a6 I6 => ?_
    refine held_done (by kernel_rfl) ?_
    refine cond_ok I6 (z := true) (by kernel_rfl) (fun _ => ?_) (fun h => by cases h)
    have HB := HB0
    refine seq_ok I6 (by kernel_rfl) (by kernel_rfl) fun ρx ax wx Ix rnx => ?_
    have hbx := rnx.below
    refine wp_ret ?_
    simp only [Exit.then]
    refine ret1 Ix rfl (v := .bool false) (by kernel_rfl) ⟨?_, Below.trans HB hbx⟩
    have : mayB f = false := by
      rw [Bool.eq_false_iff]
      intro hm
      obtain ⟨⟨h1, h2, h3⟩, h4, h5, h6, h7⟩ := may_iff.1 hm
      simp only [Bool.or_eq_true, decide_eq_true_eq] at hz
      omega
    rw [this]
  | false =>
    have J3 := (J2.strip (m := 31) (b := false) (by kernel_rfl)).to [1, 31, 32, 33] (s2 := { tab := [⟨1, [], .p 0 0⟩, ⟨31, [], .v (.bool false)⟩, ⟨32, [], .v (.agg (cells f (.slice a n c) (.slice a' n' c')).toArray)⟩, ⟨33, [], .v (.agg (cells f (.slice a n c) (.slice a' n' c')).toArray)⟩], mem := [(25, (cells f (.slice a n c) (.slice a' n' c')))] }) (by kernel_rfl)
    clear J2
    refine held_call (i := 31) (n := 3) (l := [.func 26, .tmp 33]) (A := [(31, false)]) (f := 26) (args := #[.agg (cells f (.slice a n c) (.slice a' n' c')).toArray]) (R := fun v w' => ∃ cs : List Value, v = .agg cs.toArray ∧ FrV w' B (.agg cs.toArray) (spare f) ∧ Below w2.heap.size w2 w') J3 rfl rfl (by kernel_rfl) (by kernel_rfl) (by kernel_rfl) (by kernel_rfl) rfl (by kernel_rfl) (fun u => (by kernel_rfl)) ?_ (fun v w' h => by obtain ⟨_, _, _, h⟩ := h; exact h) (fun _ _ _ => trivial) ?_
    · refine (spareR_calls f _ B w2 hf1 hB2).mono ?_
      rintro e w' ⟨cs, rfl, _, _, h1, h2⟩
      exact ⟨_, rfl, cs, rfl, h1, h2⟩
    rintro v a3 w3 ⟨cs, rfl, hf3, hb3⟩ I3
    have hf2 := hf1.below (hb3.mono hB2)
    have hB3 : B ≤ w3.heap.size := Nat.le_trans hB2 hb3.size
    refine held_call (i := 32) (n := 2) (l := [.func 16, .tmp 32, .tmp 34]) (A := [(31, false)]) (f := 16) (args := #[.agg (cells f (.slice a n c) (.slice a' n' c')).toArray, .agg cs.toArray]) (R := fun v w' => v = .bool (decide (f = spare f)) ∧ Below w3.heap.size w3 w') I3 rfl rfl (by kernel_rfl) (by kernel_rfl) (by kernel_rfl) (by kernel_rfl) rfl (by kernel_rfl) (fun u => (by kernel_rfl)) ?_ (fun v w' h => h.2) (fun _ _ _ => trivial) ?_
    · refine (sameR_calls _ _ f (spare f) B B w3 hf2 hf3 hB3 hB3).mono ?_
      rintro e w' ⟨rfl, h⟩
      exact ⟨_, rfl, rfl, h⟩
    rintro v a4 w4 ⟨rfl, hb4⟩ I4
    refine held_more [33, 34] (fuel := 0) trivial I4 rfl (by kernel_rfl) (fun _ _ d _ _ h => by cases d <;> exact h) rfl (by kernel_rfl) (by kernel_rfl) (by kernel_rfl) fun a5 I5 => ?_
    refine held_done (by kernel_rfl) ?_
    have J5 := I5.to [1, 37] (s2 := { tab := [⟨1, [], .p 0 0⟩, ⟨37, [], .v (.bool (false || !decide (f = spare f)))⟩], mem := [(25, (cells f (.slice a n c) (.slice a' n' c')))] }) (by kernel_rfl)
    clear I3 I4 I5 J3
    have HB := HB0.trans ((hb3.trans (hb4.mono hb3.size)).mono HB0.size)
    clear HB0 hb3 hb4 hf3 hf2
    refine cond_ok J5 (z := false || !decide (f = spare f)) (by kernel_rfl) (fun hs => ?_) (fun hs => ?_)
    refine seq_ok J5 (by kernel_rfl) (by kernel_rfl) fun ρx ax wx Ix rnx => ?_
    have hbx := rnx.below
    refine wp_ret ?_
    simp only [Exit.then]
    refine ret1 Ix rfl (v := .bool false) (by kernel_rfl) ⟨?_, Below.trans HB hbx⟩
    have : mayB f = false := by
      rw [Bool.eq_false_iff]
      intro hm
      obtain ⟨⟨h1, h2, h3⟩, h4, h5, h6, h7⟩ := may_iff.1 hm
      simp only [Bool.false_or, Bool.not_eq_true', decide_eq_false_iff_not] at hs
      exact hs h4
    rw [this]
    refine wp_skip ?_
    simp only [Exit.then]
    have hs1 : f = spare f := by simpa using hs
    clear hs
    have hrow : RowI w4 w4.heap.size a n c f.ages := (ra.below (HB.mono hB)).more (Nat.le_trans hB HB.size)
    refine wp_seq (wp_seq (wp_region_list ?_))
    refine row_ok 11 J5 (by kernel_rfl) (by kernel_rfl) fun ρ6 a6 w6 I6 rn6 => ?_
    have hb6 := rn6.below
    have hrow6 : RowI w6 w.heap.size a n c f.ages := ((ra.more hB).below HB).below hb6
    have HB6 := HB.trans hb6
    clear HB hb6 hrow J5
    simp only [List.drop_succ_cons, List.drop_zero]
    refine quiet_ok (l := [.func 27, .tmp 48]) (A := [(46, true)]) (f := 27) (args := #[.slice a n c]) I6 (by kernel_rfl) (by kernel_rfl) rfl (by kernel_rfl) (fun u => (by kernel_rfl)) (agesR_calls a n c f.ages w.heap.size w6 hrow6) fun a7 I7 => ?_
    refine row_ok 2 I7 (by kernel_rfl) (by kernel_rfl) fun ρ8 a8 w8 I8 rn8 => ?_
    have hb8 := rn8.below
    have J8 := I8.to [1, 51] (s2 := { tab := [⟨1, [], .p 0 0⟩, ⟨51, [], .v (.bool ((f.kind == 2 || f.kind == 4) && !agesOk f.ages))⟩], mem := [(25, (cells f (.slice a n c) (.slice a' n' c')))] }) (by kernel_rfl)
    have HB := HB6.trans hb8
    clear HB6 hb8 I6 I7 I8 hrow6
    show (Code.cond _ _ _).wp _ _ _ _
    refine cond_ok J8 (z := ((f.kind == 2 || f.kind == 4) && !agesOk f.ages)) (by kernel_rfl) (fun hs => ?_) (fun hs => ?_)
    refine seq_ok J8 (by kernel_rfl) (by kernel_rfl) fun ρx ax wx Ix rnx => ?_
    have hbx := rnx.below
    refine wp_ret ?_
    simp only [Exit.then]
    refine ret1 Ix rfl (v := .bool false) (by kernel_rfl) ⟨?_, Below.trans HB hbx⟩
    have : mayB f = false := by
      rw [Bool.eq_false_iff]
      intro hm
      obtain ⟨⟨h1, h2, h3⟩, h4, h5, h6, h7⟩ := may_iff.1 hm
      simp only [Bool.and_eq_true, Bool.or_eq_true, beq_iff_eq, Bool.not_eq_true'] at hs
      have := h5 hs.1
      rw [hs.2] at this
      cases this
    rw [this]
    refine wp_skip ?_
    simp only [Exit.then]
    have hs3 : f.kind = 2 ∨ f.kind = 4 → agesOk f.ages = true := by
      intro hk
      rw [Bool.and_eq_false_iff] at hs
      rcases hs with hs | hs
      · exfalso
        simp only [Bool.or_eq_false_iff, beq_eq_false_iff_ne, ne_eq] at hs
        rcases hk with hk | hk
        · exact hs.1 hk
        · exact hs.2 hk
      · simpa using hs
    clear hs
    refine wp_seq (seq_ok J8 (by kernel_rfl) (by kernel_rfl) fun ρ9 a9 w9 I9 rn9 => ?_)
    have hb9 := rn9.below
    have J9 := I9.to [1, 64] (s2 := { tab := [⟨1, [], .p 0 0⟩, ⟨64, [], .v (.bool (f.kind == 5 && (decide (f.seq < 1) || decide (f.seq > 2147483648))))⟩], mem := [(25, (cells f (.slice a n c) (.slice a' n' c')))] }) (by kernel_rfl)
    have HB9 := HB.trans hb9
    clear HB hb9 I9 J8
    have HB := HB9
    clear HB9
    refine cond_ok J9 (z := (f.kind == 5 && (decide (f.seq < 1) || decide (f.seq > 2147483648)))) (by kernel_rfl) (fun hs => ?_) (fun hs => ?_)
    refine seq_ok J9 (by kernel_rfl) (by kernel_rfl) fun ρx ax wx Ix rnx => ?_
    have hbx := rnx.below
    refine wp_ret ?_
    simp only [Exit.then]
    refine ret1 Ix rfl (v := .bool false) (by kernel_rfl) ⟨?_, Below.trans HB hbx⟩
    have : mayB f = false := by
      rw [Bool.eq_false_iff]
      intro hm
      obtain ⟨⟨h1, h2, h3⟩, h4, h5, h6, h7⟩ := may_iff.1 hm
      simp only [Bool.and_eq_true, Bool.or_eq_true, beq_iff_eq, decide_eq_true_eq] at hs
      have := h6 hs.1
      omega
    rw [this]
    refine wp_skip ?_
    simp only [Exit.then]
    have hs5 : f.kind = 5 → 1 ≤ f.seq ∧ f.seq ≤ 2147483648 := by
      intro hk
      rw [Bool.and_eq_false_iff] at hs
      rcases hs with hs | hs
      · exact absurd hk (by simpa using hs)
      · simp only [Bool.or_eq_false_iff, decide_eq_false_iff_not] at hs
        omega
    clear hs
    refine wp_seq (seq_ok J9 (by kernel_rfl) (by kernel_rfl) fun ρ10 a10 w10 I10 rn10 => ?_)
    have hb10 := rn10.below
    have J10 := I10.to [1, 92] (s2 := { tab := [⟨1, [], .p 0 0⟩, ⟨92, [], .v (.bool (decide (f.wait < 0) || decide (f.wait > 60000) || decide (f.mask < 0) || decide (f.mask ≥ 4096) || decide (f.link < 0) || decide (f.link ≥ 10)))⟩], mem := [(25, (cells f (.slice a n c) (.slice a' n' c')))] }) (by kernel_rfl)
    have HB10 := HB.trans hb10
    clear HB hb10 I10 J9
    have HB := HB10
    clear HB10
    refine cond_ok J10 (z := (decide (f.wait < 0) || decide (f.wait > 60000) || decide (f.mask < 0) || decide (f.mask ≥ 4096) || decide (f.link < 0) || decide (f.link ≥ 10))) (by kernel_rfl) (fun hs => ?_) (fun hs => ?_)
    refine seq_ok J10 (by kernel_rfl) (by kernel_rfl) fun ρx ax wx Ix rnx => ?_
    have hbx := rnx.below
    refine wp_ret ?_
    simp only [Exit.then]
    refine ret1 Ix rfl (v := .bool false) (by kernel_rfl) ⟨?_, Below.trans HB hbx⟩
    have : mayB f = false := by
      rw [Bool.eq_false_iff]
      intro hm
      obtain ⟨⟨h1, h2, h3⟩, h4, h5, h6, h7⟩ := may_iff.1 hm
      simp only [Bool.or_eq_true, decide_eq_true_eq] at hs
      omega
    rw [this]
    refine wp_skip ?_
    simp only [Exit.then]
    refine seq_row ?_
    refine row_ok 2 J10 (by kernel_rfl) (by kernel_rfl) fun ρ11 a11 w11 I11 rn11 => ?_
    have hb11 := rn11.below
    simp only [List.drop_succ_cons, List.drop_zero]
    refine quiet_ok (l := [.func 28, .tmp 94, .const (.int .i64 0), .const (.int .i64 1099511627776)]) (A := []) (f := 28) (args := #[.int .i64 f.cycle, .int .i64 0, .int .i64 1099511627776]) I11 (by kernel_rfl) (by kernel_rfl) rfl (by kernel_rfl) (fun u => (by kernel_rfl)) (within_calls f.cycle 0 1099511627776 w11) fun a12 I12 => ?_
    refine row_ok 3 I12 (by kernel_rfl) (by kernel_rfl) fun ρ13 a13 w13 I13 rn13 => ?_
    have hb13 := rn13.below
    simp only [List.drop_succ_cons, List.drop_zero]
    refine quiet_ok (l := [.func 29, .tmp 98]) (A := [(96, true)]) (f := 29) (args := #[.int .i64 f.offset]) I13 (by kernel_rfl) (by kernel_rfl) rfl (by kernel_rfl) (fun u => (by kernel_rfl)) (time_calls f.offset w13) fun a14 I14 => ?_
    refine row_ok 28 I14 (by kernel_rfl) (by kernel_rfl) fun ρ15 a15 w15 I15 rn15 => ?_
    have hb15 := rn15.below
    show Code.ret.wp _ _ _ _
    refine wp_ret (ret1 I15 rfl (v := .bool (decide (0 ≤ f.cycle ∧ f.cycle ≤ 1099511627776) && decide (-1099511627776 ≤ f.offset ∧ f.offset ≤ 1099511627776) && decide (f.frm ≥ 0) && decide (f.frm < 6) && decide (f.to ≥ 0) && decide (f.to < 6) && decide ((n' : Int) ≤ 24))) (by kernel_rfl) ⟨?_, HB.trans (hb11.trans (hb13.trans hb15))⟩)
    congr 2
    rw [Bool.eq_iff_iff, may_iff]
    simp only [Bool.and_eq_true, decide_eq_true_eq]
    simp only [Bool.or_eq_false_iff, decide_eq_false_iff_not] at hs hz
    constructor
    · intro h
      refine ⟨by omega, hs1, hs3, hs5, by omega⟩
    · intro h
      omega
end Go.Proofs.YtliejllegabdnaaDoor.Fr
