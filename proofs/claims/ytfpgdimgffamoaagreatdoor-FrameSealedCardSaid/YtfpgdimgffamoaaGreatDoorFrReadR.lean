/- The document's own read, where it ends early: too few bytes, a wrong sum, no such kind. -/
import Derived.Test.YtfpgdimgffamoaaGreatDoorFrFdAges
import Derived.Test.YtfpgdimgffamoaaGreatDoorFrDec
import Derived.Test.YtfpgdimgffamoaaGreatDoorSmOpenR
namespace Go.Proofs.YtfpgdimgffamoaaGreatDoor.Fr
open Go.RowKit Go.Proofs.YtfpgdimgffamoaaGreatDoor.Sm Go.Proofs.YtfpgdimgffamoaaGreatDoor.Wr
set_option maxHeartbeats 4000000
set_option maxRecDepth 100000
set_option linter.unusedVariables false

/-- what read returns. -/
def RetR (w : World) (res : Except (Int × Nat) Frame) (x : Ending) (w' : World) : Prop :=
  ∃ cs : List Value, x = .returned (.tuple #[.agg cs.toArray, .int .i64 (noOf (errOf res)), .int .i64 (atOf (errOf res) : Nat)]) ∧ FrV w' w'.heap.size (.agg cs.toArray) (frOf res) ∧ Below w.heap.size w w'
section
variable {a : Option Addr} {n c : Nat} {l : List UInt8} {w : World}
theorem read_short (hr : Row8 w w.heap.size a n c l) (hs : l.length < 7) :
    Calls Tryz.prog 16 #[.slice a n c] w fun x w' => RetR w (decX l) x w' := by
  have hdx : decX l = .error (2, 0) := by unfold decX; rw [if_pos hs]
  have hln := hr.len
  refine Ev.enter (N := 148) Tryz.func16 rfl rfl (Nat.le_of_ble_eq_true rfl) fun act I0 => ?_
  refine Ev.seq_q I0 (by kernel_rfl) (by kernel_rfl) (by kernel_rfl) fun ρ1 a1 w1 I1 hb1 => ?_
  refine wp_seq (Ev.seq_v I1 (by kernel_rfl) (by kernel_rfl) fun a2 I2 => ?_)
  have J2 := I2.to [0, 2, 11] (s2 := { tab := [⟨0, [], .v (.slice a n c)⟩, ⟨2, [], .p 0 0⟩, ⟨11, [], .v (.bool (decide ((n : Int) < 7)))⟩], mem := [(26, zeros)] }) (by kernel_rfl)
  clear I0 I1 I2
  refine Ev.condT_ok J2 (z := decide ((n : Int) < 7)) (by kernel_rfl) (by rw [decide_eq_true_eq]; omega) ?_
  refine Ev.seq_row ?_
  refine Ev.row_m 4 J2 (by kernel_rfl) (by kernel_rfl) (by kernel_rfl) fun ax wx Ix rx => ?_
  show Code.ret.wp _ _ _ _
  refine wp_ret ?_
  simp only [Exit.then]
  refine Ev.ret3 Ix rfl (v := .agg zeros.toArray) (v' := .int .i64 2) (v'' := .int .i64 0) (by kernel_rfl) (by kernel_rfl) (by kernel_rfl) ?_
  rw [show decX l = _ from hdx]
  exact ⟨zeros, rfl, zeros_frame _, hb1.trans rx.below⟩
theorem read_sum (hr : Row8 w w.heap.size a n c l) (hn : n ≤ 1000000) (hs : ¬ l.length < 7) (hz : isSealed l = false) :
    Calls Tryz.prog 16 #[.slice a n c] w fun x w' => RetR w (decX l) x w' := by
  have hdx : decX l = .error (4, l.length - 4) := by unfold decX; rw [if_neg hs, hz]; rfl
  have hln := hr.len
  refine Ev.enter (N := 148) Tryz.func16 rfl rfl (Nat.le_of_ble_eq_true rfl) fun act I0 => ?_
  refine Ev.seq_q I0 (by kernel_rfl) (by kernel_rfl) (by kernel_rfl) fun ρ1 a1 w1 I1 hb1 => ?_
  refine wp_seq (Ev.seq_v I1 (by kernel_rfl) (by kernel_rfl) fun a2 I2 => ?_)
  have J2 := I2.to [0, 2, 11] (s2 := { tab := [⟨0, [], .v (.slice a n c)⟩, ⟨2, [], .p 0 0⟩, ⟨11, [], .v (.bool (decide ((n : Int) < 7)))⟩], mem := [(26, zeros)] }) (by kernel_rfl)
  clear I0 I1 I2
  refine Ev.condF_ok J2 (z := decide ((n : Int) < 7)) (by kernel_rfl) (by rw [decide_eq_false_iff_not]; omega) ?_
  refine wp_skip ?_
  simp only [Exit.then]
  refine Ev.seq_row ?_
  refine Ev.row_v 1 J2 (by kernel_rfl) (by kernel_rfl) fun a3 I3 => ?_
  simp only [List.drop_succ_cons, List.drop_zero]
  refine Ev.call_ok (l := [.func 26, .tmp 14]) (A := []) (f := 26) (args := #[.slice a n c]) (R := fun v w' => ∃ q r, v = .tuple #[.slice q (inner l).length r, .bool (isSealed l)] ∧ Made w1 5 (inner l) (.slice q (inner l).length r) w') I3 (by kernel_rfl) (by kernel_rfl) (by kernel_rfl) rfl (by kernel_rfl) (fun u => (by kernel_rfl)) ?_ (fun v w' h => by obtain ⟨_, _, _, h⟩ := h; exact h.2) ?_
  · refine (openR_calls a n c l w1 (hr.later hb1) hn).mono ?_
    rintro x w' ⟨v, rfl, hm⟩
    obtain ⟨q, r, rfl, _, _⟩ := hm.slice
    exact ⟨_, rfl, q, r, rfl, hm⟩
  rintro v a4 w4 ⟨q, r, rfl, hm⟩ I4
  refine Ev.row_v 5 I4 (by kernel_rfl) (by kernel_rfl) fun a5 I5 => ?_
  have hb4 : Below w.heap.size w w4 := hb1.trans (hm.2.mono hb1.size)
  show Code.wp _ _ _ _ _
  refine wp_seq (Ev.seq_v I5 (by kernel_rfl) (by kernel_rfl) fun a6 I6 => ?_)
  have J6 := I6.to [0, 2, 5, 19] (s2 := { tab := [⟨0, [], .v (.slice a n c)⟩, ⟨2, [], .p 0 0⟩, ⟨5, [], .v (.slice q (inner l).length r)⟩, ⟨19, [], .v (.bool (!isSealed l))⟩], mem := [(26, zeros)] }) (by kernel_rfl)
  clear I3 I4 I5 I6
  refine Ev.condT_ok J6 (z := !isSealed l) (by kernel_rfl) (by rw [hz]; rfl) ?_
  refine Ev.seq_row ?_
  refine Ev.row_m 7 J6 (by kernel_rfl) (by kernel_rfl) (by kernel_rfl) fun ax wx Ix rx => ?_
  show Code.ret.wp _ _ _ _
  refine wp_ret ?_
  simp only [Exit.then]
  refine Ev.ret3 Ix rfl (v := .agg zeros.toArray) (v' := .int .i64 4) (v'' := .int .i64 (IntKind.i64.wrap ((n : Int) - 4))) (by kernel_rfl) (by kernel_rfl) (by kernel_rfl) ?_
  rw [hdx]
  refine ⟨zeros, ?_, zeros_frame _, hb4.trans rx.below⟩
  rw [show IntKind.i64.wrap ((n : Int) - 4) = ((l.length - 4 : Nat) : Int) by rw [Ev.wrap_i64 (by omega) (by omega)]; omega]
  rfl
theorem read_kind (hr : Row8 w w.heap.size a n c l) (hn : n ≤ 1000000) (hs : ¬ l.length < 7) (hz : isSealed l = true) (hk : ¬ (1 ≤ num ((inner l).take 1) ∧ num ((inner l).take 1) ≤ 5)) :
    Calls Tryz.prog 16 #[.slice a n c] w fun x w' => RetR w (decX l) x w' := by
  have hln := hr.len
  refine Ev.enter (N := 148) Tryz.func16 rfl rfl (Nat.le_of_ble_eq_true rfl) fun act I0 => ?_
  refine Ev.seq_q I0 (by kernel_rfl) (by kernel_rfl) (by kernel_rfl) fun ρ1 a1 w1 I1 hb1 => ?_
  refine wp_seq (Ev.seq_v I1 (by kernel_rfl) (by kernel_rfl) fun a2 I2 => ?_)
  have J2 := I2.to [0, 2, 11] (s2 := { tab := [⟨0, [], .v (.slice a n c)⟩, ⟨2, [], .p 0 0⟩, ⟨11, [], .v (.bool (decide ((n : Int) < 7)))⟩], mem := [(26, zeros)] }) (by kernel_rfl)
  clear I0 I1 I2
  refine Ev.condF_ok J2 (z := decide ((n : Int) < 7)) (by kernel_rfl) (by rw [decide_eq_false_iff_not]; omega) ?_
  refine wp_skip ?_
  simp only [Exit.then]
  refine Ev.seq_row ?_
  refine Ev.row_v 1 J2 (by kernel_rfl) (by kernel_rfl) fun a3 I3 => ?_
  simp only [List.drop_succ_cons, List.drop_zero]
  refine Ev.call_ok (l := [.func 26, .tmp 14]) (A := []) (f := 26) (args := #[.slice a n c]) (R := fun v w' => ∃ q r, v = .tuple #[.slice q (inner l).length r, .bool (isSealed l)] ∧ Made w1 5 (inner l) (.slice q (inner l).length r) w') I3 (by kernel_rfl) (by kernel_rfl) (by kernel_rfl) rfl (by kernel_rfl) (fun u => (by kernel_rfl)) ?_ (fun v w' h => by obtain ⟨_, _, _, h⟩ := h; exact h.2) ?_
  · refine (openR_calls a n c l w1 (hr.later hb1) hn).mono ?_
    rintro x w' ⟨v, rfl, hm⟩
    obtain ⟨q, r, rfl, _, _⟩ := hm.slice
    exact ⟨_, rfl, q, r, rfl, hm⟩
  rintro v a4 w4 ⟨q, r, rfl, hm⟩ I4
  refine Ev.row_v 5 I4 (by kernel_rfl) (by kernel_rfl) fun a5 I5 => ?_
  have hb4 : Below w.heap.size w w4 := hb1.trans (hm.2.mono hb1.size)
  show Code.wp _ _ _ _ _
  refine wp_seq (Ev.seq_v I5 (by kernel_rfl) (by kernel_rfl) fun a6 I6 => ?_)
  have J6 := I6.to [0, 2, 5, 19] (s2 := { tab := [⟨0, [], .v (.slice a n c)⟩, ⟨2, [], .p 0 0⟩, ⟨5, [], .v (.slice q (inner l).length r)⟩, ⟨19, [], .v (.bool (!isSealed l))⟩], mem := [(26, zeros)] }) (by kernel_rfl)
  clear I3 I4 I5 I6
  refine Ev.condF_ok J6 (z := !isSealed l) (by kernel_rfl) (by rw [hz]; rfl) ?_
  refine wp_skip ?_
  simp only [Exit.then]
  have hin : inner l = l.take (l.length - 4) := inner_yes hz
  have hil : (inner l).length = l.length - 4 := by rw [hin, List.length_take]; omega
  obtain ⟨gg, c1, hgq, hg, hgs⟩ := hm.1.form (by omega)
  injection hgq with e1 e2 e3
  subst e1 e3
  obtain ⟨d, hd⟩ : ∃ d, (inner l)[0]? = some d := ⟨_, List.getElem?_eq_getElem (by omega)⟩
  have hc0 : w4.cell? ⟨gg, 0, none⟩ = some (.int .u8 (d.toNat : Int)) := by rw [hm.1.cellAt _ (by omega), cells8_get, hd]; rfl
  refine wp_seq (wp_seq (wp_region_list ?_))
  refine Ev.row_v 1 J6 (by kernel_rfl) (by kernel_rfl) fun a7 I7 => ?_
  simp only [List.drop_succ_cons, List.drop_zero]
  refine Ev.idx_ok (A := []) (x := .tmp 24) (y := .const (.int .i64 0)) (xv := .slice (some ⟨gg, 0, none⟩) (inner l).length r) (yv := .int .i64 ((0 : Nat) : Int)) (v := .pointer (some ⟨gg, 0, none⟩)) I7 (by kernel_rfl) (by kernel_rfl) rfl (by kernel_rfl) (by kernel_rfl) (Ev.run_index1 Tryz.underlying22 (by kernel_rfl) gg _ _ 0 (by omega) _) fun a8 I8 => ?_
  refine Ev.ld_ok (A := []) (x := .tmp 25) (xv := .pointer (some ⟨gg, 0, none⟩)) (v := .int .u8 (d.toNat : Int)) I8 (by kernel_rfl) (by kernel_rfl) rfl (by kernel_rfl) (Ev.isRow_false (by kernel_rfl) hc0) fun a9 I9 => ?_
  refine Ev.row_v 3 I9 (by kernel_rfl) (by kernel_rfl) fun a10 I10 => ?_
  simp only [List.drop_succ_cons, List.drop_zero]
  refine Ev.idx_ok (A := [(28, false)]) (x := .tmp 29) (y := .const (.int .i64 0)) (xv := .slice (some ⟨gg, 0, none⟩) (inner l).length r) (yv := .int .i64 ((0 : Nat) : Int)) (v := .pointer (some ⟨gg, 0, none⟩)) I10 (by kernel_rfl) (by kernel_rfl) rfl (by kernel_rfl) (by kernel_rfl) (Ev.run_index1 Tryz.underlying22 (by kernel_rfl) gg _ _ 0 (by omega) _) fun a11 I11 => ?_
  refine Ev.ld_ok (A := [(28, false)]) (x := .tmp 30) (xv := .pointer (some ⟨gg, 0, none⟩)) (v := .int .u8 (d.toNat : Int)) I11 (by kernel_rfl) (by kernel_rfl) rfl (by kernel_rfl) (Ev.isRow_false (by kernel_rfl) hc0) fun a12 I12 => ?_
  refine Ev.row_v 2 I12 (by kernel_rfl) (by kernel_rfl) fun a13 I13 => ?_
  have J13 := I13.to [2, 5, 33] (s2 := { tab := [⟨2, [], .p 0 0⟩, ⟨5, [], .v (.slice (some ⟨gg, 0, none⟩) (inner l).length r)⟩, ⟨33, [], .v (.bool (decide ((d.toNat : Int) < 1) || decide ((d.toNat : Int) > 5)))⟩], mem := [(26, zeros)] }) (by kernel_rfl)
  clear I7 I8 I9 I10 I11 I12 I13 J6
  show (Code.cond _ _ _).wp _ _ _ _
  have hnum : num ((inner l).take 1) = d.toNat := by
    cases hi : inner l with
    | nil => rw [hi] at hd; cases hd
    | cons y ys =>
      rw [hi] at hd
      obtain rfl : y = d := by simpa using hd
      simp [num]
  rw [hnum] at hk
  have hdx : decX l = .error (5, 0) := by
    unfold decX
    rw [if_neg hs, hz, if_pos rfl, ← hin, readX_run (by omega), frameX_eq (by omega), if_neg (by rw [hnum]; exact hk)]
  refine Ev.condT_ok J13 (z := (decide ((d.toNat : Int) < 1) || decide ((d.toNat : Int) > 5))) (by kernel_rfl) (by simp only [Bool.or_eq_true, decide_eq_true_eq]; omega) ?_
  refine Ev.seq_row ?_
  refine Ev.row_m 4 J13 (by kernel_rfl) (by kernel_rfl) (by kernel_rfl) fun ax wx Ix rx => ?_
  show Code.ret.wp _ _ _ _
  refine wp_ret ?_
  simp only [Exit.then]
  refine Ev.ret3 Ix rfl (v := .agg zeros.toArray) (v' := .int .i64 5) (v'' := .int .i64 0) (by kernel_rfl) (by kernel_rfl) (by kernel_rfl) ?_
  rw [show decX l = _ from hdx]
  exact ⟨zeros, rfl, zeros_frame _, hb4.trans rx.below⟩
end
end Go.Proofs.YtfpgdimgffamoaaGreatDoor.Fr
