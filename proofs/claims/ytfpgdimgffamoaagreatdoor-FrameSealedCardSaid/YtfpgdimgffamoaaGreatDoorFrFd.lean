/- The document's own reader of fields: begin, number, offset. -/
import Derived.Test.YtfpgdimgffamoaaGreatDoorFrRdF
import Derived.Test.YtfpgdimgffamoaaGreatDoorFrNum
import Derived.Test.YtfpgdimgffamoaaGreatDoorFrWithinR
namespace Go.Proofs.YtfpgdimgffamoaaGreatDoor.Fr
open Go.RowKit Go.Proofs.YtfpgdimgffamoaaGreatDoor.Sm Go.Proofs.YtfpgdimgffamoaaGreatDoor.Wr
set_option maxHeartbeats 4000000
set_option maxRecDepth 100000
set_option linter.unusedVariables false

section
variable {B : Nat} {a : Option Addr} {n c : Nat} {e p : Int} {w W : World} {g : Nat} {l : List UInt8} {at_ : Nat} {bad : Bool}
theorem begin_err (k : Nat) (he : e ≠ 0) (h : FS B a n c e p w g l at_ bad) :
    Calls Tryz.prog 44 #[.pointer (some ⟨g, 0, none⟩), .int .i64 (k : Int)] w fun x w' => x = .returned (.bool false) ∧ FS B a n c e p w' g l at_ bad ∧ Beside g w w' := by
  have hn := h.row.len
  have hle := h.le
  have hsm := h.small
  refine Ev.enterP (N := 35) Tryz.func44 rfl rfl [.int .i64 (k : Int)] g h.ob rfl (Nat.le_of_ble_eq_true rfl) fun act I0 => ?_
  refine Ev.seq_v I0 (by kernel_rfl) (by kernel_rfl) fun a1 I1 => ?_
  refine wp_seq (Ev.seq_v I1 (by kernel_rfl) (by kernel_rfl) fun a2 I2 => ?_)
  refine Ev.condT_ok I2 (z := (e != 0)) (by kernel_rfl) (by simpa using he) ?_
  refine Ev.seq_v I2 (by kernel_rfl) (by kernel_rfl) fun a3 I3 => ?_
  refine wp_ret ?_
  simp only [Exit.then]
  exact Ev.ret1 I3 rfl (v := .bool false) (by kernel_rfl) ⟨rfl, h, Beside.refl _ _⟩
theorem begin_short (k : Nat) (hs : l.length < at_ + k) (h : FS B a n c 0 p w g l at_ bad) :
    Calls Tryz.prog 44 #[.pointer (some ⟨g, 0, none⟩), .int .i64 (k : Int)] w fun x w' => x = .returned (.bool false) ∧ FS B a n c 2 (at_ : Int) w' g l at_ bad ∧ Beside g w w' := by
  have hn := h.row.len
  have hle := h.le
  have hsm := h.small
  refine Ev.enterP (N := 35) Tryz.func44 rfl rfl [.int .i64 (k : Int)] g h.ob rfl (Nat.le_of_ble_eq_true rfl) fun act I0 => ?_
  refine Ev.seq_v I0 (by kernel_rfl) (by kernel_rfl) fun a1 I1 => ?_
  refine wp_seq (Ev.seq_v I1 (by kernel_rfl) (by kernel_rfl) fun a2 I2 => ?_)
  refine Ev.condF_ok I2 (z := ((0 : Int) != 0)) (by kernel_rfl) rfl ?_
  refine wp_skip ?_
  simp only [Exit.then]
  refine Ev.seq_row ?_
  refine Ev.row_s 9 I2 (by kernel_rfl) (by kernel_rfl) (by kernel_rfl) fun a3 w3 I3 hb3 _ => ?_
  have ho3 := (I3.blk (b := 0) (t := 65) (cs := fcells a n c at_ bad 0 (at_ : Int)) (by kernel_rfl)).1
  have h3 := h.after hb3 ho3 hle
  have J3 := I3.to [0, 1] (s2 := { tab := [⟨0, [], .p 0 0⟩, ⟨1, [], .v (.int .i64 (k : Int))⟩], mem := [(65, fcells a n c at_ bad 0 (at_ : Int))] }) (by kernel_rfl)
  show Code.wp _ _ _ _ _
  refine wp_seq (wp_seq (Ev.open_ok J3 (by kernel_rfl) (by kernel_rfl) (by kernel_rfl) (by kernel_rfl) fun a4 I4 => ?_))
  have J4 := I4.to [0, 31] (s2 := { tab := [⟨0, [], .p 0 0⟩, ⟨31, [], .v (.bool (decide (IntKind.i64.wrap ((n : Int) - (at_ : Int)) < (k : Int))))⟩], mem := [(65, fcells a n c at_ bad 0 (at_ : Int))] }) (by kernel_rfl)
  rw [show IntKind.i64.wrap ((n : Int) - (at_ : Int)) = (n : Int) - (at_ : Int) from Ev.wrap_i64 (by omega) (by omega)] at J4
  have hb4 := hb3.trans (beside_draw g w3)
  show (Code.cond _ _ _).wp _ _ _ _
  refine Ev.condT_ok J4 (z := (decide ((n : Int) - (at_ : Int) < (k : Int)))) (by kernel_rfl) (by rw [decide_eq_true_eq]; omega) ?_
  refine Ev.seq_row ?_
  refine Ev.row_s 4 J4 (by kernel_rfl) (by kernel_rfl) (by kernel_rfl) fun a5 w5 I5 hb5 _ => ?_
  have ho5 := (I5.blk (b := 0) (t := 65) (cs := fcells a n c at_ bad 2 (at_ : Int)) (by kernel_rfl)).1
  show Code.wp _ _ _ _ _
  refine Ev.seq_v I5 (by kernel_rfl) (by kernel_rfl) fun a6 I6 => ?_
  refine wp_ret ?_
  simp only [Exit.then]
  exact Ev.ret1 I6 rfl (v := .bool false) (by kernel_rfl) ⟨rfl, h.after (hb4.trans hb5) ho5 hle, hb4.trans hb5⟩
theorem begin_ok (k : Nat) (hs : ¬ l.length < at_ + k) (h : FS B a n c 0 p w g l at_ bad) :
    Calls Tryz.prog 44 #[.pointer (some ⟨g, 0, none⟩), .int .i64 (k : Int)] w fun x w' => x = .returned (.bool true) ∧ FS B a n c 0 (at_ : Int) w' g l at_ bad ∧ Beside g w w' := by
  have hn := h.row.len
  have hle := h.le
  have hsm := h.small
  refine Ev.enterP (N := 35) Tryz.func44 rfl rfl [.int .i64 (k : Int)] g h.ob rfl (Nat.le_of_ble_eq_true rfl) fun act I0 => ?_
  refine Ev.seq_v I0 (by kernel_rfl) (by kernel_rfl) fun a1 I1 => ?_
  refine wp_seq (Ev.seq_v I1 (by kernel_rfl) (by kernel_rfl) fun a2 I2 => ?_)
  refine Ev.condF_ok I2 (z := ((0 : Int) != 0)) (by kernel_rfl) rfl ?_
  refine wp_skip ?_
  simp only [Exit.then]
  refine Ev.seq_row ?_
  refine Ev.row_s 9 I2 (by kernel_rfl) (by kernel_rfl) (by kernel_rfl) fun a3 w3 I3 hb3 _ => ?_
  have ho3 := (I3.blk (b := 0) (t := 65) (cs := fcells a n c at_ bad 0 (at_ : Int)) (by kernel_rfl)).1
  have h3 := h.after hb3 ho3 hle
  have J3 := I3.to [0, 1] (s2 := { tab := [⟨0, [], .p 0 0⟩, ⟨1, [], .v (.int .i64 (k : Int))⟩], mem := [(65, fcells a n c at_ bad 0 (at_ : Int))] }) (by kernel_rfl)
  show Code.wp _ _ _ _ _
  refine wp_seq (wp_seq (Ev.open_ok J3 (by kernel_rfl) (by kernel_rfl) (by kernel_rfl) (by kernel_rfl) fun a4 I4 => ?_))
  have J4 := I4.to [0, 31] (s2 := { tab := [⟨0, [], .p 0 0⟩, ⟨31, [], .v (.bool (decide (IntKind.i64.wrap ((n : Int) - (at_ : Int)) < (k : Int))))⟩], mem := [(65, fcells a n c at_ bad 0 (at_ : Int))] }) (by kernel_rfl)
  rw [show IntKind.i64.wrap ((n : Int) - (at_ : Int)) = (n : Int) - (at_ : Int) from Ev.wrap_i64 (by omega) (by omega)] at J4
  have hb4 := hb3.trans (beside_draw g w3)
  show (Code.cond _ _ _).wp _ _ _ _
  refine Ev.condF_ok J4 (z := (decide ((n : Int) - (at_ : Int) < (k : Int)))) (by kernel_rfl) (by rw [decide_eq_false_iff_not]; omega) ?_
  refine wp_skip ?_
  simp only [Exit.then]
  refine Ev.seq_v J4 (by kernel_rfl) (by kernel_rfl) fun a6 I6 => ?_
  exact wp_ret (Ev.ret1 I6 rfl (v := .bool true) (by kernel_rfl) ⟨rfl, h.after hb4 ho3 hle, hb4⟩)
/-- where a reader of fields stands. -/
def FSt (B : Nat) (a : Option Addr) (n c : Nat) (w : World) (g : Nat) (l : List UInt8) : Except (Int × Nat) Nat → Prop
  | .ok pos => ∃ p, FS B a n c 0 p w g l pos false
  | .error z => z.1 ≠ 0 ∧ ∃ at_ bad, FS B a n c z.1 (z.2 : Int) w g l at_ bad
theorem cut_eq (l : List UInt8) (i k : Nat) : (l.take (i + k)).drop i = (l.drop i).take k := by rw [List.drop_take]; congr 1; omega
theorem fnumber_err (k : Nat) (lo hi : Int) (hk : 1 ≤ k ∧ k ≤ 7) (he : e ≠ 0) (h : FS B a n c e p w g l at_ bad) :
    Calls Tryz.prog 27 #[.pointer (some ⟨g, 0, none⟩), .int .i64 (k : Int), .int .i64 lo, .int .i64 hi] w fun x w' => x = .returned (.int .i64 0) ∧ FS B a n c e p w' g l at_ bad ∧ Beside g w w' := by
  refine Ev.enterP (N := 28) Tryz.func27 rfl rfl [.int .i64 (k : Int), .int .i64 lo, .int .i64 hi] g h.ob rfl (Nat.le_of_ble_eq_true rfl) fun act I0 => ?_
  refine Ev.seq_v I0 (by kernel_rfl) (by kernel_rfl) fun a1 I1 => ?_
  refine wp_seq (wp_seq (wp_region_list ?_))
  refine Ev.row_v 2 I1 (by kernel_rfl) (by kernel_rfl) fun a4 I4 => ?_
  simp only [List.drop_succ_cons, List.drop_zero]
  refine Ev.callP_ok (l := [.func 44, .tmp 10, .tmp 11]) (f := 44) (args := #[.pointer (some ⟨g, 0, none⟩), .int .i64 (k : Int)]) (t := 65) (R := fun v cs w' => cs = fcells a n c at_ bad e p ∧ v = .bool false ∧ FS B a n c e p w' g l at_ bad ∧ Beside g w w') I4 (by kernel_rfl) (by kernel_rfl) (by kernel_rfl) rfl (by kernel_rfl) (fun u => (by kernel_rfl)) ?_ ?_
  · refine (begin_err k he h).mono ?_
    rintro x w' ⟨rfl, h1, h2⟩
    exact ⟨_, _, rfl, h1.ob, rfl, rfl, h1, h2⟩
  rintro v cs a5 w5 ⟨rfl, rfl, h5, hb5⟩ I5
  refine Ev.row_v 1 I5 (by kernel_rfl) (by kernel_rfl) fun a6 I6 => ?_
  show (Code.cond _ _ _).wp _ _ _ _
  refine Ev.condT_ok I6 (z := !false) (by kernel_rfl) rfl ?_
  refine Ev.seq_v I6 (by kernel_rfl) (by kernel_rfl) fun a7 I7 => ?_
  refine wp_ret ?_
  simp only [Exit.then]
  exact Ev.ret1 I7 rfl (v := .int .i64 0) (by kernel_rfl) ⟨rfl, h5, hb5⟩
theorem fnumber_short (k : Nat) (lo hi : Int) (hk : 1 ≤ k ∧ k ≤ 7) (hs : l.length < at_ + k) (h : FS B a n c 0 p w g l at_ false) :
    Calls Tryz.prog 27 #[.pointer (some ⟨g, 0, none⟩), .int .i64 (k : Int), .int .i64 lo, .int .i64 hi] w fun x w' => x = .returned (.int .i64 0) ∧ FS B a n c 2 (at_ : Int) w' g l at_ false ∧ Beside g w w' := by
  refine Ev.enterP (N := 28) Tryz.func27 rfl rfl [.int .i64 (k : Int), .int .i64 lo, .int .i64 hi] g h.ob rfl (Nat.le_of_ble_eq_true rfl) fun act I0 => ?_
  refine Ev.seq_v I0 (by kernel_rfl) (by kernel_rfl) fun a1 I1 => ?_
  refine wp_seq (wp_seq (wp_region_list ?_))
  refine Ev.row_v 2 I1 (by kernel_rfl) (by kernel_rfl) fun a4 I4 => ?_
  simp only [List.drop_succ_cons, List.drop_zero]
  refine Ev.callP_ok (l := [.func 44, .tmp 10, .tmp 11]) (f := 44) (args := #[.pointer (some ⟨g, 0, none⟩), .int .i64 (k : Int)]) (t := 65) (R := fun v cs w' => cs = fcells a n c at_ false 2 (at_ : Int) ∧ v = .bool false ∧ FS B a n c 2 (at_ : Int) w' g l at_ false ∧ Beside g w w') I4 (by kernel_rfl) (by kernel_rfl) (by kernel_rfl) rfl (by kernel_rfl) (fun u => (by kernel_rfl)) ?_ ?_
  · refine (begin_short k hs h).mono ?_
    rintro x w' ⟨rfl, h1, h2⟩
    exact ⟨_, _, rfl, h1.ob, rfl, rfl, h1, h2⟩
  rintro v cs a5 w5 ⟨rfl, rfl, h5, hb5⟩ I5
  refine Ev.row_v 1 I5 (by kernel_rfl) (by kernel_rfl) fun a6 I6 => ?_
  show (Code.cond _ _ _).wp _ _ _ _
  refine Ev.condT_ok I6 (z := !false) (by kernel_rfl) rfl ?_
  refine Ev.seq_v I6 (by kernel_rfl) (by kernel_rfl) fun a7 I7 => ?_
  refine wp_ret ?_
  simp only [Exit.then]
  exact Ev.ret1 I7 rfl (v := .int .i64 0) (by kernel_rfl) ⟨rfl, h5, hb5⟩
theorem fnumber_ok (k : Nat) (lo hi : Int) (hk : 1 ≤ k ∧ k ≤ 7) (hs : ¬ l.length < at_ + k) (h : FS B a n c 0 p w g l at_ false) :
    Calls Tryz.prog 27 #[.pointer (some ⟨g, 0, none⟩), .int .i64 (k : Int), .int .i64 lo, .int .i64 hi] w fun x w' => x = .returned (.int .i64 (if lo ≤ (numI (gotL l at_ false (wid (k : Int)))) ∧ (numI (gotL l at_ false (wid (k : Int)))) ≤ hi then (numI (gotL l at_ false (wid (k : Int)))) else 0)) ∧ (if lo ≤ (numI (gotL l at_ false (wid (k : Int)))) ∧ (numI (gotL l at_ false (wid (k : Int)))) ≤ hi then FS B a n c 0 (at_ : Int) w' g l (at_ + k) false else FS B a n c 6 (at_ : Int) w' g l (at_ + k) false) ∧ Beside g w w' := by
  have hle := h.le
  have hw : wid (k : Int) = (k : Int) := by unfold wid; rw [if_pos (by omega)]
  have hok : okB l at_ false (wid (k : Int)) = true := by rw [hw]; exact ok_yes l at_ (by omega) (by omega)
  obtain ⟨_, y2, y3⟩ := got_yes hok
  have y4 : atN l at_ false (wid (k : Int)) = at_ + k := by rw [y2, hw]; omega
  refine Ev.enterP (N := 28) Tryz.func27 rfl rfl [.int .i64 (k : Int), .int .i64 lo, .int .i64 hi] g h.ob rfl (Nat.le_of_ble_eq_true rfl) fun act I0 => ?_
  refine Ev.seq_v I0 (by kernel_rfl) (by kernel_rfl) fun a1 I1 => ?_
  refine wp_seq (wp_seq (wp_region_list ?_))
  refine Ev.row_v 2 I1 (by kernel_rfl) (by kernel_rfl) fun a4 I4 => ?_
  simp only [List.drop_succ_cons, List.drop_zero]
  refine Ev.callP_ok (l := [.func 44, .tmp 10, .tmp 11]) (f := 44) (args := #[.pointer (some ⟨g, 0, none⟩), .int .i64 (k : Int)]) (t := 65) (R := fun v cs w' => cs = fcells a n c at_ false 0 (at_ : Int) ∧ v = .bool true ∧ FS B a n c 0 (at_ : Int) w' g l at_ false ∧ Beside g w w') I4 (by kernel_rfl) (by kernel_rfl) (by kernel_rfl) rfl (by kernel_rfl) (fun u => (by kernel_rfl)) ?_ ?_
  · refine (begin_ok k hs h).mono ?_
    rintro x w' ⟨rfl, h1, h2⟩
    exact ⟨_, _, rfl, h1.ob, rfl, rfl, h1, h2⟩
  rintro v cs a5 w5 ⟨rfl, rfl, h5, hb5⟩ I5
  refine Ev.row_v 1 I5 (by kernel_rfl) (by kernel_rfl) fun a6 I6 => ?_
  show (Code.cond _ _ _).wp _ _ _ _
  refine Ev.condF_ok I6 (z := !true) (by kernel_rfl) rfl ?_
  refine wp_skip ?_
  simp only [Exit.then]
  have J6 := I6.to [0, 1, 2, 3] (s2 := { tab := [⟨0, [], .p 0 0⟩, ⟨1, [], .v (.int .i64 (k : Int))⟩, ⟨2, [], .v (.int .i64 lo)⟩, ⟨3, [], .v (.int .i64 hi)⟩], mem := [(65, fcells a n c at_ false 0 (at_ : Int))] }) (by kernel_rfl)
  refine Ev.seq_row ?_
  refine Ev.row_v 4 J6 (by kernel_rfl) (by kernel_rfl) fun a7 I7 => ?_
  simp only [List.drop_succ_cons, List.drop_zero]
  refine Ev.callP_ok (l := [.func 45, .tmp 16, .tmp 17]) (f := 45) (args := #[.pointer (some ⟨g, 0, none⟩), .int .i64 (k : Int)]) (t := 65) (R := fun v cs w' => cs = fcells a n c (at_ + k) false 0 (at_ : Int) ∧ v = .int .i64 (numI (gotL l at_ false (wid (k : Int)))) ∧ FS B a n c 0 (at_ : Int) w' g l (at_ + k) false ∧ Beside g w5 w') I7 (by kernel_rfl) (by kernel_rfl) (by kernel_rfl) rfl (by kernel_rfl) (fun u => (by kernel_rfl)) ?_ ?_
  · refine (numberF_calls (k : Int) (by omega) (by omega) h5).mono ?_
    rintro x w' ⟨rfl, h1, h2⟩
    rw [y4, y3] at h1
    exact ⟨_, _, rfl, h1.ob, rfl, rfl, h1, h2⟩
  rintro v cs a8 w8 ⟨rfl, rfl, h8, hb8⟩ I8
  refine Ev.row_v 1 I8 (by kernel_rfl) (by kernel_rfl) fun a9 I9 => ?_
  show Code.wp _ _ _ _ _
  have J9 := I9.to [0, 9, 2, 3] (s2 := { tab := [⟨0, [], .p 0 0⟩, ⟨9, [], .v (.int .i64 (numI (gotL l at_ false (wid (k : Int)))))⟩, ⟨2, [], .v (.int .i64 lo)⟩, ⟨3, [], .v (.int .i64 hi)⟩], mem := [(65, fcells a n c (at_ + k) false 0 (at_ : Int))] }) (by kernel_rfl)
  refine wp_seq (wp_seq (wp_region_list ?_))
  refine Ev.row_v 3 J9 (by kernel_rfl) (by kernel_rfl) fun a10 I10 => ?_
  simp only [List.drop_succ_cons, List.drop_zero]
  refine Ev.quiet_ok (l := [.func 46, .tmp 19, .tmp 20, .tmp 21]) (A := []) (f := 46) (args := #[.int .i64 (numI (gotL l at_ false (wid (k : Int)))), .int .i64 lo, .int .i64 hi]) (v := .bool (decide (lo ≤ (numI (gotL l at_ false (wid (k : Int)))) ∧ (numI (gotL l at_ false (wid (k : Int)))) ≤ hi))) I10 (by kernel_rfl) (by kernel_rfl) rfl (by kernel_rfl) (fun u => (by kernel_rfl)) (within_calls (numI (gotL l at_ false (wid (k : Int)))) lo hi _) fun a11 I11 => ?_
  refine Ev.row_v 1 I11 (by kernel_rfl) (by kernel_rfl) fun a12 I12 => ?_
  have J12 := I12.to [0, 9, 23] (s2 := { tab := [⟨0, [], .p 0 0⟩, ⟨9, [], .v (.int .i64 (numI (gotL l at_ false (wid (k : Int)))))⟩, ⟨23, [], .v (.bool (!decide (lo ≤ (numI (gotL l at_ false (wid (k : Int)))) ∧ (numI (gotL l at_ false (wid (k : Int)))) ≤ hi)))⟩], mem := [(65, fcells a n c (at_ + k) false 0 (at_ : Int))] }) (by kernel_rfl)
  show (Code.cond _ _ _).wp _ _ _ _
  have hb := hb5.trans hb8
  by_cases ht : lo ≤ (numI (gotL l at_ false (wid (k : Int)))) ∧ (numI (gotL l at_ false (wid (k : Int)))) ≤ hi
  · refine Ev.condF_ok J12 (z := !decide (lo ≤ (numI (gotL l at_ false (wid (k : Int)))) ∧ (numI (gotL l at_ false (wid (k : Int)))) ≤ hi)) (by kernel_rfl) (by rw [decide_eq_true ht]; rfl) ?_
    refine wp_skip ?_
    simp only [Exit.then]
    refine Ev.seq_v J12 (by kernel_rfl) (by kernel_rfl) fun a13 I13 => ?_
    exact wp_ret (Ev.ret1 I13 rfl (v := .int .i64 (numI (gotL l at_ false (wid (k : Int))))) (by kernel_rfl) ⟨by rw [if_pos ht], by rw [if_pos ht]; exact h8, hb⟩)
  · refine Ev.condT_ok J12 (z := !decide (lo ≤ (numI (gotL l at_ false (wid (k : Int)))) ∧ (numI (gotL l at_ false (wid (k : Int)))) ≤ hi)) (by kernel_rfl) (by rw [decide_eq_false ht]; rfl) ?_
    refine Ev.seq_row ?_
    refine Ev.row_s 4 J12 (by kernel_rfl) (by kernel_rfl) (by kernel_rfl) fun a13 w13 I13 hb13 _ => ?_
    have ho13 := (I13.blk (b := 0) (t := 65) (cs := fcells a n c (at_ + k) false 6 (at_ : Int)) (by kernel_rfl)).1
    show Code.wp _ _ _ _ _
    refine Ev.seq_v I13 (by kernel_rfl) (by kernel_rfl) fun a14 I14 => ?_
    refine wp_ret ?_
    simp only [Exit.then]
    exact Ev.ret1 I14 rfl (v := .int .i64 0) (by kernel_rfl) ⟨by rw [if_neg ht], by rw [if_neg ht]; exact h8.after hb13 ho13 h8.le, hb.trans hb13⟩
theorem foffset_err (he : e ≠ 0) (h : FS B a n c e p w g l at_ bad) :
    Calls Tryz.prog 29 #[.pointer (some ⟨g, 0, none⟩)] w fun x w' => x = .returned (.int .i64 0) ∧ FS B a n c e p w' g l at_ bad ∧ Beside g w w' := by
  refine Ev.enterP (N := 18) Tryz.func29 rfl rfl [] g h.ob rfl (Nat.le_of_ble_eq_true rfl) fun act I0 => ?_
  refine Ev.seq_v I0 (by kernel_rfl) (by kernel_rfl) fun a1 I1 => ?_
  refine wp_seq (wp_seq (wp_region_list ?_))
  refine Ev.row_v 1 I1 (by kernel_rfl) (by kernel_rfl) fun a4 I4 => ?_
  simp only [List.drop_succ_cons, List.drop_zero]
  refine Ev.callP_ok (l := [.func 44, .tmp 4, .const (.int .i64 6)]) (f := 44) (args := #[.pointer (some ⟨g, 0, none⟩), .int .i64 6]) (t := 65) (R := fun v cs w' => cs = fcells a n c at_ bad e p ∧ v = .bool false ∧ FS B a n c e p w' g l at_ bad ∧ Beside g w w') I4 (by kernel_rfl) (by kernel_rfl) (by kernel_rfl) rfl (by kernel_rfl) (fun u => (by kernel_rfl)) ?_ ?_
  · refine (begin_err 6 he h).mono ?_
    rintro x w' ⟨rfl, h1, h2⟩
    exact ⟨_, _, rfl, h1.ob, rfl, rfl, h1, h2⟩
  rintro v cs a5 w5 ⟨rfl, rfl, h5, hb5⟩ I5
  refine Ev.row_v 1 I5 (by kernel_rfl) (by kernel_rfl) fun a6 I6 => ?_
  show (Code.cond _ _ _).wp _ _ _ _
  refine Ev.condT_ok I6 (z := !false) (by kernel_rfl) rfl ?_
  refine Ev.seq_v I6 (by kernel_rfl) (by kernel_rfl) fun a7 I7 => ?_
  refine wp_ret ?_
  simp only [Exit.then]
  exact Ev.ret1 I7 rfl (v := .int .i64 0) (by kernel_rfl) ⟨rfl, h5, hb5⟩
theorem foffset_short (hs : l.length < at_ + 6) (h : FS B a n c 0 p w g l at_ false) :
    Calls Tryz.prog 29 #[.pointer (some ⟨g, 0, none⟩)] w fun x w' => x = .returned (.int .i64 0) ∧ FS B a n c 2 (at_ : Int) w' g l at_ false ∧ Beside g w w' := by
  refine Ev.enterP (N := 18) Tryz.func29 rfl rfl [] g h.ob rfl (Nat.le_of_ble_eq_true rfl) fun act I0 => ?_
  refine Ev.seq_v I0 (by kernel_rfl) (by kernel_rfl) fun a1 I1 => ?_
  refine wp_seq (wp_seq (wp_region_list ?_))
  refine Ev.row_v 1 I1 (by kernel_rfl) (by kernel_rfl) fun a4 I4 => ?_
  simp only [List.drop_succ_cons, List.drop_zero]
  refine Ev.callP_ok (l := [.func 44, .tmp 4, .const (.int .i64 6)]) (f := 44) (args := #[.pointer (some ⟨g, 0, none⟩), .int .i64 6]) (t := 65) (R := fun v cs w' => cs = fcells a n c at_ false 2 (at_ : Int) ∧ v = .bool false ∧ FS B a n c 2 (at_ : Int) w' g l at_ false ∧ Beside g w w') I4 (by kernel_rfl) (by kernel_rfl) (by kernel_rfl) rfl (by kernel_rfl) (fun u => (by kernel_rfl)) ?_ ?_
  · refine (begin_short 6 hs h).mono ?_
    rintro x w' ⟨rfl, h1, h2⟩
    exact ⟨_, _, rfl, h1.ob, rfl, rfl, h1, h2⟩
  rintro v cs a5 w5 ⟨rfl, rfl, h5, hb5⟩ I5
  refine Ev.row_v 1 I5 (by kernel_rfl) (by kernel_rfl) fun a6 I6 => ?_
  show (Code.cond _ _ _).wp _ _ _ _
  refine Ev.condT_ok I6 (z := !false) (by kernel_rfl) rfl ?_
  refine Ev.seq_v I6 (by kernel_rfl) (by kernel_rfl) fun a7 I7 => ?_
  refine wp_ret ?_
  simp only [Exit.then]
  exact Ev.ret1 I7 rfl (v := .int .i64 0) (by kernel_rfl) ⟨rfl, h5, hb5⟩
theorem foffset_ok (hs : ¬ l.length < at_ + 6) (h : FS B a n c 0 p w g l at_ false) :
    Calls Tryz.prog 29 #[.pointer (some ⟨g, 0, none⟩)] w fun x w' => x = .returned (.int .i64 (if -1099511627776 ≤ (offI (gotL l at_ false (wid 6))) ∧ (offI (gotL l at_ false (wid 6))) ≤ 1099511627776 then (offI (gotL l at_ false (wid 6))) else 0)) ∧ (if -1099511627776 ≤ (offI (gotL l at_ false (wid 6))) ∧ (offI (gotL l at_ false (wid 6))) ≤ 1099511627776 then FS B a n c 0 (at_ : Int) w' g l (at_ + 6) false else FS B a n c 6 (at_ : Int) w' g l (at_ + 6) false) ∧ Beside g w w' := by
  have hle := h.le
  have hw : wid 6 = 6 := by unfold wid; rw [if_pos (by omega)]
  have hok : okB l at_ false (wid 6) = true := by rw [hw]; exact ok_yes l at_ (by omega) (by omega)
  obtain ⟨_, y2, y3⟩ := got_yes hok
  have y4 : atN l at_ false (wid 6) = at_ + 6 := by rw [y2, hw]; omega
  refine Ev.enterP (N := 18) Tryz.func29 rfl rfl [] g h.ob rfl (Nat.le_of_ble_eq_true rfl) fun act I0 => ?_
  refine Ev.seq_v I0 (by kernel_rfl) (by kernel_rfl) fun a1 I1 => ?_
  refine wp_seq (wp_seq (wp_region_list ?_))
  refine Ev.row_v 1 I1 (by kernel_rfl) (by kernel_rfl) fun a4 I4 => ?_
  simp only [List.drop_succ_cons, List.drop_zero]
  refine Ev.callP_ok (l := [.func 44, .tmp 4, .const (.int .i64 6)]) (f := 44) (args := #[.pointer (some ⟨g, 0, none⟩), .int .i64 6]) (t := 65) (R := fun v cs w' => cs = fcells a n c at_ false 0 (at_ : Int) ∧ v = .bool true ∧ FS B a n c 0 (at_ : Int) w' g l at_ false ∧ Beside g w w') I4 (by kernel_rfl) (by kernel_rfl) (by kernel_rfl) rfl (by kernel_rfl) (fun u => (by kernel_rfl)) ?_ ?_
  · refine (begin_ok 6 hs h).mono ?_
    rintro x w' ⟨rfl, h1, h2⟩
    exact ⟨_, _, rfl, h1.ob, rfl, rfl, h1, h2⟩
  rintro v cs a5 w5 ⟨rfl, rfl, h5, hb5⟩ I5
  refine Ev.row_v 1 I5 (by kernel_rfl) (by kernel_rfl) fun a6 I6 => ?_
  show (Code.cond _ _ _).wp _ _ _ _
  refine Ev.condF_ok I6 (z := !true) (by kernel_rfl) rfl ?_
  refine wp_skip ?_
  simp only [Exit.then]
  have J6 := I6.to [0] (s2 := { tab := [⟨0, [], .p 0 0⟩], mem := [(65, fcells a n c at_ false 0 (at_ : Int))] }) (by kernel_rfl)
  refine Ev.seq_row ?_
  refine Ev.row_v 3 J6 (by kernel_rfl) (by kernel_rfl) fun a7 I7 => ?_
  simp only [List.drop_succ_cons, List.drop_zero]
  refine Ev.callP_ok (l := [.func 47, .tmp 9, .const (.int .i64 6)]) (f := 47) (args := #[.pointer (some ⟨g, 0, none⟩), .int .i64 6]) (t := 65) (R := fun v cs w' => cs = fcells a n c (at_ + 6) false 0 (at_ : Int) ∧ v = .int .i64 (offI (gotL l at_ false (wid 6))) ∧ FS B a n c 0 (at_ : Int) w' g l (at_ + 6) false ∧ Beside g w5 w') I7 (by kernel_rfl) (by kernel_rfl) (by kernel_rfl) rfl (by kernel_rfl) (fun u => (by kernel_rfl)) ?_ ?_
  · refine (offsetF_calls 6 (by omega) (by omega) h5).mono ?_
    rintro x w' ⟨rfl, h1, h2⟩
    rw [y4, y3] at h1
    exact ⟨_, _, rfl, h1.ob, rfl, rfl, h1, h2⟩
  rintro v cs a8 w8 ⟨rfl, rfl, h8, hb8⟩ I8
  refine Ev.row_v 1 I8 (by kernel_rfl) (by kernel_rfl) fun a9 I9 => ?_
  show Code.wp _ _ _ _ _
  have J9 := I9.to [0, 3] (s2 := { tab := [⟨0, [], .p 0 0⟩, ⟨3, [], .v (.int .i64 (offI (gotL l at_ false (wid 6))))⟩], mem := [(65, fcells a n c (at_ + 6) false 0 (at_ : Int))] }) (by kernel_rfl)
  refine wp_seq (wp_seq (wp_region_list ?_))
  refine Ev.row_v 1 J9 (by kernel_rfl) (by kernel_rfl) fun a10 I10 => ?_
  simp only [List.drop_succ_cons, List.drop_zero]
  refine Ev.quiet_ok (l := [.func 48, .tmp 11]) (A := []) (f := 48) (args := #[.int .i64 (offI (gotL l at_ false (wid 6)))]) (v := .bool (decide (-1099511627776 ≤ (offI (gotL l at_ false (wid 6))) ∧ (offI (gotL l at_ false (wid 6))) ≤ 1099511627776))) I10 (by kernel_rfl) (by kernel_rfl) rfl (by kernel_rfl) (fun u => (by kernel_rfl)) (time_calls (offI (gotL l at_ false (wid 6))) _) fun a11 I11 => ?_
  refine Ev.row_v 1 I11 (by kernel_rfl) (by kernel_rfl) fun a12 I12 => ?_
  have J12 := I12.to [0, 3, 13] (s2 := { tab := [⟨0, [], .p 0 0⟩, ⟨3, [], .v (.int .i64 (offI (gotL l at_ false (wid 6))))⟩, ⟨13, [], .v (.bool (!decide (-1099511627776 ≤ (offI (gotL l at_ false (wid 6))) ∧ (offI (gotL l at_ false (wid 6))) ≤ 1099511627776)))⟩], mem := [(65, fcells a n c (at_ + 6) false 0 (at_ : Int))] }) (by kernel_rfl)
  show (Code.cond _ _ _).wp _ _ _ _
  have hb := hb5.trans hb8
  by_cases ht : -1099511627776 ≤ (offI (gotL l at_ false (wid 6))) ∧ (offI (gotL l at_ false (wid 6))) ≤ 1099511627776
  · refine Ev.condF_ok J12 (z := !decide (-1099511627776 ≤ (offI (gotL l at_ false (wid 6))) ∧ (offI (gotL l at_ false (wid 6))) ≤ 1099511627776)) (by kernel_rfl) (by rw [decide_eq_true ht]; rfl) ?_
    refine wp_skip ?_
    simp only [Exit.then]
    refine Ev.seq_v J12 (by kernel_rfl) (by kernel_rfl) fun a13 I13 => ?_
    exact wp_ret (Ev.ret1 I13 rfl (v := .int .i64 (offI (gotL l at_ false (wid 6)))) (by kernel_rfl) ⟨by rw [if_pos ht], by rw [if_pos ht]; exact h8, hb⟩)
  · refine Ev.condT_ok J12 (z := !decide (-1099511627776 ≤ (offI (gotL l at_ false (wid 6))) ∧ (offI (gotL l at_ false (wid 6))) ≤ 1099511627776)) (by kernel_rfl) (by rw [decide_eq_false ht]; rfl) ?_
    refine Ev.seq_row ?_
    refine Ev.row_s 4 J12 (by kernel_rfl) (by kernel_rfl) (by kernel_rfl) fun a13 w13 I13 hb13 _ => ?_
    have ho13 := (I13.blk (b := 0) (t := 65) (cs := fcells a n c (at_ + 6) false 6 (at_ : Int)) (by kernel_rfl)).1
    show Code.wp _ _ _ _ _
    refine Ev.seq_v I13 (by kernel_rfl) (by kernel_rfl) fun a14 I14 => ?_
    refine wp_ret ?_
    simp only [Exit.then]
    exact Ev.ret1 I14 rfl (v := .int .i64 0) (by kernel_rfl) ⟨by rw [if_neg ht], by rw [if_neg ht]; exact h8.after hb13 ho13 h8.le, hb.trans hb13⟩
end
end Go.Proofs.YtfpgdimgffamoaaGreatDoor.Fr
