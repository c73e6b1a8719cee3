/- The document's own reader of bytes where it lies in a reader of fields: Take, wide, Number, Offset. -/
import Derived.Test.YtfpgdimgffamoaaGreatDoorSmV
import Derived.Test.YtfpgdimgffamoaaGreatDoorWrStep
import Derived.Test.YtfpgdimgffamoaaGreatDoorWrR
import Derived.Test.YtfpgdimgffamoaaGreatDoorSmCopyR
import Derived.Test.YtfpgdimgffamoaaGreatDoorSmA
namespace Go.Proofs.YtfpgdimgffamoaaGreatDoor.Fr
open Go.RowKit Go.Proofs.YtfpgdimgffamoaaGreatDoor.Sm Go.Proofs.YtfpgdimgffamoaaGreatDoor.Wr
set_option maxHeartbeats 4000000
set_option maxRecDepth 100000
set_option linter.unusedVariables false

/-- the cells of a reader of fields. -/
def fcells (a : Option Addr) (n c : Nat) (at_ : Nat) (bad : Bool) (e p : Int) : List Value := [.slice a n c, .int .i64 (at_ : Int), .bool bad, .int .i64 e, .int .i64 p]
/-- block g holds a reader of the fields of l (which lies below block B, and not in g). -/
structure FS (B : Nat) (a : Option Addr) (n c : Nat) (e p : Int) (w : World) (g : Nat) (l : List UInt8) (at_ : Nat) (bad : Bool) : Prop where
  ob : Ob w g 65 (fcells a n c at_ bad e p)
  row : Row8 w B a n c l
  le : at_ ≤ l.length
  small : l.length ≤ 1000000
  lowB : B ≤ w.heap.size
  apart : 0 < n → ∀ (b off : Nat), a = some ⟨b, off, none⟩ → b ≠ g
theorem beside_draw (g : Nat) (w : World) : Beside g w w.drew := ⟨rfl, rfl, rfl, Nat.le_refl _, fun _ _ _ => rfl⟩
theorem Beside.of_later {g : Nat} {w W : World} (h : Below w.heap.size w W) : Beside g w W := ⟨h.os, h.tape, h.output, h.size, fun k hk _ => h.block k hk⟩
theorem cell_apart {q : Nat} {w W : World} (h : Beside q w W) (p : Addr) (hp : p.block ≠ q) (hl : p.block < w.heap.size) : W.cell? p = w.cell? p := by
  unfold World.cell?
  rw [h.block _ hl hp]
theorem row8_apart {g B n c : Nat} {a : Option Addr} {l : List UInt8} {w W : World} (h : Row8 w B a n c l) (hb : Beside g w W) (hB : B ≤ w.heap.size) (ha : 0 < n → ∀ (b off : Nat), a = some ⟨b, off, none⟩ → b ≠ g) : Row8 W B a n c l :=
  ⟨h.len, h.room, h.cap, h.none_, fun hn => by
    obtain ⟨b, off, e, h1, h2⟩ := h.cells hn
    exact ⟨b, off, e, h1, fun i d hi => (cell_apart hb ⟨b, off + i, none⟩ (ha hn b off e) (Nat.lt_of_lt_of_le h1 hB)).trans (h2 i d hi)⟩⟩
section
variable {B : Nat} {a : Option Addr} {n c : Nat} {e p : Int} {w W : World} {g : Nat} {l : List UInt8} {at_ : Nat} {bad : Bool}
theorem FS.after (h : FS B a n c e p w g l at_ bad) (hb : Beside g w W) {at' : Nat} {bad' : Bool} {e' p' : Int} (ho : Ob W g 65 (fcells a n c at' bad' e' p')) (hle : at' ≤ l.length) : FS B a n c e' p' W g l at' bad' :=
  ⟨ho, row8_apart h.row hb h.lowB h.apart, hle, h.small, Nat.le_trans h.lowB hb.size, h.apart⟩
theorem FS.later (h : FS B a n c e p w g l at_ bad) (hb : Below w.heap.size w W) : FS B a n c e p W g l at_ bad :=
  h.after (Beside.of_later hb) (h.ob.below hb h.ob.lt) h.le
theorem takeF_calls (k : Int) (hk1 : -9223372036854775808 ≤ k) (hk2 : k ≤ 9223372036854775807) (h : FS B a n c e p w g l at_ bad) :
    Calls Tryz.prog 49 #[.pointer (some ⟨g, 0, none⟩), .int .i64 k] w fun x w' => RetTake (FS B a n c e p) w g l at_ bad k x w' := by
  have hn := h.row.len
  have hle := h.le
  have hsm := h.small
  have hgl := h.ob.lt
  refine Ev.enterP (N := 57) Tryz.func49 rfl rfl [.int .i64 k] g h.ob rfl (Nat.le_of_ble_eq_true rfl) fun act I0 => ?_
  refine Ev.seq_v I0 (by kernel_rfl) (by kernel_rfl) fun a1 I1 => ?_
  refine wp_seq (wp_seq (Ev.open_ok I1 (by kernel_rfl) (by kernel_rfl) (by kernel_rfl) (by kernel_rfl) fun a2 I2 => ?_))
  have J2 := I2.to [0, 1, 27] (s2 := { tab := [⟨0, [], .p 0 0⟩, ⟨1, [], .v (.int .i64 k)⟩, ⟨27, [], .v (.bool (bad || decide (k < 0) || decide (k > IntKind.i64.wrap ((n : Int) - (at_ : Int)))))⟩], mem := [(65, fcells a n c at_ bad e p)] }) (by kernel_rfl)
  rw [show IntKind.i64.wrap ((n : Int) - (at_ : Int)) = (n : Int) - (at_ : Int) from Ev.wrap_i64 (by omega) (by omega)] at J2
  have hz : (bad || decide (k < 0) || decide (k > (n : Int) - (at_ : Int))) = !okB l at_ bad k := by
    rw [Bool.eq_iff_iff]
    simp only [Bool.or_eq_true, decide_eq_true_eq, Bool.not_eq_true', okB, decide_eq_false_iff_not]
    cases bad <;> simp <;> omega
  rw [hz] at J2
  clear I0 I1 I2 hz
  have hb1 := beside_draw g w
  show (Code.cond _ _ _).wp _ _ _ _
  refine Ev.cond_ok J2 (z := !okB l at_ bad k) (by kernel_rfl) (fun hz => ?_) (fun hz => ?_)
  · have hno := got_no (l := l) (at_ := at_) (bad := bad) (k := k) (by simpa using hz)
    refine Ev.seq_row ?_
    refine Ev.row_s 4 J2 (by kernel_rfl) (by kernel_rfl) (by kernel_rfl) fun a3 w3 I3 hb3 _ => ?_
    show Code.wp _ _ _ _ _
    have ho := (I3.blk (b := 0) (t := 65) (cs := fcells a n c at_ true e p) (by kernel_rfl)).1
    refine Ev.seq_v I3 (by kernel_rfl) (by kernel_rfl) fun a4 I4 => ?_
    refine wp_ret ?_
    simp only [Exit.then]
    have hbs := hb1.trans hb3
    refine Ev.ret1 I4 rfl (v := .slice none 0 0) (by kernel_rfl) ⟨_, rfl, ?_, ?_, hbs⟩
    · rw [hno.1]; exact World.ownsRow_nil _ _ _ _
    · rw [hno.2.1, hno.2.2]; exact h.after hbs ho hle
  · have hok : okB l at_ bad k = true := by simpa using hz
    have hyes := got_yes hok
    obtain ⟨hbad, hk0, hkn⟩ := of_decide_eq_true (show decide _ = true from hok)
    refine wp_skip ?_
    simp only [Exit.then]
    have J3 := J2.to [0, 1] (s2 := { tab := [⟨0, [], .p 0 0⟩, ⟨1, [], .v (.int .i64 k)⟩], mem := [(65, fcells a n c at_ bad e p)] }) (by kernel_rfl)
    clear J2 hz
    refine wp_seq ?_
    refine Ev.held_begin (fun _ => True) [0, 1, 2, 3, 4, 5, 6, 7, 8, 9, 10, 11, 12, 13] 3 trivial J3 (by kernel_rfl) (by kernel_rfl) (fun _ _ d _ _ h => by cases d <;> exact h) (by kernel_rfl) (by kernel_rfl) (by kernel_rfl) (by kernel_rfl) fun a4 I4 => ?_
    have J4 := I4.to [0, 1, 34, 38, 44] (s2 := { tab := [⟨0, [], .p 0 0⟩, ⟨1, [], .v (.int .i64 k)⟩, ⟨34, [], .v (.slice a n c)⟩, ⟨38, [], .v (.int .i64 (at_ : Int))⟩, ⟨44, [], .v (.int .i64 (IntKind.i64.wrap ((at_ : Int) + k)))⟩], mem := [(65, fcells a n c at_ bad e p)] }) (by kernel_rfl)
    rw [show IntKind.i64.wrap ((at_ : Int) + k) = ((at_ + k.toNat : Nat) : Int) by rw [Ev.wrap_i64 (by omega) (by omega)]; omega] at J4
    obtain ⟨i0, hi0, hq0, hq1, hq2⟩ := info_parts byte_info
    have hroom := h.row.room
    refine Ev.held_slice (i := 14) (n := 2) (lov := some (.int .i64 (at_ : Int))) (hiv := some (.int .i64 ((at_ + k.toNat : Nat) : Int))) (xv := .slice a n c) (v := .slice (cutA a c at_) (at_ + k.toNat - at_) (c - at_)) trivial J4 (by kernel_rfl) (by kernel_rfl) (fun _ _ d _ _ h => by cases d <;> exact h) rfl (by kernel_rfl) (by kernel_rfl) (by kernel_rfl) rfl (by kernel_rfl) (by kernel_rfl) (by kernel_rfl) (fun u => run_cut_lh (P := Tryz.prog) Tryz.underlying22 hi0 hq1 u a n c at_ (at_ + k.toNat) (by omega) (by omega)) fun a5 I5 => ?_
    have hcut := (h.row.drewN 2).cut (lo := at_) (hi := at_ + k.toNat) (by omega) (by omega)
    have hB2 : B ≤ w.drew.drew.heap.size := h.lowB
    refine Ev.held_call (i := 15) (n := 1) (l := [.func 20, .tmp 45]) (A := []) (f := 20) (args := #[.slice (cutA a c at_) (at_ + k.toNat - at_) (c - at_)]) (R := fun v w' => Made w.drew.drew 5 (gotL l at_ bad k) v w') I5 (by kernel_rfl) rfl (by kernel_rfl) (by kernel_rfl) (by kernel_rfl) (by kernel_rfl) rfl (by kernel_rfl) (fun u => (by kernel_rfl)) ?_ (fun v w' hm => hm.2) (fun v w' hm => trivial) ?_
    · refine (copyR_calls _ _ _ (gotL l at_ bad k) _ (by rw [hyes.1]; exact hcut.more hB2) (by omega)).mono ?_
      rintro x w' ⟨v, rfl, hm⟩
      exact ⟨_, rfl, hm⟩
    rintro v a6 w6 hm I6
    refine Ev.held_more [16] (fuel := 0) trivial I6 (by kernel_rfl) (by kernel_rfl) (fun _ _ d _ _ h => by cases d <;> exact h) rfl (by kernel_rfl) (by kernel_rfl) (by kernel_rfl) fun a7 I7 => ?_
    refine Ev.held_done (by kernel_rfl) ?_
    have J7 := I7.to [0, 1, 5] (s2 := { tab := [⟨0, [], .p 0 0⟩, ⟨1, [], .v (.int .i64 k)⟩, ⟨5, [], .v v⟩], mem := [(65, fcells a n c at_ bad e p)] }) (by kernel_rfl)
    show Code.wp _ _ _ _ _
    refine Ev.seq_row ?_
    refine Ev.row_s 10 J7 (by kernel_rfl) (by kernel_rfl) (by kernel_rfl) fun a8 w8 I8 hb8 _ => ?_
    have ho := (I8.blk (b := 0) (t := 65) (cs := [.slice a n c, .int .i64 (IntKind.i64.wrap ((at_ : Int) + k)), .bool bad, .int .i64 e, .int .i64 p]) (by kernel_rfl)).1
    rw [show IntKind.i64.wrap ((at_ : Int) + k) = ((at_ + k.toNat : Nat) : Int) by rw [Ev.wrap_i64 (by omega) (by omega)]; omega] at ho
    show Code.wp _ _ _ _ _
    refine Ev.seq_v I8 (by kernel_rfl) (by kernel_rfl) fun a9 I9 => ?_
    have hbs : Beside g w w8 := ((hb1.trans (beside_draw g _)).trans (Beside.of_later hm.2)).trans hb8
    refine wp_ret (Ev.ret1 I9 rfl (v := v) (by kernel_rfl) ⟨_, rfl, owns_beside hm.1 hb8 hgl, ?_, hbs⟩)
    rw [hyes.2.1, hyes.2.2]
    rw [hbad] at ho
    exact h.after hbs ho (by omega)
theorem wideF_calls (k : Int) (hk1 : -9223372036854775808 ≤ k) (hk2 : k ≤ 9223372036854775807) (h : FS B a n c e p w g l at_ bad) :
    Calls Tryz.prog 72 #[.pointer (some ⟨g, 0, none⟩), .int .i64 k] w fun x w' => RetTake (FS B a n c e p) w g l at_ bad (wid k) x w' := by
  refine Ev.enterP (N := 17) Tryz.func72 rfl rfl [.int .i64 k] g h.ob rfl (Nat.le_of_ble_eq_true rfl) fun act I0 => ?_
  refine Ev.seq_v I0 (by kernel_rfl) (by kernel_rfl) fun a1 I1 => ?_
  refine wp_seq (Ev.seq_v I1 (by kernel_rfl) (by kernel_rfl) fun a2 I2 => ?_)
  have J2 := I2.to [0, 1, 10] (s2 := { tab := [⟨0, [], .p 0 0⟩, ⟨1, [], .v (.int .i64 k)⟩, ⟨10, [], .v (.bool (decide (k < 1) || decide (k > 7)))⟩], mem := [(65, fcells a n c at_ bad e p)] }) (by kernel_rfl)
  clear I0 I1 I2
  refine Ev.cond_ok J2 (z := (decide (k < 1) || decide (k > 7))) (by kernel_rfl) (fun hz => ?_) (fun hz => ?_)
  · have hw : wid k = -1 := by
      simp only [Bool.or_eq_true, decide_eq_true_eq] at hz
      unfold wid
      rw [if_neg (by omega)]
    refine wp_region_list ?_
    refine Ev.row_s 4 J2 (by kernel_rfl) (by kernel_rfl) (by kernel_rfl) fun a3 w3 I3 hb3 _ => ?_
    have ho := (I3.blk (b := 0) (t := 65) (cs := fcells a n c at_ true e p) (by kernel_rfl)).1
    have hF := h.after hb3 ho h.le
    have JJ := I3.to [0, 1] (s2 := { tab := [⟨0, [], .p 0 0⟩, ⟨1, [], .v (.int .i64 k)⟩], mem := [(65, fcells a n c at_ true e p)] }) (by kernel_rfl)
    show Code.wp _ _ _ _ _
    refine Ev.seq_row ?_
    refine Ev.row_v 2 JJ (by kernel_rfl) (by kernel_rfl) fun a4 I4 => ?_
    simp only [List.drop_succ_cons, List.drop_zero]
    refine Ev.callP_ok (l := [.func 49, .tmp 14, .tmp 15]) (f := 49) (args := #[.pointer (some ⟨g, 0, none⟩), .int .i64 k]) (t := 65) (R := fun v cs w' => cs = fcells a n c (atN l at_ true k) (badN l at_ true k) e p ∧ w'.ownsRow w3.heap.size 5 1 v (gotL l at_ true k).length (cells8 (gotL l at_ true k)) ∧ FS B a n c e p w' g l (atN l at_ true k) (badN l at_ true k) ∧ Beside g w3 w') I4 (by kernel_rfl) (by kernel_rfl) (by kernel_rfl) rfl (by kernel_rfl) (fun u => (by kernel_rfl)) ?_ ?_
    · refine (takeF_calls k hk1 hk2 hF).mono ?_
      rintro x w' ⟨v, rfl, h1, h2, h3⟩
      exact ⟨v, _, rfl, h2.ob, rfl, h1, h2, h3⟩
    rintro v cs a5 w5 ⟨rfl, h1, h2, h3⟩ I5
    refine Ev.row_v 1 I5 (by kernel_rfl) (by kernel_rfl) fun a6 I6 => ?_
    show Code.ret.wp _ _ _ _
    refine wp_ret (Ev.ret1 I6 rfl (v := v) (by kernel_rfl) ?_)
    obtain ⟨e1, e2, e3⟩ := got_no (ok_bad l at_ k)
    obtain ⟨d1, d2, d3⟩ := got_no (ok_neg l at_ bad (k := wid k) (by rw [hw]; omega))
    rw [e1] at h1
    rw [e2, e3] at h2
    refine ⟨v, rfl, ?_, ?_, hb3.trans h3⟩
    · rw [d1]; exact owns_mono h1 hb3.size
    · rw [d2, d3]; exact h2
  · have hw : wid k = k := by
      simp only [Bool.or_eq_false_iff, decide_eq_false_iff_not] at hz
      unfold wid
      rw [if_pos (by omega)]
    rw [hw]
    refine wp_skip ?_
    simp only [Exit.then]
    have JJ := J2.to [0, 1] (s2 := { tab := [⟨0, [], .p 0 0⟩, ⟨1, [], .v (.int .i64 k)⟩], mem := [(65, fcells a n c at_ bad e p)] }) (by kernel_rfl)
    refine Ev.seq_row ?_
    refine Ev.row_v 2 JJ (by kernel_rfl) (by kernel_rfl) fun a4 I4 => ?_
    simp only [List.drop_succ_cons, List.drop_zero]
    refine Ev.callP_ok (l := [.func 49, .tmp 14, .tmp 15]) (f := 49) (args := #[.pointer (some ⟨g, 0, none⟩), .int .i64 k]) (t := 65) (R := fun v cs w' => cs = fcells a n c (atN l at_ bad k) (badN l at_ bad k) e p ∧ w'.ownsRow w.heap.size 5 1 v (gotL l at_ bad k).length (cells8 (gotL l at_ bad k)) ∧ FS B a n c e p w' g l (atN l at_ bad k) (badN l at_ bad k) ∧ Beside g w w') I4 (by kernel_rfl) (by kernel_rfl) (by kernel_rfl) rfl (by kernel_rfl) (fun u => (by kernel_rfl)) ?_ ?_
    · refine (takeF_calls k hk1 hk2 h).mono ?_
      rintro x w' ⟨v, rfl, h1, h2, h3⟩
      exact ⟨v, _, rfl, h2.ob, rfl, h1, h2, h3⟩
    rintro v cs a5 w5 ⟨rfl, h1, h2, h3⟩ I5
    refine Ev.row_v 1 I5 (by kernel_rfl) (by kernel_rfl) fun a6 I6 => ?_
    show Code.ret.wp _ _ _ _
    refine wp_ret (Ev.ret1 I6 rfl (v := v) (by kernel_rfl) ?_)
    exact ⟨v, rfl, h1, h2, h3⟩
theorem numberF_calls (k : Int) (hk1 : -9223372036854775808 ≤ k) (hk2 : k ≤ 9223372036854775807) (h : FS B a n c e p w g l at_ bad) :
    Calls Tryz.prog 45 #[.pointer (some ⟨g, 0, none⟩), .int .i64 k] w fun x w' => RetNum (FS B a n c e p) numI w g l at_ bad (wid k) x w' := by
  refine Ev.enterP (N := 9) Tryz.func45 rfl rfl [.int .i64 k] g h.ob rfl (Nat.le_of_ble_eq_true rfl) fun act I0 => ?_
  refine Ev.seq_v I0 (by kernel_rfl) (by kernel_rfl) fun a1 I1 => ?_
  refine Ev.seq_row ?_
  refine Ev.row_v 2 I1 (by kernel_rfl) (by kernel_rfl) fun a4 I4 => ?_
  simp only [List.drop_succ_cons, List.drop_zero]
  refine Ev.callP_ok (l := [.func 72, .tmp 5, .tmp 6]) (f := 72) (args := #[.pointer (some ⟨g, 0, none⟩), .int .i64 k]) (t := 65) (R := fun v cs w' => cs = fcells a n c (atN l at_ bad (wid k)) (badN l at_ bad (wid k)) e p ∧ ∃ q m r, v = .slice q m r ∧ Row8 w' w'.heap.size q m r (gotL l at_ bad (wid k)) ∧ FS B a n c e p w' g l (atN l at_ bad (wid k)) (badN l at_ bad (wid k)) ∧ Beside g w w') I4 (by kernel_rfl) (by kernel_rfl) (by kernel_rfl) rfl (by kernel_rfl) (fun u => (by kernel_rfl)) ?_ ?_
  · refine (wideF_calls k hk1 hk2 h).mono ?_
    intro x w' hr
    obtain ⟨q, m, r, rfl, h1, _, h2, h3⟩ := hr.slice
    exact ⟨_, _, rfl, h2.ob, rfl, q, m, r, rfl, h1, h2, h3⟩
  rintro v cs a5 w5 ⟨rfl, q, m, r, rfl, h1, h2, h3⟩ I5
  refine Ev.quiet_ok (l := [.func 71, .tmp 7]) (A := []) (f := 71) (args := #[.slice q m r]) (v := .int .i64 (numI (gotL l at_ bad (wid k)))) I5 (by kernel_rfl) (by kernel_rfl) rfl (by kernel_rfl) (fun u => (by kernel_rfl)) (numberR_calls q m r _ _ _ h1) fun a6 I6 => ?_
  refine Ev.row_v 1 I6 (by kernel_rfl) (by kernel_rfl) fun a7 I7 => ?_
  show Code.ret.wp _ _ _ _
  refine wp_ret (Ev.ret1 I7 rfl (v := .int .i64 (numI (gotL l at_ bad (wid k)))) (by kernel_rfl) ⟨rfl, h2, h3⟩)
theorem offsetF_calls (k : Int) (hk1 : -9223372036854775808 ≤ k) (hk2 : k ≤ 9223372036854775807) (h : FS B a n c e p w g l at_ bad) :
    Calls Tryz.prog 47 #[.pointer (some ⟨g, 0, none⟩), .int .i64 k] w fun x w' => RetNum (FS B a n c e p) offI w g l at_ bad (wid k) x w' := by
  refine Ev.enterP (N := 9) Tryz.func47 rfl rfl [.int .i64 k] g h.ob rfl (Nat.le_of_ble_eq_true rfl) fun act I0 => ?_
  refine Ev.seq_v I0 (by kernel_rfl) (by kernel_rfl) fun a1 I1 => ?_
  refine Ev.seq_row ?_
  refine Ev.row_v 2 I1 (by kernel_rfl) (by kernel_rfl) fun a4 I4 => ?_
  simp only [List.drop_succ_cons, List.drop_zero]
  refine Ev.callP_ok (l := [.func 72, .tmp 5, .tmp 6]) (f := 72) (args := #[.pointer (some ⟨g, 0, none⟩), .int .i64 k]) (t := 65) (R := fun v cs w' => cs = fcells a n c (atN l at_ bad (wid k)) (badN l at_ bad (wid k)) e p ∧ ∃ q m r, v = .slice q m r ∧ Row8 w' w'.heap.size q m r (gotL l at_ bad (wid k)) ∧ FS B a n c e p w' g l (atN l at_ bad (wid k)) (badN l at_ bad (wid k)) ∧ Beside g w w') I4 (by kernel_rfl) (by kernel_rfl) (by kernel_rfl) rfl (by kernel_rfl) (fun u => (by kernel_rfl)) ?_ ?_
  · refine (wideF_calls k hk1 hk2 h).mono ?_
    intro x w' hr
    obtain ⟨q, m, r, rfl, h1, _, h2, h3⟩ := hr.slice
    exact ⟨_, _, rfl, h2.ob, rfl, q, m, r, rfl, h1, h2, h3⟩
  rintro v cs a5 w5 ⟨rfl, q, m, r, rfl, h1, h2, h3⟩ I5
  refine Ev.quiet_ok (l := [.func 73, .tmp 7]) (A := []) (f := 73) (args := #[.slice q m r]) (v := .int .i64 (offI (gotL l at_ bad (wid k)))) I5 (by kernel_rfl) (by kernel_rfl) rfl (by kernel_rfl) (fun u => (by kernel_rfl)) (offsetR_calls q m r _ _ _ h1) fun a6 I6 => ?_
  refine Ev.row_v 1 I6 (by kernel_rfl) (by kernel_rfl) fun a7 I7 => ?_
  show Code.ret.wp _ _ _ _
  refine wp_ret (Ev.ret1 I7 rfl (v := .int .i64 (offI (gotL l at_ bad (wid k)))) (by kernel_rfl) ⟨rfl, h2, h3⟩)
end
end Go.Proofs.YtfpgdimgffamoaaGreatDoor.Fr
