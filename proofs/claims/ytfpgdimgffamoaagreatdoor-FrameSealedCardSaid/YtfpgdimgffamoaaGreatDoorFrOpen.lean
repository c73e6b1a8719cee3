/- What frame.open, frame.Decode and frame.Why return. -/
import Derived.Test.YtfpgdimgffamoaaGreatDoorFrRead
import Derived.Test.YtfpgdimgffamoaaGreatDoorFrAs
import Derived.Test.YtfpgdimgffamoaaGreatDoorSmOpen
import Derived.BigRegion
namespace Go.Proofs.YtfpgdimgffamoaaGreatDoor.Fr
open Go.ChangeShapes Go.WideShapes Go.ChangeAt Go.RowKit Go.Proofs.YtfpgdimgffamoaaGreatDoor.Sm Go.Proofs.YtfpgdimgffamoaaGreatDoor.Wr
set_option maxHeartbeats 4000000
set_option maxRecDepth 100000

/-- of any bytes: the frame, or an error's number, and where. -/
def decX (b : List UInt8) : Except (Int × Nat) Frame := if b.length < 7 then .error (2, 0) else if isSealed b = true then readX (b.take (b.length - 4)) else .error (4, b.length - 4)
theorem open_calls4 (a : Option Addr) (n c : Nat) (S : Sn) (x : List UInt8) (w : World) (hr : Row8 w w.heap.size a n c x) (hS : Sents w w.heap.size S) (hn : n ≤ 1000000) :
    Calls Tryz.prog 14 #[.slice a n c] w fun e w' => RetRead w S (decX x) e w' := by
  have HR := hid hr
  have HS := hid hS
  have HN := hid hr.len
  have HLO := hid hS.low
  clear hr hS
  obtain ⟨res, hrx⟩ : ∃ res, decX x = res := ⟨_, rfl⟩
  rw [hrx]
  have HRX := hid hrx
  clear hrx
  go_enter Tryz.func14, Tryz.ntmps14
  iterate 3 go_step
  refine wpList_alloc_any rfl _ rfl zeros frame_zero ?_
  intro q W0 n0
  have hqw : w.heap.size ≤ q := Nat.le_of_eq n0.is_.symm
  have HO0 := hid n0.ob
  have hq0 : q < W0.heap.size := n0.ob.lt
  have HR0 := hid (HR.out.later n0.below)
  have HS0 := hid (HS.out.later n0.below)
  have HB0 := hid n0.below
  clear n0 HR HS
  by_cases h7 : n < 7
  · obtain rfl : res = .error (2, 0) := by
      rw [← HRX.out]
      unfold decX
      rw [if_pos (by rw [HN.out]; exact h7)]
    have gE := HS0.out.cShort
    obtain ⟨E, hE⟩ : ∃ E, S.of 2 = E := ⟨_, rfl⟩
    rw [show S.short = S.of 2 from rfl, hE] at gE
    have HE := hid hE
    have hlow : 6 ≤ W0.drew.heap.size := HS0.out.low
    have hlq : 6 ≤ q := Nat.le_trans HLO.out hqw
    have hqd : q < W0.drew.heap.size := hq0
    have HOQ := HO0
    have HBW := HB0
    clear hE HRX HN
    go_wp2
    have hS : (fun u : World => u.cell? ⟨0, 0, none⟩ = some (.iface 133 (.pointer (some E)))) W0.drew := gE
    clear gE
    refine Sm.Held.later_begin (S := (fun u => u.cell? ⟨0, 0, none⟩ = some (.iface 133 (.pointer (some E))))) (by kernel_rfl) ?_
    refine Sm.Held.later_take (i := 0) (oi := ?_) (v := ?_) hS ?_ (by kernel_rfl) (by kernel_rfl) (by kernel_rfl) ?_ ?_ ?_ ?_
    rotate_left 2
    · simp only [List.getElem?_toArray, List.getElem?_cons_zero]; rfl
    · exact fun _ _ _ h => h
    · rfl
    · (intro u hu; go_simp <;> with_reducible rfl)
    simp only [Act.put, List.setIfInBounds_toArray, List.set_cons_zero, List.set_cons_succ]
    refine Sm.Held.later_take (i := 1) (oi := ?_) (v := ?_) hS ?_ (by kernel_rfl) (by kernel_rfl) (by kernel_rfl) ?_ ?_ ?_ ?_
    rotate_left 2
    · simp only [List.getElem?_toArray, List.getElem?_cons_succ, List.getElem?_cons_zero]; rfl
    · exact fun _ _ _ h => h
    · rfl
    · (intro u hu; go_simp <;> with_reducible rfl)
    simp only [Act.put, List.setIfInBounds_toArray, List.set_cons_zero, List.set_cons_succ]
    refine Sm.Held.later_take (i := 2) (oi := ?_) (v := ?_) hS ?_ (by kernel_rfl) (by kernel_rfl) (by kernel_rfl) ?_ ?_ ?_ ?_
    rotate_left 2
    · simp only [List.getElem?_toArray, List.getElem?_cons_succ, List.getElem?_cons_zero]; rfl
    · exact fun _ _ _ h => h
    · rfl
    · (intro u hu; go_simp <;> with_reducible rfl)
    simp only [Act.put, List.setIfInBounds_toArray, List.set_cons_zero, List.set_cons_succ]
    refine Sm.Held.later_box_store (i := 3) (j := 5) (oi := ?_) (oj := ?_) ?_ ?_ (by kernel_rfl) ?_ ?_ 58 [.iface 133 (.pointer (some E)), .int .i64 0] ?_ _ q zeros zeros (show Ob W0.drew q _ zeros from HOQ.out) ?_ rfl frame_info zeros_one ?_ ?_
    rotate_left 2
    · simp only [List.getElem?_toArray, List.getElem?_cons_succ, List.getElem?_cons_zero]; rfl
    · simp only [List.getElem?_toArray, List.getElem?_cons_succ, List.getElem?_cons_zero]; rfl
    · rfl
    · rfl
    · exact ⟨_, rfl, rfl⟩
    · exact ⟨_, _, rfl, rfl, rfl⟩
    · intro fb W nb
      have hS1 : W.cell? ⟨0, 0, none⟩ = some (.iface 133 (.pointer (some E))) := (nb.below.cell (Nat.lt_of_lt_of_le (by decide) hlow)).trans hS
      clear hS
      have hS := hS1
      clear hS1
      refine ⟨hS, ?_⟩
      have hqb : q < fb := by have := nb.is_; have : W0.drew.heap.size = W0.heap.size := rfl; omega
      have OFb := hid nb.ob
      have OQb := hid ((show Ob W0.drew q _ zeros from HOQ.out).below nb.below hqd)
      have HBb := hid (HBW.out.trans ((show Below W0.heap.size W0 W from ⟨nb.below.os, nb.below.tape, nb.below.output, nb.below.size, nb.below.block⟩).mono HBW.out.size))
      clear nb
      try simp only [Act.put, List.setIfInBounds_toArray, List.set_cons_zero, List.set_cons_succ]
      refine Sm.Held.later_take (i := 4) (oi := ?_) (v := ?_) hS ?_ (by kernel_rfl) (by kernel_rfl) (by kernel_rfl) ?_ ?_ ?_ ?_
      rotate_left 2
      · simp only [List.getElem?_toArray, List.getElem?_cons_succ, List.getElem?_cons_zero]; rfl
      · exact fun _ _ _ h => h
      · rfl
      · (intro u hu; go_simp <;> with_reducible rfl)
      simp only [Act.put, List.setIfInBounds_toArray, List.set_cons_zero, List.set_cons_succ]
      refine Sm.Held.later_store (i := 5) (o := ?_) ?_ (by kernel_rfl) ?_ _ q zeros zeros OQb.out ?_ rfl frame_info zeros_one ?_
      rotate_left 1
      · simp only [List.getElem?_toArray, List.getElem?_cons_succ, List.getElem?_cons_zero]; rfl
      · rfl
      · exact ⟨_, _, rfl, rfl, rfl⟩
      intro Z hbZ hsZ obZ
      have hS1 := (cell_beside hbZ ⟨0, 0, none⟩ (by show _ ≠ q; have : 0 < q := Nat.lt_of_lt_of_le (by decide) hlq; exact Nat.ne_of_lt this) (Nat.lt_of_lt_of_le (by decide) (Nat.le_trans hlq (Nat.le_of_lt OQb.out.lt)))).trans hS
      clear hS
      have hS := hS1
      clear hS1
      refine ⟨hS, ?_⟩
      have OZ := hid obZ
      have OF := hid (OFb.out.beside hbZ (Nat.ne_of_gt hqb))
      have HBZ := hid (HBb.out.trans (hbZ.below hqw (by have := HBb.out.size; omega)))
      clear obZ hbZ
      try simp only [Act.put]
      refine Sm.Held.later_take (i := 6) (oi := ?_) (v := ?_) hS ?_ (by kernel_rfl) (by kernel_rfl) (by kernel_rfl) ?_ ?_ ?_ ?_
      rotate_left 2
      · simp only [List.getElem?_toArray, List.getElem?_cons_succ, List.getElem?_cons_zero]; rfl
      · exact fun _ _ _ h => h
      · rfl
      · (intro u hu; go_simp <;> with_reducible rfl)
      simp only [Act.put, List.setIfInBounds_toArray, List.set_cons_zero, List.set_cons_succ]
      refine Sm.Held.later_done (by kernel_rfl) ?_ _
      go_wp2
      (try simp only [Exit.inBlock, Exit.then])
      refine bodyPost_ret (results_cell_two Tryz.results14 _ _ q _ rfl OZ.out Tryz.underlying26 rfl frame_info) rfl ?_
      refine ⟨HBZ.out, _, rfl, fun U hU => ?_⟩; have OU := (hU fb (by omega) OF.out.lt).trans OF.out; exact ⟨fb, rfl, Ob.lt OU, by rw [HE.out]; exact Ob.cell OU (i := 0) rfl, Ob.cell OU (i := 1) rfl, by omega⟩
    · intro Z hbZ hsZ obZ
      have hS1 := (cell_beside hbZ ⟨0, 0, none⟩ (by show _ ≠ q; have : 0 < q := Nat.lt_of_lt_of_le (by decide) hlq; exact Nat.ne_of_lt this) (Nat.lt_of_lt_of_le (by decide) hlow)).trans hS
      clear hS
      have hS := hS1
      clear hS1
      refine ⟨hS, ?_⟩
      have OZa := hid obZ
      have HBa := hid (HBW.out.trans ((beside_dr hbZ).below hqw (by have := HBW.out.size; omega)))
      clear obZ hbZ
      try simp only [Act.put]
      refine Sm.Held.later_box (i := 3) (o := ?_) ?_ (by kernel_rfl) ?_ 58 [.iface 133 (.pointer (some E)), .int .i64 0] ?_ ?_
      rotate_left 1
      · simp only [List.getElem?_toArray, List.getElem?_cons_succ, List.getElem?_cons_zero]; rfl
      · rfl
      · exact ⟨_, rfl, rfl⟩
      intro fb W nb
      have hS1 : W.cell? ⟨0, 0, none⟩ = some (.iface 133 (.pointer (some E))) := (nb.below.cell (Nat.lt_of_lt_of_le (by decide) (Nat.le_trans hlq (Nat.le_of_lt OZa.out.lt)))).trans hS
      clear hS
      have hS := hS1
      clear hS1
      refine ⟨hS, ?_⟩
      have OF := hid nb.ob
      have OZ := hid (OZa.out.below nb.below OZa.out.lt)
      have HBZ := hid (HBa.out.trans (nb.below.mono HBa.out.size))
      have hfbw : w.heap.size ≤ fb := by have := nb.is_; have := HBa.out.size; omega
      clear nb
      try simp only [Act.put, List.setIfInBounds_toArray, List.set_cons_zero, List.set_cons_succ]
      refine Sm.Held.later_take (i := 4) (oi := ?_) (v := ?_) hS ?_ (by kernel_rfl) (by kernel_rfl) (by kernel_rfl) ?_ ?_ ?_ ?_
      rotate_left 2
      · simp only [List.getElem?_toArray, List.getElem?_cons_succ, List.getElem?_cons_zero]; rfl
      · exact fun _ _ _ h => h
      · rfl
      · (intro u hu; go_simp <;> with_reducible rfl)
      simp only [Act.put, List.setIfInBounds_toArray, List.set_cons_zero, List.set_cons_succ]
      refine Sm.Held.later_take (i := 6) (oi := ?_) (v := ?_) hS ?_ (by kernel_rfl) (by kernel_rfl) (by kernel_rfl) ?_ ?_ ?_ ?_
      rotate_left 2
      · simp only [List.getElem?_toArray, List.getElem?_cons_succ, List.getElem?_cons_zero]; rfl
      · exact fun _ _ _ h => h
      · rfl
      · (intro u hu; go_simp <;> with_reducible rfl)
      simp only [Act.put, List.setIfInBounds_toArray, List.set_cons_zero, List.set_cons_succ]
      refine Sm.Held.later_done (by kernel_rfl) ?_ _
      go_wp2
      (try simp only [Exit.inBlock, Exit.then])
      refine bodyPost_ret (results_cell_two Tryz.results14 _ _ q _ rfl OZ.out Tryz.underlying26 rfl frame_info) rfl ?_
      refine ⟨HBZ.out, _, rfl, fun U hU => ?_⟩; have OU := (hU fb (by omega) OF.out.lt).trans OF.out; exact ⟨fb, rfl, Ob.lt OU, by rw [HE.out]; exact Ob.cell OU (i := 0) rfl, Ob.cell OU (i := 1) rfl, by omega⟩
  · have h7' : ¬ x.length < 7 := by rw [HN.out]; exact h7
    have H7 := hid h7'
    clear h7'
    go_wp2_with (go_at_call 23; refine stop ?_)
    unfold Stop
    refine (open_calls a n c x W0 HR0.out hn).mono ?_
    rintro e w1 ⟨v1, rfl, hm1⟩
    obtain ⟨a1, c1, rfl, hr1, hb1⟩ := hm1.slice
    have HR1 := hid hr1
    have HOQ := hid (HO0.out.below hb1 hq0)
    have HS1 := hid (HS0.out.later hb1)
    have HBW := hid (HB0.out.trans (hb1.mono HB0.out.size))
    have hq1 : q < w1.heap.size := HOQ.out.lt
    clear hm1 hr1 hb1 HO0 HS0 HB0 HR0
    cases hsl : isSealed x with
    | false =>
      obtain rfl : res = .error (4, x.length - 4) := by
        rw [← HRX.out]
        unfold decX
        rw [if_neg H7.out, hsl]
        rfl
      have hin : inner x = [] := inner_no hsl
      rw [hin]
      have HXN : Hid (((x.length - 4 : Nat) : Int) = IntKind.i64.wrap ((n : Int) - 4)) := by show ((x.length - 4 : Nat) : Int) = IntKind.i64.wrap ((n : Int) - 4); rw [HN.out, IntKind.wrap_i64]; omega
      have gE := HS1.out.cSum
      obtain ⟨E, hE⟩ : ∃ E, S.of 4 = E := ⟨_, rfl⟩
      rw [show S.sum = S.of 4 from rfl, hE] at gE
      have HE := hid hE
      have hlow : 6 ≤ w1.drew.heap.size := HS1.out.low
      have hlq : 6 ≤ q := Nat.le_trans HLO.out hqw
      have hqd : q < w1.drew.heap.size := hq1
      clear hE HRX HR1 hsl hin
      go_wp2
      have hS : (fun u : World => u.cell? ⟨1, 0, none⟩ = some (.iface 133 (.pointer (some E)))) w1.drew := gE
      clear gE
      refine Sm.Held.later_begin (S := (fun u => u.cell? ⟨1, 0, none⟩ = some (.iface 133 (.pointer (some E))))) (by kernel_rfl) ?_
      refine Sm.Held.later_take (i := 0) (oi := ?_) (v := ?_) hS ?_ (by kernel_rfl) (by kernel_rfl) (by kernel_rfl) ?_ ?_ ?_ ?_
      rotate_left 2
      · simp only [List.getElem?_toArray, List.getElem?_cons_zero]; rfl
      · exact fun _ _ _ h => h
      · rfl
      · (intro u hu; go_simp <;> with_reducible rfl)
      simp only [Act.put, List.setIfInBounds_toArray, List.set_cons_zero, List.set_cons_succ]
      refine Sm.Held.later_take (i := 1) (oi := ?_) (v := ?_) hS ?_ (by kernel_rfl) (by kernel_rfl) (by kernel_rfl) ?_ ?_ ?_ ?_
      rotate_left 2
      · simp only [List.getElem?_toArray, List.getElem?_cons_succ, List.getElem?_cons_zero]; rfl
      · exact fun _ _ _ h => h
      · rfl
      · (intro u hu; go_simp <;> with_reducible rfl)
      simp only [Act.put, List.setIfInBounds_toArray, List.set_cons_zero, List.set_cons_succ]
      refine Sm.Held.later_take (i := 2) (oi := ?_) (v := ?_) hS ?_ (by kernel_rfl) (by kernel_rfl) (by kernel_rfl) ?_ ?_ ?_ ?_
      rotate_left 2
      · simp only [List.getElem?_toArray, List.getElem?_cons_succ, List.getElem?_cons_zero]; rfl
      · exact fun _ _ _ h => h
      · rfl
      · (intro u hu; go_simp <;> with_reducible rfl)
      simp only [Act.put, List.setIfInBounds_toArray, List.set_cons_zero, List.set_cons_succ]
      refine Sm.Held.later_take (i := 3) (oi := ?_) (v := ?_) hS ?_ (by kernel_rfl) (by kernel_rfl) (by kernel_rfl) ?_ ?_ ?_ ?_
      rotate_left 2
      · simp only [List.getElem?_toArray, List.getElem?_cons_succ, List.getElem?_cons_zero]; rfl
      · exact fun _ _ _ h => h
      · rfl
      · (intro u hu; go_simp <;> with_reducible rfl)
      simp only [Act.put, List.setIfInBounds_toArray, List.set_cons_zero, List.set_cons_succ]
      refine Sm.Held.later_take (i := 4) (oi := ?_) (v := ?_) hS ?_ (by kernel_rfl) (by kernel_rfl) (by kernel_rfl) ?_ ?_ ?_ ?_
      rotate_left 2
      · simp only [List.getElem?_toArray, List.getElem?_cons_succ, List.getElem?_cons_zero]; rfl
      · exact fun _ _ _ h => h
      · rfl
      · (intro u hu; go_simp <;> with_reducible rfl)
      simp only [Act.put, List.setIfInBounds_toArray, List.set_cons_zero, List.set_cons_succ]
      refine Sm.Held.later_take (i := 5) (oi := ?_) (v := ?_) hS ?_ (by kernel_rfl) (by kernel_rfl) (by kernel_rfl) ?_ ?_ ?_ ?_
      rotate_left 2
      · simp only [List.getElem?_toArray, List.getElem?_cons_succ, List.getElem?_cons_zero]; rfl
      · exact fun _ _ _ h => h
      · rfl
      · (intro u hu; go_simp <;> with_reducible rfl)
      simp only [Act.put, List.setIfInBounds_toArray, List.set_cons_zero, List.set_cons_succ]
      refine Sm.Held.later_box_store (i := 6) (j := 8) (oi := ?_) (oj := ?_) ?_ ?_ (by kernel_rfl) ?_ ?_ 58 [.iface 133 (.pointer (some E)), .int .i64 (IntKind.i64.wrap ((n : Int) - 4))] ?_ _ q zeros zeros (show Ob w1.drew q _ zeros from HOQ.out) ?_ rfl frame_info zeros_one ?_ ?_
      rotate_left 2
      · simp only [List.getElem?_toArray, List.getElem?_cons_succ, List.getElem?_cons_zero]; rfl
      · simp only [List.getElem?_toArray, List.getElem?_cons_succ, List.getElem?_cons_zero]; rfl
      · rfl
      · rfl
      · exact ⟨_, rfl, rfl⟩
      · exact ⟨_, _, rfl, rfl, rfl⟩
      · intro fb W nb
        have hS1 : W.cell? ⟨1, 0, none⟩ = some (.iface 133 (.pointer (some E))) := (nb.below.cell (Nat.lt_of_lt_of_le (by decide) hlow)).trans hS
        clear hS
        have hS := hS1
        clear hS1
        refine ⟨hS, ?_⟩
        have hqb : q < fb := by have := nb.is_; have : w1.drew.heap.size = w1.heap.size := rfl; omega
        have OFb := hid nb.ob
        have OQb := hid ((show Ob w1.drew q _ zeros from HOQ.out).below nb.below hqd)
        have HBb := hid (HBW.out.trans ((show Below w1.heap.size w1 W from ⟨nb.below.os, nb.below.tape, nb.below.output, nb.below.size, nb.below.block⟩).mono HBW.out.size))
        clear nb
        try simp only [Act.put, List.setIfInBounds_toArray, List.set_cons_zero, List.set_cons_succ]
        refine Sm.Held.later_take (i := 7) (oi := ?_) (v := ?_) hS ?_ (by kernel_rfl) (by kernel_rfl) (by kernel_rfl) ?_ ?_ ?_ ?_
        rotate_left 2
        · simp only [List.getElem?_toArray, List.getElem?_cons_succ, List.getElem?_cons_zero]; rfl
        · exact fun _ _ _ h => h
        · rfl
        · (intro u hu; go_simp <;> with_reducible rfl)
        simp only [Act.put, List.setIfInBounds_toArray, List.set_cons_zero, List.set_cons_succ]
        refine Sm.Held.later_store (i := 8) (o := ?_) ?_ (by kernel_rfl) ?_ _ q zeros zeros OQb.out ?_ rfl frame_info zeros_one ?_
        rotate_left 1
        · simp only [List.getElem?_toArray, List.getElem?_cons_succ, List.getElem?_cons_zero]; rfl
        · rfl
        · exact ⟨_, _, rfl, rfl, rfl⟩
        intro Z hbZ hsZ obZ
        have hS1 := (cell_beside hbZ ⟨1, 0, none⟩ (by show _ ≠ q; have : 1 < q := Nat.lt_of_lt_of_le (by decide) hlq; exact Nat.ne_of_lt this) (Nat.lt_of_lt_of_le (by decide) (Nat.le_trans hlq (Nat.le_of_lt OQb.out.lt)))).trans hS
        clear hS
        have hS := hS1
        clear hS1
        refine ⟨hS, ?_⟩
        have OZ := hid obZ
        have OF := hid (OFb.out.beside hbZ (Nat.ne_of_gt hqb))
        have HBZ := hid (HBb.out.trans (hbZ.below hqw (by have := HBb.out.size; omega)))
        clear obZ hbZ
        try simp only [Act.put]
        refine Sm.Held.later_take (i := 9) (oi := ?_) (v := ?_) hS ?_ (by kernel_rfl) (by kernel_rfl) (by kernel_rfl) ?_ ?_ ?_ ?_
        rotate_left 2
        · simp only [List.getElem?_toArray, List.getElem?_cons_succ, List.getElem?_cons_zero]; rfl
        · exact fun _ _ _ h => h
        · rfl
        · (intro u hu; go_simp <;> with_reducible rfl)
        simp only [Act.put, List.setIfInBounds_toArray, List.set_cons_zero, List.set_cons_succ]
        refine Sm.Held.later_done (by kernel_rfl) ?_ _
        go_wp2
        (try simp only [Exit.inBlock, Exit.then])
        refine bodyPost_ret (results_cell_two Tryz.results14 _ _ q _ rfl OZ.out Tryz.underlying26 rfl frame_info) rfl ?_
        refine ⟨HBZ.out, _, rfl, fun U hU => ?_⟩; have OU := (hU fb (by omega) OF.out.lt).trans OF.out; exact ⟨fb, rfl, Ob.lt OU, by rw [HE.out]; exact Ob.cell OU (i := 0) rfl, by rw [HXN.out]; exact Ob.cell OU (i := 1) rfl, by omega⟩
      · intro Z hbZ hsZ obZ
        have hS1 := (cell_beside hbZ ⟨1, 0, none⟩ (by show _ ≠ q; have : 1 < q := Nat.lt_of_lt_of_le (by decide) hlq; exact Nat.ne_of_lt this) (Nat.lt_of_lt_of_le (by decide) hlow)).trans hS
        clear hS
        have hS := hS1
        clear hS1
        refine ⟨hS, ?_⟩
        have OZa := hid obZ
        have HBa := hid (HBW.out.trans ((beside_dr hbZ).below hqw (by have := HBW.out.size; omega)))
        clear obZ hbZ
        try simp only [Act.put]
        refine Sm.Held.later_box (i := 6) (o := ?_) ?_ (by kernel_rfl) ?_ 58 [.iface 133 (.pointer (some E)), .int .i64 (IntKind.i64.wrap ((n : Int) - 4))] ?_ ?_
        rotate_left 1
        · simp only [List.getElem?_toArray, List.getElem?_cons_succ, List.getElem?_cons_zero]; rfl
        · rfl
        · exact ⟨_, rfl, rfl⟩
        intro fb W nb
        have hS1 : W.cell? ⟨1, 0, none⟩ = some (.iface 133 (.pointer (some E))) := (nb.below.cell (Nat.lt_of_lt_of_le (by decide) (Nat.le_trans hlq (Nat.le_of_lt OZa.out.lt)))).trans hS
        clear hS
        have hS := hS1
        clear hS1
        refine ⟨hS, ?_⟩
        have OF := hid nb.ob
        have OZ := hid (OZa.out.below nb.below OZa.out.lt)
        have HBZ := hid (HBa.out.trans (nb.below.mono HBa.out.size))
        have hfbw : w.heap.size ≤ fb := by have := nb.is_; have := HBa.out.size; omega
        clear nb
        try simp only [Act.put, List.setIfInBounds_toArray, List.set_cons_zero, List.set_cons_succ]
        refine Sm.Held.later_take (i := 7) (oi := ?_) (v := ?_) hS ?_ (by kernel_rfl) (by kernel_rfl) (by kernel_rfl) ?_ ?_ ?_ ?_
        rotate_left 2
        · simp only [List.getElem?_toArray, List.getElem?_cons_succ, List.getElem?_cons_zero]; rfl
        · exact fun _ _ _ h => h
        · rfl
        · (intro u hu; go_simp <;> with_reducible rfl)
        simp only [Act.put, List.setIfInBounds_toArray, List.set_cons_zero, List.set_cons_succ]
        refine Sm.Held.later_take (i := 9) (oi := ?_) (v := ?_) hS ?_ (by kernel_rfl) (by kernel_rfl) (by kernel_rfl) ?_ ?_ ?_ ?_
        rotate_left 2
        · simp only [List.getElem?_toArray, List.getElem?_cons_succ, List.getElem?_cons_zero]; rfl
        · exact fun _ _ _ h => h
        · rfl
        · (intro u hu; go_simp <;> with_reducible rfl)
        simp only [Act.put, List.setIfInBounds_toArray, List.set_cons_zero, List.set_cons_succ]
        refine Sm.Held.later_done (by kernel_rfl) ?_ _
        go_wp2
        (try simp only [Exit.inBlock, Exit.then])
        refine bodyPost_ret (results_cell_two Tryz.results14 _ _ q _ rfl OZ.out Tryz.underlying26 rfl frame_info) rfl ?_
        refine ⟨HBZ.out, _, rfl, fun U hU => ?_⟩; have OU := (hU fb (by omega) OF.out.lt).trans OF.out; exact ⟨fb, rfl, Ob.lt OU, by rw [HE.out]; exact Ob.cell OU (i := 0) rfl, by rw [HXN.out]; exact Ob.cell OU (i := 1) rfl, by omega⟩
    | true =>
      have hin : inner x = x.take (x.length - 4) := inner_yes hsl
      have hres : res = readX (x.take (x.length - 4)) := by
        rw [← HRX.out]
        unfold decX
        rw [if_neg H7.out, hsl, if_pos rfl]
      have HRS := hid hres
      clear hres
      rw [hin] at HR1 ⊢
      have hL : (x.take (x.length - 4)).length = n - 4 := by rw [List.length_take, HN.out]; omega
      rw [hL] at HR1 ⊢
      generalize x.take (x.length - 4) = y at *
      clear hsl hin hL HRX
      go_wp2_with (go_at_call 24; refine stop ?_)
      unfold Stop
      refine (read_calls a1 (n - 4) c1 S y w1 HR1.out HS1.out (by omega) (by omega)).mono ?_
      rintro e w2 ⟨hb2, hres⟩
      have HOQ2 := hid (HOQ.out.below hb2 hq1)
      have HB2 := hid (HBW.out.trans (hb2.mono HBW.out.size))
      clear hb2 HOQ HBW HS1 HR1
      have hwz : ∀ Z : World, Beside q w2 Z → ∀ k, w1.heap.size ≤ k → k < w2.heap.size → Z.heap[k]? = w2.heap[k]? := fun Z hb k h1 h2 => hb.block k h2 (by omega)
      have hform : ∃ cs ev, e = .returned (.tuple #[.agg cs.toArray, ev]) ∧ cs.length = 14 ∧ (∀ v ∈ cs, v.oneCell' = true) ∧ (match readX y with | .ok f => ev = .nilIface ∧ Lasting w1 w2 (fun W => FrV W W.heap.size (.agg cs.toArray) f) | .error z => cs = zeros ∧ Lasting w1 w2 (fun W => FaultV W W.heap.size S ev z.1 z.2)) := by
        cases hx : readX y with
        | ok f =>
          rw [hx] at hres
          obtain ⟨v, rfl, hl⟩ := hres
          obtain ⟨b1, b2, b3, b4, b5, b6, rfl, _⟩ := hl.now
          exact ⟨_, _, rfl, rfl, (by intro u hu; simp [cells] at hu; rcases hu with rfl | rfl | rfl | rfl | rfl | rfl | rfl | rfl | rfl | rfl | rfl | rfl | rfl | rfl <;> rfl), rfl, hl⟩
        | error z =>
          rw [hx] at hres
          obtain ⟨ev, rfl, hl⟩ := hres
          exact ⟨_, _, rfl, rfl, zeros_one, rfl, hl⟩
      obtain ⟨cs, ev, rfl, hcl, hc1, hfin⟩ := hform
      have HCL := hid hcl
      have HC1 := hid hc1
      have HFIN := hid hfin
      clear hres hcl hc1 hfin hwz
      dsimp only
      iterate 7 go_step
      refine wpList_store_ob rfl _ _ _ rfl q zeros cs HOQ2.out rfl rfl HCL.out frame_info HC1.out ?_
      intro Z hbZ hsZ obZ
      have OZ := hid obZ
      have BZ := hid hbZ
      clear obZ hbZ
      go_wp2
      (try simp only [Exit.inBlock, Exit.then])
      refine bodyPost_ret (results_cell_two Tryz.results14 _ _ q _ rfl OZ.out Tryz.underlying26 rfl (by rw [HCL.out]; exact frame_info)) rfl ?_
      rw [HRS.out]
      refine ⟨HB2.out.trans (BZ.out.below hqw (by have := HB2.out.size; omega)), ?_⟩
      have hagree : ∀ W' : World, (∀ k, w.heap.size ≤ k → k < Z.heap.size → W'.heap[k]? = Z.heap[k]?) → ∀ k, w1.heap.size ≤ k → k < w2.heap.size → W'.heap[k]? = w2.heap[k]? := fun W' hW' k h1 h2 => (hW' k (by omega) (by have := BZ.out.size; omega)).trans (BZ.out.block k h2 (by omega))
      have hf := HFIN.out
      cases hx : readX y with
      | ok f =>
        rw [hx] at hf
        obtain ⟨rfl, hl⟩ := hf
        exact ⟨_, rfl, fun W' hW' => hl W' (hagree W' hW')⟩
      | error z =>
        rw [hx] at hf
        obtain ⟨rfl, hl⟩ := hf
        exact ⟨_, rfl, fun W' hW' => hl W' (hagree W' hW')⟩
end Go.Proofs.YtfpgdimgffamoaaGreatDoor.Fr
