/- Are two frames the same? The document's own answer: SameInts, Same. -/
import Derived.Test.YtfpgdimgffamoaaGreatDoorFrVal
import Derived.Test.YtfpgdimgffamoaaGreatDoorSmA
import Derived.Test.YtfpgdimgffamoaaGreatDoorFrField
namespace Go.Proofs.YtfpgdimgffamoaaGreatDoor.Fr
open Go.ChangeShapes Go.WideShapes Go.ChangeAt Go.RowKit Go.Proofs.YtfpgdimgffamoaaGreatDoor.Sm Go.Proofs.YtfpgdimgffamoaaGreatDoor.Wr
set_option maxHeartbeats 4000000
set_option maxRecDepth 100000

theorem intsEqR_calls (a : Option Addr) (n c : Nat) (a' : Option Addr) (n' c' : Nat) (l m : List Int) (B B' : Nat) (w : World) (hr : RowI w B a n c l) (hr' : RowI w B' a' n' c' m) :
    Calls Tryz.prog 18 #[.slice a n c, .slice a' n' c'] w fun e w' => e = .returned (.bool (decide (l = m))) ∧ ∃ q, w' = w.drewN q := by
  have hn := hr.row.small
  have hn' := hr'.row.small
  have HR := hid hr
  have HR' := hid hr'
  have HN := hid hr.len
  have HN' := hid hr'.len
  clear hr hr'
  by_cases hl : n = n'
  · subst hl
    go_enter Tryz.func18, Tryz.ntmps18
    go_wp2
    go_loopw [5] (fun i wr => ∃ k q : Nat, k ≤ n ∧ i = .int .i64 k ∧ Hid (l.take k = m.take k) ∧ wr = w.drewN q) (fun i _ => n - (intOf i).toNat)
    case atStart => exact ⟨0, 0, by omega, rfl, rfl, rfl⟩
    case round =>
      obtain ⟨k, q, hk, rfl, HT, rfl⟩ := hrel
      by_cases hlt : k < n
      · obtain ⟨b, off, d, rfl, _, hl1, hc, hd, hd'⟩ := (HR.out.drewN q).at_ hlt
        obtain ⟨b2, off2, d2, rfl, _, hl2, hc2, hd2, hd2'⟩ := (HR'.out.drewN q).at_ hlt
        have HL1 := hid hl1
        have HL2 := hid hl2
        clear hl1 hl2
        have HQ : Hid (∀ j, (w.drewN q).drewN j = w.drewN (q + j)) := fun j => World.drewN_drewN _ _ _
        generalize w.drewN q = W at *
        by_cases hdd : d = d2
        · subst hdd
          go_wp2
          go_quiet (fail)
          go_wp2
          go_roundw
          case rel =>
            refine ⟨k + 1, _, by omega, by go_num, ?_, HQ.out _⟩
            exact (show l.take (k + 1) = m.take (k + 1) by exact (show l.take (k + 1) = m.take (k + 1) by rw [List.take_add_one, List.take_add_one, HL1.out, HL2.out, HT.out]))
          case measure => simp [intOf]; omega
        · have hne : (d == d2) = false := by simpa using hdd
          go_wp2
          go_quiet (fail)
          go_wp2
          go_ret
          refine ⟨?_, _, HQ.out _⟩
          have : ¬ l = m := by
            rintro rfl
            have := HL1.out.symm.trans HL2.out
            injection this with this
            exact hdd this
          rw [decide_eq_false this]; rfl
      · obtain rfl : k = n := by omega
        go_wp2
        go_ret
        refine ⟨?_, _, rfl⟩
        have : l = m := by
          have h := HT.out
          rwa [List.take_of_length_le (by rw [HN.out]; omega), List.take_of_length_le (by rw [HN'.out]; omega)] at h
        rw [decide_eq_true this]; rfl
  · have hne : ((n : Int) == (n' : Int)) = false := by simp; omega
    go_enter Tryz.func18, Tryz.ntmps18
    go_wp2
    go_ret
    refine ⟨?_, 0, rfl⟩
    have : ¬ l = m := by
      rintro rfl
      exact hl (HN.out.symm.trans HN'.out)
    rw [decide_eq_false this]; rfl
/-- P404. -/
theorem sameR_calls (v v' : Value) (f g : Frame) (B B' : Nat) (w : World) (hf : FrV w B v f) (hg : FrV w B' v' g) (hB : B ≤ w.heap.size) (hB' : B' ≤ w.heap.size) :
    Calls Tryz.prog 10 #[v, v'] w fun e w' => e = .returned (.bool (decide (f = g))) ∧ Below w.heap.size w w' := by
  obtain ⟨a, n, c, a', n', c', ev, ra, rb, hw⟩ := hf
  obtain ⟨x, m, d, x', m', d', ev', rx, ry, hw'⟩ := hg
  clear hw hw'
  obtain ⟨a0, a1, a2, a3, a4, a5, a6, a7, a8, a9, a10, a11, a12, a13⟩ := f
  obtain ⟨b0, b1, b2, b3, b4, b5, b6, b7, b8, b9, b10, b11, b12, b13⟩ := g
  have HV := hid ev
  have HV' := hid ev'
  have HA := hid ra
  have HB := hid rb
  have HX := hid rx
  have HY := hid ry
  clear ev ev' ra rb rx ry
  obtain ⟨z, hz⟩ : ∃ z, decide ((⟨a0, a1, a2, a3, a4, a5, a6, a7, a8, a9, a10, a11, a12, a13⟩ : Frame) = ⟨b0, b1, b2, b3, b4, b5, b6, b7, b8, b9, b10, b11, b12, b13⟩) = z := ⟨_, rfl⟩
  rw [hz]
  have HZ : Hid (z = (a0 == b0 && a1 == b1 && a2 == b2 && a3 == b3 && a4 == b4 && a5 == b5 && a6 == b6 && a7 == b7 && a8 == b8 && decide (a9 = b9) && a10 == b10 && a11 == b11 && a12 == b12 && decide (a13 = b13))) := by
    show z = _
    rw [← hz, Bool.eq_iff_iff]
    simp [and_assoc]
  clear hz
  go_enter Tryz.func10, Tryz.ntmps10
  go_step
  go_step
  go_step
  refine wpList_box_any rfl _ _ rfl _ HV.out ?_
  intro p1 W1 n1
  refine wpList_box_any rfl _ _ rfl _ HV'.out ?_
  intro p2 W2 n2
  have hb2 : Below w.heap.size w W2 := n1.below.trans (n2.below.mono n1.below.size)
  have o1 : Ob W2 p1 _ _ := n1.ob.below n2.below n1.ob.lt
  have o2 : Ob W2 p2 _ _ := n2.ob
  have HA := hid (HA.out.below (hb2.mono hB))
  have HB := hid (HB.out.below (hb2.mono hB))
  have HX := hid (HX.out.below (hb2.mono hB'))
  have HY := hid (HY.out.below (hb2.mono hB'))
  have HB2 := hid hb2
  dsimp only at HA HB HX HY
  have O1 := hid o1
  have O2 := hid o2
  clear o1 o2 n1 n2 hb2 HV HV' hB hB'
  iterate 9 go_step
  refine letter 101 2 3 p1 p2 4 false ⟨rfl, rfl, rfl, rfl⟩ rfl ?_
  intro AA TA cA
  refine first_ .neq TA (by decide) (by decide) fieldAt0 (loads_one Tryz.underlying3 rfl) (x := .int .i64 a0) (y := .int .i64 b0) (O1.out.cell (i := 0) rfl) (O2.out.cell (i := 0) rfl) (z := a0 != b0) (by simp [go_sem]) ?_
  intro A0 T0 c0
  refine or_link .neq T0 c0 (by decide) (by decide) (by decide) (by decide) rfl fieldAt1 (loads_one Tryz.underlying3 rfl) (x := .int .i64 a1) (y := .int .i64 b1) ((O1.out).cell (i := 1) rfl) ((O2.out).cell (i := 1) rfl) (z := a1 != b1) (by simp [go_sem]) ?_
  intro A1 T1 c1
  refine or_link .neq T1 c1 (by decide) (by decide) (by decide) (by decide) rfl fieldAt2 (loads_one Tryz.underlying3 rfl) (x := .int .i64 a2) (y := .int .i64 b2) ((O1.out).cell (i := 2) rfl) ((O2.out).cell (i := 2) rfl) (z := a2 != b2) (by simp [go_sem]) ?_
  intro A2 T2 c2
  refine or_link .neq T2 c2 (by decide) (by decide) (by decide) (by decide) rfl fieldAt3 (loads_one Tryz.underlying3 rfl) (x := .int .i64 a3) (y := .int .i64 b3) ((O1.out).cell (i := 3) rfl) ((O2.out).cell (i := 3) rfl) (z := a3 != b3) (by simp [go_sem]) ?_
  intro A3 T3 c3
  refine or_link .neq T3 c3 (by decide) (by decide) (by decide) (by decide) rfl fieldAt4 (loads_one Tryz.underlying3 rfl) (x := .int .i64 a4) (y := .int .i64 b4) ((O1.out).cell (i := 4) rfl) ((O2.out).cell (i := 4) rfl) (z := a4 != b4) (by simp [go_sem]) ?_
  intro A4 T4 c4
  refine or_link .neq T4 c4 (by decide) (by decide) (by decide) (by decide) rfl fieldAt5 (loads_one Tryz.underlying3 rfl) (x := .int .i64 a5) (y := .int .i64 b5) ((O1.out).cell (i := 5) rfl) ((O2.out).cell (i := 5) rfl) (z := a5 != b5) (by simp [go_sem]) ?_
  intro A5 T5 c5
  refine or_link .neq T5 c5 (by decide) (by decide) (by decide) (by decide) rfl fieldAt6 (loads_one Tryz.underlying4 rfl) (x := .bool a6) (y := .bool b6) ((O1.out).cell (i := 6) rfl) ((O2.out).cell (i := 6) rfl) (z := a6 != b6) (by cases a6 <;> cases b6 <;> simp [go_sem, Tryz.underlying4]) ?_
  intro A6 T6 c6
  iterate 3 go_step
  refine wp_cond_split (show A6.eval (.tmp 51) = _ from c6) (fun h => ?_) (fun h => ?_)
  · obtain rfl : z = false := by
      rw [HZ.out]
      clear HZ
      simp only [Bool.or_eq_true, bne_iff_ne, ne_eq] at h
      rcases h with (((((h | h) | h) | h) | h) | h) | h <;> simp [h]
    have hs := sl_put_same (a := A6) (d := 4) (v := .bool false) (by rw [T6.size]; decide)
    go_wp2
    (try simp only [Exit.inBlock, Exit.then])
    refine bodyPost_ret (results_tmp rfl _ _ _) ?_ ?_
    · exact T6.dfr
    exact ⟨congrArg Ending.returned hs, HB2.out⟩
  iterate 5 go_step
  refine first_ .eql T6 (by decide) (by decide) fieldAt7 (loads_one Tryz.underlying2 rfl) (x := .int .i64 a7) (y := .int .i64 b7) (O1.out.cell (i := 7) rfl) (O2.out.cell (i := 7) rfl) (z := a7 == b7) (by simp [go_sem]) ?_
  intro A7 T7 c7
  refine and_link .eql T7 c7 (by decide) (by decide) (by decide) (by decide) rfl fieldAt8 (loads_one Tryz.underlying2 rfl) (x := .int .i64 a8) (y := .int .i64 b8) ((O1.out).cell (i := 8) rfl) ((O2.out).cell (i := 8) rfl) (z := a8 == b8) (by simp [go_sem]) ?_
  intro A8 T8 c8
  refine call_link (R := fun w' => ∃ q, w' = W2.drewN q) T8 c8 (by decide) (by decide) (by decide) (by decide) rfl fieldAt9 (loads_one Tryz.underlying24 rfl) (O1.out.cell (i := 9) rfl) (O2.out.cell (i := 9) rfl) (fun _ _ => by kernel_rfl) (intsEqR_calls _ _ _ _ _ _ a9 b9 _ _ _ HA.out HX.out) ⟨0, rfl⟩ ?_
  rintro A9 _ ⟨q, rfl⟩ T9 c9
  refine and_link .eql T9 c9 (by decide) (by decide) (by decide) (by decide) rfl fieldAt10 (loads_one Tryz.underlying3 rfl) (x := .int .i64 a10) (y := .int .i64 b10) ((O1.out.drewN q).cell (i := 10) rfl) ((O2.out.drewN q).cell (i := 10) rfl) (z := a10 == b10) (by simp [go_sem]) ?_
  intro A10 T10 c10
  refine and_link .eql T10 c10 (by decide) (by decide) (by decide) (by decide) rfl fieldAt11 (loads_one Tryz.underlying3 rfl) (x := .int .i64 a11) (y := .int .i64 b11) ((O1.out.drewN q).cell (i := 11) rfl) ((O2.out.drewN q).cell (i := 11) rfl) (z := a11 == b11) (by simp [go_sem]) ?_
  intro A11 T11 c11
  refine and_link .eql T11 c11 (by decide) (by decide) (by decide) (by decide) rfl fieldAt12 (loads_one Tryz.underlying2 rfl) (x := .int .i64 a12) (y := .int .i64 b12) ((O1.out.drewN q).cell (i := 12) rfl) ((O2.out.drewN q).cell (i := 12) rfl) (z := a12 == b12) (by simp [go_sem]) ?_
  intro A12 T12 c12
  have hv1 := conv_str (P := Tryz.prog) (HB.out.drewN q) Tryz.underlying22 Tryz.underlying5 Tryz.underlying9
  have hv2 := conv_str (P := Tryz.prog) (HY.out.drewN q) Tryz.underlying22 Tryz.underlying5 Tryz.underlying9
  have hq := str_eq a13 b13
  refine str_link T12 c12 (by decide) (by decide) (by decide) (by decide) rfl fieldAt13 (loads_one Tryz.underlying22 rfl) ((O1.out.drewN q).cell (i := 13) rfl) ((O2.out.drewN q).cell (i := 13) rfl) hv1 hv2 (z := decide (a13 = b13)) (by simp [go_sem, hq]) ?_
  intro A13 T13 c13
  refine wpList_go (wanted_none rfl _) (show _ = Result.ok (Next.value (sl A13 100)) _ from rfl) ?_
  have hz' : z = (a7 == b7 && a8 == b8 && decide (a9 = b9) && a10 == b10 && a11 == b11 && a12 == b12 && decide (a13 = b13)) := by
    rw [HZ.out]
    simp only [Bool.or_eq_false_iff, bne_eq_false_iff_eq] at h
    obtain ⟨⟨⟨⟨⟨⟨rfl, rfl⟩, rfl⟩, rfl⟩, rfl⟩, rfl⟩, rfl⟩ := h
    simp
  rw [c13, ← hz']
  clear hz' h HZ
  have hs := sl_put_same (a := A13) (d := 4) (v := .bool z) (by rw [T13.size]; decide)
  go_wp2
  (try simp only [Exit.inBlock, Exit.then])
  refine bodyPost_ret (results_tmp rfl _ _ _) ?_ ?_
  · exact T13.dfr
  exact ⟨congrArg Ending.returned hs, Sm.below_drewN HB2.out _⟩
end Go.Proofs.YtfpgdimgffamoaaGreatDoor.Fr
