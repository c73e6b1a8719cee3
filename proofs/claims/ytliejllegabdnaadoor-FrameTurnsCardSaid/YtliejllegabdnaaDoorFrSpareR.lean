/- The document's own Spare: a frame with what its kind has alone. -/
import Derived.Test.YtliejllegabdnaaDoorFrFrame
namespace Go.Proofs.YtliejllegabdnaaDoor.Fr
open Go.ChangeShapes Go.WideShapes Go.ChangeAt Go.RowKit Go.Proofs.YtliejllegabdnaaDoor.Sm Go.Proofs.YtliejllegabdnaaDoor.Wr
set_option maxHeartbeats 4000000
set_option maxRecDepth 100000
set_option linter.unusedVariables false

/-- what Spare returns. -/
def RetSpare (w : World) (B : Nat) (f : Frame) (e : Ending) (w' : World) : Prop := ∃ cs : List Value, e = .returned (.agg cs.toArray) ∧ cs.length = 14 ∧ (∀ v ∈ cs, v.oneCell' = true) ∧ FrV w' B (.agg cs.toArray) (spare f) ∧ Below w.heap.size w w'
theorem spareR_1 (f : Frame) (v : Value) (B : Nat) (w : World) (hf : FrV w B v f) (hB : B ≤ w.heap.size) (hk : f.kind = 1) :
    Calls Tryd.prog 26 #[v] w fun e w' => RetSpare w B f e w' := by
  obtain ⟨a, n, c, a', n', c', ev, ra, rb, hw⟩ := hf
  have HV := hid ev
  have HA := hid ra
  have HB := hid rb
  have HW := hid hw
  clear ev ra rb hw
  have e1 : (f.kind == 1) = true := by rw [hk]; rfl
  have HK := hid hk
  clear hk
  go_enter Tryd.func26, Tryd.ntmps26
  repeat ((fail_if_success (with_reducible refine at_box rfl ?_)); go_step)
  refine wpList_box_any rfl _ _ rfl _ HV.out ?_
  intro p W0 n0
  refine wpList_alloc_any rfl _ rfl zeros frame_zero ?_
  intro q W1 n1
  have hp0 : w.heap.size ≤ p := Nat.le_of_eq n0.is_.symm
  have hpq : p < q := by have := n1.is_; have := n0.ob.lt; omega
  have hq1 := n1.ob.lt
  have OP1 := hid (n0.ob.below n1.below n0.ob.lt)
  have OQ1 := hid n1.ob
  have B1 := hid (n0.below.trans (n1.below.mono n0.below.size))
  clear n0 n1
  have k0 := OP1.out.cell (i := 0) (v := .int .i64 f.kind) rfl
  have k1 := OP1.out.cell (i := 1) (v := .int .i64 f.part) rfl
  have k2 := OP1.out.cell (i := 2) (v := .int .i64 f.node) rfl
  repeat ((fail_if_success (with_reducible refine at_alloc rfl ?_)); go_step)
  refine wpList_alloc_any rfl _ rfl zeros frame_zero ?_
  intro r W2 n2
  have hqr : q < r := by have := n2.is_; omega
  have OP2 := hid (OP1.out.below n2.below (by omega))
  have OQ2 := hid (OQ1.out.below n2.below (by omega))
  have OR2 := hid n2.ob
  have B2 := hid (B1.out.trans (n2.below.mono B1.out.size))
  clear n2 OP1 OQ1 B1 k0 k1 k2
  repeat ((fail_if_success (with_reducible refine at_store (t := 25) rfl ?_)); go_step)
  refine wpList_store_ob rfl _ _ _ rfl r zeros [.int .i64 f.kind, .int .i64 f.part, .int .i64 f.node, .int .i64 0, .int .i64 0, .int .i64 0, .bool false, .int .i64 0, .int .i64 0, .slice none 0 0, .int .i64 0, .int .i64 0, .int .i64 0, .slice none 0 0] OR2.out rfl rfl rfl frame_info (by intro u hu; simp only [List.mem_cons, List.not_mem_nil, or_false] at hu; rcases hu with rfl | rfl | rfl | rfl | rfl | rfl | rfl | rfl | rfl | rfl | rfl | rfl | rfl | rfl <;> rfl) ?_
  intro W3 hb3 hs3 o3
  have OP3 := hid (OP2.out.beside hb3 (by omega))
  have OQ3 := hid (OQ2.out.beside hb3 (by omega))
  have OR3 := hid o3
  have B3 := hid (B2.out.trans (hb3.below (by omega) (by have := B2.out.size; omega)))
  clear hb3 hs3 o3 OP2 OQ2 OR2 B2
  have k0 := OP3.out.cell (i := 0) (v := .int .i64 f.kind) rfl
  have k3 := OP3.out.cell (i := 3) (v := .int .i64 f.wait) rfl
  have r3 := OR3.out.cell (i := 3) (v := .int .i64 0) rfl
  have z3 := OR3.out.frozen 3
  have hpr : p ≠ r := by omega
  repeat ((fail_if_success (with_reducible refine at_load (t := 25) rfl ?_)); go_step)
  refine wpList_load_ob rfl _ _ rfl r [.int .i64 f.kind, .int .i64 f.part, .int .i64 f.node, .int .i64 f.wait, .int .i64 0, .int .i64 0, .bool false, .int .i64 0, .int .i64 0, .slice none 0 0, .int .i64 0, .int .i64 0, .int .i64 0, .slice none 0 0] (show Ob _ r _ _ from (OR3.out.set 3 _)) rfl Tryd.underlying25 rfl frame_info ?_
  repeat ((fail_if_success (with_reducible refine at_store (t := 25) rfl ?_)); go_step)
  refine wpList_store_ob rfl _ _ _ rfl q zeros [.int .i64 f.kind, .int .i64 f.part, .int .i64 f.node, .int .i64 f.wait, .int .i64 0, .int .i64 0, .bool false, .int .i64 0, .int .i64 0, .slice none 0 0, .int .i64 0, .int .i64 0, .int .i64 0, .slice none 0 0] (OQ3.out.other (by omega)) rfl rfl rfl frame_info (by intro u hu; simp only [List.mem_cons, List.not_mem_nil, or_false] at hu; rcases hu with rfl | rfl | rfl | rfl | rfl | rfl | rfl | rfl | rfl | rfl | rfl | rfl | rfl | rfl <;> rfl) ?_
  intro W4 hb4 hs4 o4
  have O4 := hid o4
  have hB4 : Below w.heap.size w W4 := (B3.out.setCell (p := ⟨r, 3, none⟩) (by show _ ≤ r; omega) (.int .i64 f.wait)).trans (hb4.below (by omega) (by have := (B3.out.setCell (p := ⟨r, 3, none⟩) (by show _ ≤ r; omega) (.int .i64 f.wait)).size; omega))
  have HB4 := hid hB4
  clear hb4 hs4 o4 hB4
  go_wp2
  (try simp only [Exit.inBlock, Exit.then])
  refine bodyPost_ret (results_cell_ob Tryd.results26 _ _ q _ rfl O4.out Tryd.underlying25 rfl frame_info) rfl ?_
  refine ⟨_, rfl, rfl, (by intro u hu; simp only [List.mem_cons, List.not_mem_nil, or_false] at hu; rcases hu with rfl | rfl | rfl | rfl | rfl | rfl | rfl | rfl | rfl | rfl | rfl | rfl | rfl | rfl <;> rfl), ?_, HB4.out⟩
  have hk := HK.out
  have hs : spare f = { bare f.kind f.part f.node with wait := f.wait } := by unfold spare bare; simp [hk]
  rw [hs]
  obtain ⟨w1, w2, w3, w4, w5, w6, w7, w8, w9, w10, w11⟩ := HW.out
  exact ⟨none, 0, 0, none, 0, 0, rfl, RowI.nil, Row8.nil, by unfold Wf Is64 at *; simp only [bare]; omega⟩
theorem spareR_2 (f : Frame) (v : Value) (B : Nat) (w : World) (hf : FrV w B v f) (hB : B ≤ w.heap.size) (hk : f.kind = 2) :
    Calls Tryd.prog 26 #[v] w fun e w' => RetSpare w B f e w' := by
  obtain ⟨a, n, c, a', n', c', ev, ra, rb, hw⟩ := hf
  have HV := hid ev
  have HA := hid ra
  have HB := hid rb
  have HW := hid hw
  clear ev ra rb hw
  have e1 : (f.kind == 1) = false := by rw [hk]; rfl
  have e2 : (f.kind == 2) = true := by rw [hk]; rfl
  have HK := hid hk
  clear hk
  go_enter Tryd.func26, Tryd.ntmps26
  repeat ((fail_if_success (with_reducible refine at_box rfl ?_)); go_step)
  refine wpList_box_any rfl _ _ rfl _ HV.out ?_
  intro p W0 n0
  refine wpList_alloc_any rfl _ rfl zeros frame_zero ?_
  intro q W1 n1
  have hp0 : w.heap.size ≤ p := Nat.le_of_eq n0.is_.symm
  have hpq : p < q := by have := n1.is_; have := n0.ob.lt; omega
  have hq1 := n1.ob.lt
  have OP1 := hid (n0.ob.below n1.below n0.ob.lt)
  have OQ1 := hid n1.ob
  have B1 := hid (n0.below.trans (n1.below.mono n0.below.size))
  clear n0 n1
  have k0 := OP1.out.cell (i := 0) (v := .int .i64 f.kind) rfl
  have k1 := OP1.out.cell (i := 1) (v := .int .i64 f.part) rfl
  have k2 := OP1.out.cell (i := 2) (v := .int .i64 f.node) rfl
  repeat ((fail_if_success (with_reducible refine at_alloc rfl ?_)); go_step)
  refine wpList_alloc_any rfl _ rfl zeros frame_zero ?_
  intro r W2 n2
  have hqr : q < r := by have := n2.is_; omega
  have OP2 := hid (OP1.out.below n2.below (by omega))
  have OQ2 := hid (OQ1.out.below n2.below (by omega))
  have OR2 := hid n2.ob
  have B2 := hid (B1.out.trans (n2.below.mono B1.out.size))
  clear n2 OP1 OQ1 B1 k0 k1 k2
  repeat ((fail_if_success (with_reducible refine at_store (t := 25) rfl ?_)); go_step)
  refine wpList_store_ob rfl _ _ _ rfl r zeros [.int .i64 f.kind, .int .i64 f.part, .int .i64 f.node, .int .i64 0, .int .i64 0, .int .i64 0, .bool false, .int .i64 0, .int .i64 0, .slice none 0 0, .int .i64 0, .int .i64 0, .int .i64 0, .slice none 0 0] OR2.out rfl rfl rfl frame_info (by intro u hu; simp only [List.mem_cons, List.not_mem_nil, or_false] at hu; rcases hu with rfl | rfl | rfl | rfl | rfl | rfl | rfl | rfl | rfl | rfl | rfl | rfl | rfl | rfl <;> rfl) ?_
  intro W3 hb3 hs3 o3
  have OP3 := hid (OP2.out.beside hb3 (by omega))
  have OQ3 := hid (OQ2.out.beside hb3 (by omega))
  have OR3 := hid o3
  have B3 := hid (B2.out.trans (hb3.below (by omega) (by have := B2.out.size; omega)))
  clear hb3 hs3 o3 OP2 OQ2 OR2 B2
  have k0 := OP3.out.cell (i := 0) (v := .int .i64 f.kind) rfl
  have k7 := OP3.out.cell (i := 7) (v := .int .i64 f.cycle) rfl
  have r7 := OR3.out.cell (i := 7) (v := .int .i64 0) rfl
  have z7 := OR3.out.frozen 7
  have k4 := OP3.out.cell (i := 4) (v := .int .i64 f.mask) rfl
  have r4 := OR3.out.cell (i := 4) (v := .int .i64 0) rfl
  have z4 := OR3.out.frozen 4
  have k9 := OP3.out.cell (i := 9) (v := .slice a n c) rfl
  have r9 := OR3.out.cell (i := 9) (v := .slice none 0 0) rfl
  have z9 := OR3.out.frozen 9
  have hpr : p ≠ r := by omega
  repeat ((fail_if_success (with_reducible refine at_load (t := 25) rfl ?_)); go_step)
  refine wpList_load_ob rfl _ _ rfl r [.int .i64 f.kind, .int .i64 f.part, .int .i64 f.node, .int .i64 0, .int .i64 f.mask, .int .i64 0, .bool false, .int .i64 f.cycle, .int .i64 0, .slice a n c, .int .i64 0, .int .i64 0, .int .i64 0, .slice none 0 0] (show Ob _ r _ _ from (((OR3.out.set 7 _).set 4 _).set 9 _)) rfl Tryd.underlying25 rfl frame_info ?_
  repeat ((fail_if_success (with_reducible refine at_store (t := 25) rfl ?_)); go_step)
  refine wpList_store_ob rfl _ _ _ rfl q zeros [.int .i64 f.kind, .int .i64 f.part, .int .i64 f.node, .int .i64 0, .int .i64 f.mask, .int .i64 0, .bool false, .int .i64 f.cycle, .int .i64 0, .slice a n c, .int .i64 0, .int .i64 0, .int .i64 0, .slice none 0 0] (((OQ3.out.other (by omega)).other (by omega)).other (by omega)) rfl rfl rfl frame_info (by intro u hu; simp only [List.mem_cons, List.not_mem_nil, or_false] at hu; rcases hu with rfl | rfl | rfl | rfl | rfl | rfl | rfl | rfl | rfl | rfl | rfl | rfl | rfl | rfl <;> rfl) ?_
  intro W4 hb4 hs4 o4
  have O4 := hid o4
  have hB4 : Below w.heap.size w W4 := (((B3.out.setCell (p := ⟨r, 7, none⟩) (by show _ ≤ r; omega) (.int .i64 f.cycle)).setCell (p := ⟨r, 4, none⟩) (by show _ ≤ r; omega) (.int .i64 f.mask)).setCell (p := ⟨r, 9, none⟩) (by show _ ≤ r; omega) (.slice a n c)).trans (hb4.below (by omega) (by have := (((B3.out.setCell (p := ⟨r, 7, none⟩) (by show _ ≤ r; omega) (.int .i64 f.cycle)).setCell (p := ⟨r, 4, none⟩) (by show _ ≤ r; omega) (.int .i64 f.mask)).setCell (p := ⟨r, 9, none⟩) (by show _ ≤ r; omega) (.slice a n c)).size; omega))
  have HB4 := hid hB4
  clear hb4 hs4 o4 hB4
  go_wp2
  (try simp only [Exit.inBlock, Exit.then])
  refine bodyPost_ret (results_cell_ob Tryd.results26 _ _ q _ rfl O4.out Tryd.underlying25 rfl frame_info) rfl ?_
  refine ⟨_, rfl, rfl, (by intro u hu; simp only [List.mem_cons, List.not_mem_nil, or_false] at hu; rcases hu with rfl | rfl | rfl | rfl | rfl | rfl | rfl | rfl | rfl | rfl | rfl | rfl | rfl | rfl <;> rfl), ?_, HB4.out⟩
  have hk := HK.out
  have hs : spare f = { bare f.kind f.part f.node with cycle := f.cycle, mask := f.mask, ages := f.ages } := by unfold spare bare; simp [hk]
  rw [hs]
  obtain ⟨w1, w2, w3, w4, w5, w6, w7, w8, w9, w10, w11⟩ := HW.out
  exact ⟨a, n, c, none, 0, 0, rfl, HA.out.below (HB4.out.mono hB), Row8.nil, by unfold Wf Is64 at *; simp only [bare]; omega⟩
theorem spareR_3 (f : Frame) (v : Value) (B : Nat) (w : World) (hf : FrV w B v f) (hB : B ≤ w.heap.size) (hk : f.kind = 3) :
    Calls Tryd.prog 26 #[v] w fun e w' => RetSpare w B f e w' := by
  obtain ⟨a, n, c, a', n', c', ev, ra, rb, hw⟩ := hf
  have HV := hid ev
  have HA := hid ra
  have HB := hid rb
  have HW := hid hw
  clear ev ra rb hw
  have e1 : (f.kind == 1) = false := by rw [hk]; rfl
  have e2 : (f.kind == 2) = false := by rw [hk]; rfl
  have e3 : (f.kind == 3) = true := by rw [hk]; rfl
  have HK := hid hk
  clear hk
  go_enter Tryd.func26, Tryd.ntmps26
  repeat ((fail_if_success (with_reducible refine at_box rfl ?_)); go_step)
  refine wpList_box_any rfl _ _ rfl _ HV.out ?_
  intro p W0 n0
  refine wpList_alloc_any rfl _ rfl zeros frame_zero ?_
  intro q W1 n1
  have hp0 : w.heap.size ≤ p := Nat.le_of_eq n0.is_.symm
  have hpq : p < q := by have := n1.is_; have := n0.ob.lt; omega
  have hq1 := n1.ob.lt
  have OP1 := hid (n0.ob.below n1.below n0.ob.lt)
  have OQ1 := hid n1.ob
  have B1 := hid (n0.below.trans (n1.below.mono n0.below.size))
  clear n0 n1
  have k0 := OP1.out.cell (i := 0) (v := .int .i64 f.kind) rfl
  have k1 := OP1.out.cell (i := 1) (v := .int .i64 f.part) rfl
  have k2 := OP1.out.cell (i := 2) (v := .int .i64 f.node) rfl
  repeat ((fail_if_success (with_reducible refine at_alloc rfl ?_)); go_step)
  refine wpList_alloc_any rfl _ rfl zeros frame_zero ?_
  intro r W2 n2
  have hqr : q < r := by have := n2.is_; omega
  have OP2 := hid (OP1.out.below n2.below (by omega))
  have OQ2 := hid (OQ1.out.below n2.below (by omega))
  have OR2 := hid n2.ob
  have B2 := hid (B1.out.trans (n2.below.mono B1.out.size))
  clear n2 OP1 OQ1 B1 k0 k1 k2
  repeat ((fail_if_success (with_reducible refine at_store (t := 25) rfl ?_)); go_step)
  refine wpList_store_ob rfl _ _ _ rfl r zeros [.int .i64 f.kind, .int .i64 f.part, .int .i64 f.node, .int .i64 0, .int .i64 0, .int .i64 0, .bool false, .int .i64 0, .int .i64 0, .slice none 0 0, .int .i64 0, .int .i64 0, .int .i64 0, .slice none 0 0] OR2.out rfl rfl rfl frame_info (by intro u hu; simp only [List.mem_cons, List.not_mem_nil, or_false] at hu; rcases hu with rfl | rfl | rfl | rfl | rfl | rfl | rfl | rfl | rfl | rfl | rfl | rfl | rfl | rfl <;> rfl) ?_
  intro W3 hb3 hs3 o3
  have OP3 := hid (OP2.out.beside hb3 (by omega))
  have OQ3 := hid (OQ2.out.beside hb3 (by omega))
  have OR3 := hid o3
  have B3 := hid (B2.out.trans (hb3.below (by omega) (by have := B2.out.size; omega)))
  clear hb3 hs3 o3 OP2 OQ2 OR2 B2
  have k0 := OP3.out.cell (i := 0) (v := .int .i64 f.kind) rfl
  have k5 := OP3.out.cell (i := 5) (v := .int .i64 f.link) rfl
  have r5 := OR3.out.cell (i := 5) (v := .int .i64 0) rfl
  have z5 := OR3.out.frozen 5
  have k6 := OP3.out.cell (i := 6) (v := .bool f.flag) rfl
  have r6 := OR3.out.cell (i := 6) (v := .bool false) rfl
  have z6 := OR3.out.frozen 6
  have k7 := OP3.out.cell (i := 7) (v := .int .i64 f.cycle) rfl
  have r7 := OR3.out.cell (i := 7) (v := .int .i64 0) rfl
  have z7 := OR3.out.frozen 7
  have k8 := OP3.out.cell (i := 8) (v := .int .i64 f.offset) rfl
  have r8 := OR3.out.cell (i := 8) (v := .int .i64 0) rfl
  have z8 := OR3.out.frozen 8
  have hpr : p ≠ r := by omega
  repeat ((fail_if_success (with_reducible refine at_load (t := 25) rfl ?_)); go_step)
  refine wpList_load_ob rfl _ _ rfl r [.int .i64 f.kind, .int .i64 f.part, .int .i64 f.node, .int .i64 0, .int .i64 0, .int .i64 f.link, .bool f.flag, .int .i64 f.cycle, .int .i64 f.offset, .slice none 0 0, .int .i64 0, .int .i64 0, .int .i64 0, .slice none 0 0] (show Ob _ r _ _ from ((((OR3.out.set 5 _).set 6 _).set 7 _).set 8 _)) rfl Tryd.underlying25 rfl frame_info ?_
  repeat ((fail_if_success (with_reducible refine at_store (t := 25) rfl ?_)); go_step)
  refine wpList_store_ob rfl _ _ _ rfl q zeros [.int .i64 f.kind, .int .i64 f.part, .int .i64 f.node, .int .i64 0, .int .i64 0, .int .i64 f.link, .bool f.flag, .int .i64 f.cycle, .int .i64 f.offset, .slice none 0 0, .int .i64 0, .int .i64 0, .int .i64 0, .slice none 0 0] ((((OQ3.out.other (by omega)).other (by omega)).other (by omega)).other (by omega)) rfl rfl rfl frame_info (by intro u hu; simp only [List.mem_cons, List.not_mem_nil, or_false] at hu; rcases hu with rfl | rfl | rfl | rfl | rfl | rfl | rfl | rfl | rfl | rfl | rfl | rfl | rfl | rfl <;> rfl) ?_
  intro W4 hb4 hs4 o4
  have O4 := hid o4
  have hB4 : Below w.heap.size w W4 := ((((B3.out.setCell (p := ⟨r, 5, none⟩) (by show _ ≤ r; omega) (.int .i64 f.link)).setCell (p := ⟨r, 6, none⟩) (by show _ ≤ r; omega) (.bool f.flag)).setCell (p := ⟨r, 7, none⟩) (by show _ ≤ r; omega) (.int .i64 f.cycle)).setCell (p := ⟨r, 8, none⟩) (by show _ ≤ r; omega) (.int .i64 f.offset)).trans (hb4.below (by omega) (by have := ((((B3.out.setCell (p := ⟨r, 5, none⟩) (by show _ ≤ r; omega) (.int .i64 f.link)).setCell (p := ⟨r, 6, none⟩) (by show _ ≤ r; omega) (.bool f.flag)).setCell (p := ⟨r, 7, none⟩) (by show _ ≤ r; omega) (.int .i64 f.cycle)).setCell (p := ⟨r, 8, none⟩) (by show _ ≤ r; omega) (.int .i64 f.offset)).size; omega))
  have HB4 := hid hB4
  clear hb4 hs4 o4 hB4
  go_wp2
  (try simp only [Exit.inBlock, Exit.then])
  refine bodyPost_ret (results_cell_ob Tryd.results26 _ _ q _ rfl O4.out Tryd.underlying25 rfl frame_info) rfl ?_
  refine ⟨_, rfl, rfl, (by intro u hu; simp only [List.mem_cons, List.not_mem_nil, or_false] at hu; rcases hu with rfl | rfl | rfl | rfl | rfl | rfl | rfl | rfl | rfl | rfl | rfl | rfl | rfl | rfl <;> rfl), ?_, HB4.out⟩
  have hk := HK.out
  have hs : spare f = { bare f.kind f.part f.node with link := f.link, flag := f.flag, cycle := f.cycle, offset := f.offset } := by unfold spare bare; simp [hk]
  rw [hs]
  obtain ⟨w1, w2, w3, w4, w5, w6, w7, w8, w9, w10, w11⟩ := HW.out
  exact ⟨none, 0, 0, none, 0, 0, rfl, RowI.nil, Row8.nil, by unfold Wf Is64 at *; simp only [bare]; omega⟩
theorem spareR_4 (f : Frame) (v : Value) (B : Nat) (w : World) (hf : FrV w B v f) (hB : B ≤ w.heap.size) (hk : f.kind = 4) :
    Calls Tryd.prog 26 #[v] w fun e w' => RetSpare w B f e w' := by
  obtain ⟨a, n, c, a', n', c', ev, ra, rb, hw⟩ := hf
  have HV := hid ev
  have HA := hid ra
  have HB := hid rb
  have HW := hid hw
  clear ev ra rb hw
  have e1 : (f.kind == 1) = false := by rw [hk]; rfl
  have e2 : (f.kind == 2) = false := by rw [hk]; rfl
  have e3 : (f.kind == 3) = false := by rw [hk]; rfl
  have e4 : (f.kind == 4) = true := by rw [hk]; rfl
  have HK := hid hk
  clear hk
  go_enter Tryd.func26, Tryd.ntmps26
  repeat ((fail_if_success (with_reducible refine at_box rfl ?_)); go_step)
  refine wpList_box_any rfl _ _ rfl _ HV.out ?_
  intro p W0 n0
  refine wpList_alloc_any rfl _ rfl zeros frame_zero ?_
  intro q W1 n1
  have hp0 : w.heap.size ≤ p := Nat.le_of_eq n0.is_.symm
  have hpq : p < q := by have := n1.is_; have := n0.ob.lt; omega
  have hq1 := n1.ob.lt
  have OP1 := hid (n0.ob.below n1.below n0.ob.lt)
  have OQ1 := hid n1.ob
  have B1 := hid (n0.below.trans (n1.below.mono n0.below.size))
  clear n0 n1
  have k0 := OP1.out.cell (i := 0) (v := .int .i64 f.kind) rfl
  have k1 := OP1.out.cell (i := 1) (v := .int .i64 f.part) rfl
  have k2 := OP1.out.cell (i := 2) (v := .int .i64 f.node) rfl
  repeat ((fail_if_success (with_reducible refine at_alloc rfl ?_)); go_step)
  refine wpList_alloc_any rfl _ rfl zeros frame_zero ?_
  intro r W2 n2
  have hqr : q < r := by have := n2.is_; omega
  have OP2 := hid (OP1.out.below n2.below (by omega))
  have OQ2 := hid (OQ1.out.below n2.below (by omega))
  have OR2 := hid n2.ob
  have B2 := hid (B1.out.trans (n2.below.mono B1.out.size))
  clear n2 OP1 OQ1 B1 k0 k1 k2
  repeat ((fail_if_success (with_reducible refine at_store (t := 25) rfl ?_)); go_step)
  refine wpList_store_ob rfl _ _ _ rfl r zeros [.int .i64 f.kind, .int .i64 f.part, .int .i64 f.node, .int .i64 0, .int .i64 0, .int .i64 0, .bool false, .int .i64 0, .int .i64 0, .slice none 0 0, .int .i64 0, .int .i64 0, .int .i64 0, .slice none 0 0] OR2.out rfl rfl rfl frame_info (by intro u hu; simp only [List.mem_cons, List.not_mem_nil, or_false] at hu; rcases hu with rfl | rfl | rfl | rfl | rfl | rfl | rfl | rfl | rfl | rfl | rfl | rfl | rfl | rfl <;> rfl) ?_
  intro W3 hb3 hs3 o3
  have OP3 := hid (OP2.out.beside hb3 (by omega))
  have OQ3 := hid (OQ2.out.beside hb3 (by omega))
  have OR3 := hid o3
  have B3 := hid (B2.out.trans (hb3.below (by omega) (by have := B2.out.size; omega)))
  clear hb3 hs3 o3 OP2 OQ2 OR2 B2
  have k0 := OP3.out.cell (i := 0) (v := .int .i64 f.kind) rfl
  have k5 := OP3.out.cell (i := 5) (v := .int .i64 f.link) rfl
  have r5 := OR3.out.cell (i := 5) (v := .int .i64 0) rfl
  have z5 := OR3.out.frozen 5
  have k9 := OP3.out.cell (i := 9) (v := .slice a n c) rfl
  have r9 := OR3.out.cell (i := 9) (v := .slice none 0 0) rfl
  have z9 := OR3.out.frozen 9
  have hpr : p ≠ r := by omega
  repeat ((fail_if_success (with_reducible refine at_load (t := 25) rfl ?_)); go_step)
  refine wpList_load_ob rfl _ _ rfl r [.int .i64 f.kind, .int .i64 f.part, .int .i64 f.node, .int .i64 0, .int .i64 0, .int .i64 f.link, .bool false, .int .i64 0, .int .i64 0, .slice a n c, .int .i64 0, .int .i64 0, .int .i64 0, .slice none 0 0] (show Ob _ r _ _ from ((OR3.out.set 5 _).set 9 _)) rfl Tryd.underlying25 rfl frame_info ?_
  repeat ((fail_if_success (with_reducible refine at_store (t := 25) rfl ?_)); go_step)
  refine wpList_store_ob rfl _ _ _ rfl q zeros [.int .i64 f.kind, .int .i64 f.part, .int .i64 f.node, .int .i64 0, .int .i64 0, .int .i64 f.link, .bool false, .int .i64 0, .int .i64 0, .slice a n c, .int .i64 0, .int .i64 0, .int .i64 0, .slice none 0 0] ((OQ3.out.other (by omega)).other (by omega)) rfl rfl rfl frame_info (by intro u hu; simp only [List.mem_cons, List.not_mem_nil, or_false] at hu; rcases hu with rfl | rfl | rfl | rfl | rfl | rfl | rfl | rfl | rfl | rfl | rfl | rfl | rfl | rfl <;> rfl) ?_
  intro W4 hb4 hs4 o4
  have O4 := hid o4
  have hB4 : Below w.heap.size w W4 := ((B3.out.setCell (p := ⟨r, 5, none⟩) (by show _ ≤ r; omega) (.int .i64 f.link)).setCell (p := ⟨r, 9, none⟩) (by show _ ≤ r; omega) (.slice a n c)).trans (hb4.below (by omega) (by have := ((B3.out.setCell (p := ⟨r, 5, none⟩) (by show _ ≤ r; omega) (.int .i64 f.link)).setCell (p := ⟨r, 9, none⟩) (by show _ ≤ r; omega) (.slice a n c)).size; omega))
  have HB4 := hid hB4
  clear hb4 hs4 o4 hB4
  go_wp2
  (try simp only [Exit.inBlock, Exit.then])
  refine bodyPost_ret (results_cell_ob Tryd.results26 _ _ q _ rfl O4.out Tryd.underlying25 rfl frame_info) rfl ?_
  refine ⟨_, rfl, rfl, (by intro u hu; simp only [List.mem_cons, List.not_mem_nil, or_false] at hu; rcases hu with rfl | rfl | rfl | rfl | rfl | rfl | rfl | rfl | rfl | rfl | rfl | rfl | rfl | rfl <;> rfl), ?_, HB4.out⟩
  have hk := HK.out
  have hs : spare f = { bare f.kind f.part f.node with link := f.link, ages := f.ages } := by unfold spare bare; simp [hk]
  rw [hs]
  obtain ⟨w1, w2, w3, w4, w5, w6, w7, w8, w9, w10, w11⟩ := HW.out
  exact ⟨a, n, c, none, 0, 0, rfl, HA.out.below (HB4.out.mono hB), Row8.nil, by unfold Wf Is64 at *; simp only [bare]; omega⟩
theorem spareR_5 (f : Frame) (v : Value) (B : Nat) (w : World) (hf : FrV w B v f) (hB : B ≤ w.heap.size) (hk : f.kind = 5) :
    Calls Tryd.prog 26 #[v] w fun e w' => RetSpare w B f e w' := by
  obtain ⟨a, n, c, a', n', c', ev, ra, rb, hw⟩ := hf
  have HV := hid ev
  have HA := hid ra
  have HB := hid rb
  have HW := hid hw
  clear ev ra rb hw
  have e1 : (f.kind == 1) = false := by rw [hk]; rfl
  have e2 : (f.kind == 2) = false := by rw [hk]; rfl
  have e3 : (f.kind == 3) = false := by rw [hk]; rfl
  have e4 : (f.kind == 4) = false := by rw [hk]; rfl
  have e5 : (f.kind == 5) = true := by rw [hk]; rfl
  have HK := hid hk
  clear hk
  go_enter Tryd.func26, Tryd.ntmps26
  repeat ((fail_if_success (with_reducible refine at_box rfl ?_)); go_step)
  refine wpList_box_any rfl _ _ rfl _ HV.out ?_
  intro p W0 n0
  refine wpList_alloc_any rfl _ rfl zeros frame_zero ?_
  intro q W1 n1
  have hp0 : w.heap.size ≤ p := Nat.le_of_eq n0.is_.symm
  have hpq : p < q := by have := n1.is_; have := n0.ob.lt; omega
  have hq1 := n1.ob.lt
  have OP1 := hid (n0.ob.below n1.below n0.ob.lt)
  have OQ1 := hid n1.ob
  have B1 := hid (n0.below.trans (n1.below.mono n0.below.size))
  clear n0 n1
  have k0 := OP1.out.cell (i := 0) (v := .int .i64 f.kind) rfl
  have k1 := OP1.out.cell (i := 1) (v := .int .i64 f.part) rfl
  have k2 := OP1.out.cell (i := 2) (v := .int .i64 f.node) rfl
  repeat ((fail_if_success (with_reducible refine at_alloc rfl ?_)); go_step)
  refine wpList_alloc_any rfl _ rfl zeros frame_zero ?_
  intro r W2 n2
  have hqr : q < r := by have := n2.is_; omega
  have OP2 := hid (OP1.out.below n2.below (by omega))
  have OQ2 := hid (OQ1.out.below n2.below (by omega))
  have OR2 := hid n2.ob
  have B2 := hid (B1.out.trans (n2.below.mono B1.out.size))
  clear n2 OP1 OQ1 B1 k0 k1 k2
  repeat ((fail_if_success (with_reducible refine at_store (t := 25) rfl ?_)); go_step)
  refine wpList_store_ob rfl _ _ _ rfl r zeros [.int .i64 f.kind, .int .i64 f.part, .int .i64 f.node, .int .i64 0, .int .i64 0, .int .i64 0, .bool false, .int .i64 0, .int .i64 0, .slice none 0 0, .int .i64 0, .int .i64 0, .int .i64 0, .slice none 0 0] OR2.out rfl rfl rfl frame_info (by intro u hu; simp only [List.mem_cons, List.not_mem_nil, or_false] at hu; rcases hu with rfl | rfl | rfl | rfl | rfl | rfl | rfl | rfl | rfl | rfl | rfl | rfl | rfl | rfl <;> rfl) ?_
  intro W3 hb3 hs3 o3
  have OP3 := hid (OP2.out.beside hb3 (by omega))
  have OQ3 := hid (OQ2.out.beside hb3 (by omega))
  have OR3 := hid o3
  have B3 := hid (B2.out.trans (hb3.below (by omega) (by have := B2.out.size; omega)))
  clear hb3 hs3 o3 OP2 OQ2 OR2 B2
  have k0 := OP3.out.cell (i := 0) (v := .int .i64 f.kind) rfl
  have k5 := OP3.out.cell (i := 5) (v := .int .i64 f.link) rfl
  have r5 := OR3.out.cell (i := 5) (v := .int .i64 0) rfl
  have z5 := OR3.out.frozen 5
  have k10 := OP3.out.cell (i := 10) (v := .int .i64 f.frm) rfl
  have r10 := OR3.out.cell (i := 10) (v := .int .i64 0) rfl
  have z10 := OR3.out.frozen 10
  have k11 := OP3.out.cell (i := 11) (v := .int .i64 f.to) rfl
  have r11 := OR3.out.cell (i := 11) (v := .int .i64 0) rfl
  have z11 := OR3.out.frozen 11
  have k12 := OP3.out.cell (i := 12) (v := .int .i64 f.seq) rfl
  have r12 := OR3.out.cell (i := 12) (v := .int .i64 0) rfl
  have z12 := OR3.out.frozen 12
  have k13 := OP3.out.cell (i := 13) (v := .slice a' n' c') rfl
  have r13 := OR3.out.cell (i := 13) (v := .slice none 0 0) rfl
  have z13 := OR3.out.frozen 13
  have hpr : p ≠ r := by omega
  repeat ((fail_if_success (with_reducible refine at_load (t := 25) rfl ?_)); go_step)
  refine wpList_load_ob rfl _ _ rfl r [.int .i64 f.kind, .int .i64 f.part, .int .i64 f.node, .int .i64 0, .int .i64 0, .int .i64 f.link, .bool false, .int .i64 0, .int .i64 0, .slice none 0 0, .int .i64 f.frm, .int .i64 f.to, .int .i64 f.seq, .slice a' n' c'] (show Ob _ r _ _ from (((((OR3.out.set 5 _).set 10 _).set 11 _).set 12 _).set 13 _)) rfl Tryd.underlying25 rfl frame_info ?_
  repeat ((fail_if_success (with_reducible refine at_store (t := 25) rfl ?_)); go_step)
  refine wpList_store_ob rfl _ _ _ rfl q zeros [.int .i64 f.kind, .int .i64 f.part, .int .i64 f.node, .int .i64 0, .int .i64 0, .int .i64 f.link, .bool false, .int .i64 0, .int .i64 0, .slice none 0 0, .int .i64 f.frm, .int .i64 f.to, .int .i64 f.seq, .slice a' n' c'] (((((OQ3.out.other (by omega)).other (by omega)).other (by omega)).other (by omega)).other (by omega)) rfl rfl rfl frame_info (by intro u hu; simp only [List.mem_cons, List.not_mem_nil, or_false] at hu; rcases hu with rfl | rfl | rfl | rfl | rfl | rfl | rfl | rfl | rfl | rfl | rfl | rfl | rfl | rfl <;> rfl) ?_
  intro W4 hb4 hs4 o4
  have O4 := hid o4
  have hB4 : Below w.heap.size w W4 := (((((B3.out.setCell (p := ⟨r, 5, none⟩) (by show _ ≤ r; omega) (.int .i64 f.link)).setCell (p := ⟨r, 10, none⟩) (by show _ ≤ r; omega) (.int .i64 f.frm)).setCell (p := ⟨r, 11, none⟩) (by show _ ≤ r; omega) (.int .i64 f.to)).setCell (p := ⟨r, 12, none⟩) (by show _ ≤ r; omega) (.int .i64 f.seq)).setCell (p := ⟨r, 13, none⟩) (by show _ ≤ r; omega) (.slice a' n' c')).trans (hb4.below (by omega) (by have := (((((B3.out.setCell (p := ⟨r, 5, none⟩) (by show _ ≤ r; omega) (.int .i64 f.link)).setCell (p := ⟨r, 10, none⟩) (by show _ ≤ r; omega) (.int .i64 f.frm)).setCell (p := ⟨r, 11, none⟩) (by show _ ≤ r; omega) (.int .i64 f.to)).setCell (p := ⟨r, 12, none⟩) (by show _ ≤ r; omega) (.int .i64 f.seq)).setCell (p := ⟨r, 13, none⟩) (by show _ ≤ r; omega) (.slice a' n' c')).size; omega))
  have HB4 := hid hB4
  clear hb4 hs4 o4 hB4
  go_wp2
  (try simp only [Exit.inBlock, Exit.then])
  refine bodyPost_ret (results_cell_ob Tryd.results26 _ _ q _ rfl O4.out Tryd.underlying25 rfl frame_info) rfl ?_
  refine ⟨_, rfl, rfl, (by intro u hu; simp only [List.mem_cons, List.not_mem_nil, or_false] at hu; rcases hu with rfl | rfl | rfl | rfl | rfl | rfl | rfl | rfl | rfl | rfl | rfl | rfl | rfl | rfl <;> rfl), ?_, HB4.out⟩
  have hk := HK.out
  have hs : spare f = { bare f.kind f.part f.node with link := f.link, frm := f.frm, to := f.to, seq := f.seq, body := f.body } := by unfold spare bare; simp [hk]
  rw [hs]
  obtain ⟨w1, w2, w3, w4, w5, w6, w7, w8, w9, w10, w11⟩ := HW.out
  exact ⟨none, 0, 0, a', n', c', rfl, RowI.nil, HB.out.below (HB4.out.mono hB), by unfold Wf Is64 at *; simp only [bare]; omega⟩
theorem spareR_0 (f : Frame) (v : Value) (B : Nat) (w : World) (hf : FrV w B v f) (hB : B ≤ w.heap.size) (h1 : f.kind ≠ 1) (h2 : f.kind ≠ 2) (h3 : f.kind ≠ 3) (h4 : f.kind ≠ 4) (h5 : f.kind ≠ 5) :
    Calls Tryd.prog 26 #[v] w fun e w' => RetSpare w B f e w' := by
  obtain ⟨a, n, c, a', n', c', ev, ra, rb, hw⟩ := hf
  have HV := hid ev
  have HA := hid ra
  have HB := hid rb
  have HW := hid hw
  clear ev ra rb hw
  have e1 : (f.kind == 1) = false := by simpa using h1
  have e2 : (f.kind == 2) = false := by simpa using h2
  have e3 : (f.kind == 3) = false := by simpa using h3
  have e4 : (f.kind == 4) = false := by simpa using h4
  have e5 : (f.kind == 5) = false := by simpa using h5
  have H1 := hid h1
  have H2 := hid h2
  have H3 := hid h3
  have H4 := hid h4
  have H5 := hid h5
  clear h1 h2 h3 h4 h5
  go_enter Tryd.func26, Tryd.ntmps26
  repeat ((fail_if_success (with_reducible refine at_box rfl ?_)); go_step)
  refine wpList_box_any rfl _ _ rfl _ HV.out ?_
  intro p W0 n0
  refine wpList_alloc_any rfl _ rfl zeros frame_zero ?_
  intro q W1 n1
  have hp0 : w.heap.size ≤ p := Nat.le_of_eq n0.is_.symm
  have hpq : p < q := by have := n1.is_; have := n0.ob.lt; omega
  have hq1 := n1.ob.lt
  have OP1 := hid (n0.ob.below n1.below n0.ob.lt)
  have OQ1 := hid n1.ob
  have B1 := hid (n0.below.trans (n1.below.mono n0.below.size))
  clear n0 n1
  have k0 := OP1.out.cell (i := 0) (v := .int .i64 f.kind) rfl
  have k1 := OP1.out.cell (i := 1) (v := .int .i64 f.part) rfl
  have k2 := OP1.out.cell (i := 2) (v := .int .i64 f.node) rfl
  repeat ((fail_if_success (with_reducible refine at_alloc rfl ?_)); go_step)
  refine wpList_alloc_any rfl _ rfl zeros frame_zero ?_
  intro r W2 n2
  have hqr : q < r := by have := n2.is_; omega
  have OP2 := hid (OP1.out.below n2.below (by omega))
  have OQ2 := hid (OQ1.out.below n2.below (by omega))
  have OR2 := hid n2.ob
  have B2 := hid (B1.out.trans (n2.below.mono B1.out.size))
  clear n2 OP1 OQ1 B1 k0 k1 k2
  repeat ((fail_if_success (with_reducible refine at_store (t := 25) rfl ?_)); go_step)
  refine wpList_store_ob rfl _ _ _ rfl r zeros [.int .i64 f.kind, .int .i64 f.part, .int .i64 f.node, .int .i64 0, .int .i64 0, .int .i64 0, .bool false, .int .i64 0, .int .i64 0, .slice none 0 0, .int .i64 0, .int .i64 0, .int .i64 0, .slice none 0 0] OR2.out rfl rfl rfl frame_info (by intro u hu; simp only [List.mem_cons, List.not_mem_nil, or_false] at hu; rcases hu with rfl | rfl | rfl | rfl | rfl | rfl | rfl | rfl | rfl | rfl | rfl | rfl | rfl | rfl <;> rfl) ?_
  intro W3 hb3 hs3 o3
  have OP3 := hid (OP2.out.beside hb3 (by omega))
  have OQ3 := hid (OQ2.out.beside hb3 (by omega))
  have OR3 := hid o3
  have B3 := hid (B2.out.trans (hb3.below (by omega) (by have := B2.out.size; omega)))
  clear hb3 hs3 o3 OP2 OQ2 OR2 B2
  have k0 := OP3.out.cell (i := 0) (v := .int .i64 f.kind) rfl
  repeat ((fail_if_success (with_reducible refine at_load (t := 25) rfl ?_)); go_step)
  refine wpList_load_ob rfl _ _ rfl r [.int .i64 f.kind, .int .i64 f.part, .int .i64 f.node, .int .i64 0, .int .i64 0, .int .i64 0, .bool false, .int .i64 0, .int .i64 0, .slice none 0 0, .int .i64 0, .int .i64 0, .int .i64 0, .slice none 0 0] (show Ob _ r _ _ from OR3.out) rfl Tryd.underlying25 rfl frame_info ?_
  repeat ((fail_if_success (with_reducible refine at_store (t := 25) rfl ?_)); go_step)
  refine wpList_store_ob rfl _ _ _ rfl q zeros [.int .i64 f.kind, .int .i64 f.part, .int .i64 f.node, .int .i64 0, .int .i64 0, .int .i64 0, .bool false, .int .i64 0, .int .i64 0, .slice none 0 0, .int .i64 0, .int .i64 0, .int .i64 0, .slice none 0 0] OQ3.out rfl rfl rfl frame_info (by intro u hu; simp only [List.mem_cons, List.not_mem_nil, or_false] at hu; rcases hu with rfl | rfl | rfl | rfl | rfl | rfl | rfl | rfl | rfl | rfl | rfl | rfl | rfl | rfl <;> rfl) ?_
  intro W4 hb4 hs4 o4
  have O4 := hid o4
  have hB4 : Below w.heap.size w W4 := B3.out.trans (hb4.below (by omega) (by have := B3.out.size; omega))
  have HB4 := hid hB4
  clear hb4 hs4 o4 hB4
  go_wp2
  (try simp only [Exit.inBlock, Exit.then])
  refine bodyPost_ret (results_cell_ob Tryd.results26 _ _ q _ rfl O4.out Tryd.underlying25 rfl frame_info) rfl ?_
  refine ⟨_, rfl, rfl, (by intro u hu; simp only [List.mem_cons, List.not_mem_nil, or_false] at hu; rcases hu with rfl | rfl | rfl | rfl | rfl | rfl | rfl | rfl | rfl | rfl | rfl | rfl | rfl | rfl <;> rfl), ?_, HB4.out⟩
  have hs : spare f = bare f.kind f.part f.node := by unfold spare bare; simp [H1.out, H2.out, H3.out, H4.out, H5.out]
  rw [hs]
  obtain ⟨w1, w2, w3, w4, w5, w6, w7, w8, w9, w10, w11⟩ := HW.out
  exact ⟨none, 0, 0, none, 0, 0, rfl, RowI.nil, Row8.nil, by unfold Wf Is64 at *; simp only [bare]; omega⟩
theorem spareR_calls (f : Frame) (v : Value) (B : Nat) (w : World) (hf : FrV w B v f) (hB : B ≤ w.heap.size) :
    Calls Tryd.prog 26 #[v] w fun e w' => RetSpare w B f e w' := by
  by_cases h1 : f.kind = 1
  · exact spareR_1 f v B w hf hB h1
  by_cases h2 : f.kind = 2
  · exact spareR_2 f v B w hf hB h2
  by_cases h3 : f.kind = 3
  · exact spareR_3 f v B w hf hB h3
  by_cases h4 : f.kind = 4
  · exact spareR_4 f v B w hf hB h4
  by_cases h5 : f.kind = 5
  · exact spareR_5 f v B w hf hB h5
  exact spareR_0 f v B w hf hB h1 h2 h3 h4 h5
end Go.Proofs.YtliejllegabdnaaDoor.Fr
