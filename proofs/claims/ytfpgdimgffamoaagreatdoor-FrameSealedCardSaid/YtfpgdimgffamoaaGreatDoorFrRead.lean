/- What frame.read returns: the frame whose fields are exactly these bytes, or the first error, and where. -/
import Derived.Test.YtfpgdimgffamoaaGreatDoorFrFrame
import Derived.Test.YtfpgdimgffamoaaGreatDoorSmE
namespace Go.Proofs.YtfpgdimgffamoaaGreatDoor.Fr
open Go.ChangeShapes Go.WideShapes Go.ChangeAt Go.RowKit Go.Proofs.YtfpgdimgffamoaaGreatDoor.Sm Go.Proofs.YtfpgdimgffamoaaGreatDoor.Wr
set_option maxHeartbeats 4000000
set_option maxRecDepth 100000

/-! ### the mathematics -/
theorem frameX_eq {x : List UInt8} (hx : 1 ≤ x.length) : frameX x 0 = if 1 ≤ num (x.take 1) ∧ num (x.take 1) ≤ 5 then frameP x 0 else .error (5, 0) := by
  by_cases h : 1 ≤ num (x.take 1) ∧ num (x.take 1) ≤ 5
  · rw [if_pos h]
    have h1 : kindP x 0 = .ok ((num (x.take 1) : Int), 1) := by unfold kindP; rw [if_pos h]
    have h2 : numP 1 1 5 x 0 = .ok ((num (x.take 1) : Int), 1) := by
      unfold numP
      rw [List.drop_zero, if_neg (by omega), if_pos (by omega)]
    unfold frameX frameP
    rw [bind_ok h1, bind_ok h2]
  · rw [if_neg h]
    have h1 : kindP x 0 = .error (5, 0) := by unfold kindP; rw [if_neg h]
    unfold frameX
    rw [bind_error h1]
theorem readX_run {x : List UInt8} (hx : 1 ≤ x.length) : readX x = (match frameX x 0 with | .error e => .error e | .ok r => if r.2 < x.length then .error (3, r.2) else .ok r.1) := by
  unfold readX
  rw [frameX_eq hx]
  split
  · rfl
  · rfl
def resOf (o : Option (Int × Nat)) (f : Frame) : Except (Int × Nat) Frame := match o with
  | some z => .error z
  | none => .ok f
/-- what holds of a world holds of all that agree with it on what was made since w. -/
def Lasting (w w' : World) (R : World → Prop) : Prop := ∀ W' : World, (∀ k, w.heap.size ≤ k → k < w'.heap.size → W'.heap[k]? = w'.heap[k]?) → R W'
theorem Lasting.now {w w' : World} {R : World → Prop} (h : Lasting w w' R) : R w' := h w' fun _ _ _ => rfl
/-- a frame, or an error. -/
def RetRead (w : World) (S : Sn) (res : Except (Int × Nat) Frame) (e : Ending) (w' : World) : Prop :=
  Below w.heap.size w w' ∧ match res with
  | .ok f => ∃ v, e = .returned (.tuple #[v, .nilIface]) ∧ Lasting w w' fun W => FrV W W.heap.size v f
  | .error z => ∃ ev, e = .returned (.tuple #[.agg zeros.toArray, ev]) ∧ Lasting w w' fun W => FaultV W W.heap.size S ev z.1 z.2
theorem fault_of {V W : World} {h q : Nat} {S : Sn} {ev : Value} {z : Int × Nat} (he : ErrF V h S ev (some z)) (hb : Beside q V W) (hq : q < h) {w : World} (hw : w.heap.size ≤ h) : Lasting w W fun U => FaultV U U.heap.size S ev z.1 z.2 := by
  obtain ⟨fb, h1, h2, h3, h4⟩ := he
  intro U hU
  have h6 := h3.beside hb (by omega)
  have h5 : Ob U fb _ _ := (hU fb (by omega) h6.lt).trans h6
  exact ⟨fb, h2, h5.lt, h5.cell (i := 0) rfl, h5.cell (i := 1) rfl, h4⟩
theorem cell_beside {q : Nat} {w W : World} (h : Beside q w W) (p : Addr) (hp : p.block ≠ q) (hl : p.block < w.heap.size) : W.cell? p = w.cell? p := by
  unfold World.cell?
  rw [h.block _ hl hp]
theorem beside_dr {q : Nat} {w W : World} (h : Beside q w.drew W) : Beside q w W := ⟨h.os, h.tape, h.output, h.size, h.block⟩
theorem read_calls (a : Option Addr) (n c : Nat) (S : Sn) (x : List UInt8) (w : World) (hr : Row8 w w.heap.size a n c x) (hS : Sents w w.heap.size S) (hn : n ≤ 1000000) (hx : 1 ≤ n) :
    Calls Tryz.prog 24 #[.slice a n c] w fun e w' => RetRead w S (readX x) e w' := by
  have HR := hid hr
  have HS := hid hS
  have HN := hid hr.len
  have hxl : 1 ≤ x.length := by rw [hr.len]; exact hx
  have HXL := hid hxl
  obtain ⟨res, hrx⟩ : ∃ res, readX x = res := ⟨_, rfl⟩
  rw [hrx]
  have HRX := hid hrx
  clear hr hS hxl hrx
  go_enter Tryz.func24, Tryz.ntmps24
  iterate 3 go_step
  refine wpList_alloc_any rfl _ rfl zeros frame_zero ?_
  intro q W0 n0
  have hqw : w.heap.size ≤ q := Nat.le_of_eq n0.is_.symm
  have HO0 := hid n0.ob
  have hq0 : q < W0.heap.size := n0.ob.lt
  have HR0 := hid (HR.out.later n0.below)
  have HS0 := hid (HS.out.later n0.below)
  have HB0 := hid n0.below
  clear n0 HR HS
  go_wp2_with (go_at_call 38; refine stop ?_)
  unfold Stop
  refine (new_calls a n c x W0 HR0.out hn).mono ?_
  rintro e w1 ⟨g, rfl, hg, hrd, hb1⟩
  have hgl := hrd.lt
  have HRD := hid hrd
  have HO1 := hid (HO0.out.below hb1 hq0)
  have HS1 := hid ((HS0.out.below hb1).more hg)
  have HB1 := hid (HB0.out.trans (hb1.mono (HB0.out.size)))
  clear hrd hb1 HO0 HS0 HB0 HR0
  go_wp2_with (go_at_call 39; refine stop ?_)
  unfold Stop
  have hA : Below w1.heap.size w1 (w1.alloc (.cells #[.pointer (some ⟨g, 0, none⟩), .nilIface] 77)) := (Below.refl _ _).alloc (Nat.le_refl _) _
  have hFR : FR (w1.alloc (.cells #[.pointer (some ⟨g, 0, none⟩), .nilIface] 77)) g w1.heap.size S x (.ok 0) :=
    (⟨hgl, HS1.out.below (hA.mono (Nat.le_of_lt hgl)), HRD.out.below hA hgl, _, heap_alloc_new w1 _, rfl⟩ : FRm _ g w1.heap.size S x 0 false none)
  obtain ⟨h, hh⟩ : ∃ h, w1.heap.size = h := ⟨_, rfl⟩
  have hszA : (w1.alloc (.cells #[.pointer (some ⟨g, 0, none⟩), .nilIface] 77)).heap.size = h + 1 := by simp [hh]
  have hqh : q < h := by omega
  have hgh : g < h := by omega
  rw [hh] at hA hFR ⊢
  have HFR := hid hFR
  have HO2 := hid (HO1.out.below hA hqh)
  have HB2 := hid (HB1.out.trans (hA.mono (by have := HB1.out.size; omega)))
  have hwh : w.heap.size ≤ h := by have := HB1.out.size; omega
  clear hA hFR HO1 HS1 HB1 HRD hh hgl
  generalize w1.alloc (.cells #[.pointer (some ⟨g, 0, none⟩), .nilIface] 77) = w2 at *
  refine (frame_calls g h S x HXL.out w2 HFR.out).mono ?_
  rintro e w3 ⟨cs, rfl, hcl, hc1, hcv, hst, hb3⟩
  have hbel3 : Below w.heap.size w2 w3 := hb3.below (by omega) hwh (by omega)
  have HB3 := hid (HB2.out.trans hbel3)
  have HO3 := hid (Ob.beside2 HO2.out hb3 (by omega) (by omega))
  have HST := hid hst
  have HCV := hid hcv
  have HC1 := hid hc1
  have HCL := hid hcl
  have hs3 := hb3.size
  clear hcl hc1 hcv hst hb3 hbel3 HB2 HO2 HFR
  dsimp only
  iterate 1 go_step
  refine wpList_alloc_any rfl _ rfl zeros frame_zero ?_
  intro p V n1
  refine wpList_store_ob rfl _ _ _ rfl p zeros cs n1.ob rfl rfl HCL.out frame_info HC1.out ?_
  intro V1 hbV hsV obV
  have hpw : w3.heap.size = p := n1.is_.symm
  have hbb : Below p w3 V1 := by
    have h1 := n1.below
    rw [hpw] at h1
    exact h1.trans (hbV.below (Nat.le_refl _) (by rw [n1.size]; omega))
  have hhp : h < p := by omega
  have hqp : q < p := by omega
  have HOP := hid obV
  have HOQ := hid (HO3.out.below hbb hqp)
  have HSTV := hid (HST.out.below hbb (by omega))
  have HBV := hid (HB3.out.trans (hbb.mono (by omega)))
  have HCVV : Hid (∀ f pos, runP frameX (bare 0 0 0) x (.ok 0) = (f, .ok pos) → ∀ W', (∀ k, h < k → k < p → W'.heap[k]? = V1.heap[k]?) → FrV W' W'.heap.size (.agg cs.toArray) f) := fun f pos hf W' hW' =>
    HCV.out f pos hf W' fun k h1 h2 => (hW' k h1 (by omega)).trans (hbb.block k (by omega))
  clear n1 hbV hsV obV hbb HO3 HST HB3 HCV hpw hs3 hszA
  have hcase : ∃ p0 b o f0, FRm V1 g h S x p0 b o ∧ readX x = resOf (if p0 < n then first o (3, p0) else o) f0 ∧ (o = none → ∀ W', (∀ k, h < k → k < p → W'.heap[k]? = V1.heap[k]?) → FrV W' W'.heap.size (.agg cs.toArray) f0) := by
    have hrun := readX_run HXL.out
    have hst := HSTV.out
    cases hf : frameX x 0 with
    | error z =>
      rw [hf] at hrun
      rw [runP_error hf] at hst
      obtain ⟨p0, b, r0⟩ := hst
      exact ⟨p0, b, some z, bare 0 0 0, r0, by rw [hrun]; by_cases hlt : p0 < n <;> simp [hlt, first, resOf], fun h0 => by cases h0⟩
    | ok r =>
      rw [hf] at hrun
      have hE := runP_ok (d := bare 0 0 0) hf
      rw [hE] at hst
      refine ⟨r.2, false, none, r.1, hst, ?_, fun _ => HCVV.out _ _ hE⟩
      rw [hrun, HN.out]
      show (if r.2 < n then _ else _) = _
      by_cases hlt : r.2 < n
      · rw [if_pos hlt, if_pos hlt]; rfl
      · rw [if_neg hlt, if_neg hlt]; rfl
  obtain ⟨p0, b, o, f0, hFm, hres, hfv⟩ := hcase
  have HRES := hid (HRX.out.symm.trans hres)
  have HFm := hid hFm
  have HFV := hid hfv
  obtain ⟨ev, ho, hev⟩ := hFm.ob
  have c0 := ho.cell (i := 0) rfl
  have HC1E := hid (ho.cell (i := 1) (v := ev) rfl)
  have gL := hFm.sents.cLong
  clear hFm hres hfv ho HSTV HCVV HN HXL
  have hbd : Below V1.heap.size V1 V1.drew := ⟨rfl, rfl, rfl, Nat.le_refl _, fun _ _ => rfl⟩
  have HFd := hid (HFm.out.below hbd (Nat.le_refl _))
  clear hbd
  go_wp2_with (go_at_call 40; refine stop ?_)
  unfold Stop
  refine (at_calls g x p0 b V1 HFm.out.rd).mono ?_
  rintro e w' ⟨rfl, rfl⟩
  by_cases hlt : p0 < n
  · rw [if_pos hlt] at HRES
    go_wp2
    have hS : (fun u : World => u.cell? ⟨h, 0, none⟩ = some (.pointer (some ⟨g, 0, none⟩)) ∧ u.cell? ⟨3, 0, none⟩ = some (.iface 133 (.pointer (some S.long)))) V1.drew := ⟨c0, gL⟩
    clear c0 gL
    refine Sm.Held.later_begin (S := (fun u => u.cell? ⟨h, 0, none⟩ = some (.pointer (some ⟨g, 0, none⟩)) ∧ u.cell? ⟨3, 0, none⟩ = some (.iface 133 (.pointer (some S.long))))) (by kernel_rfl) ?_
    refine Sm.Held.later_take (i := 0) (oi := ?_) (v := ?_) hS ?_ (by kernel_rfl) (by kernel_rfl) (by kernel_rfl) ?_ ?_ ?_ ?_
    rotate_left 2
    · simp only [List.getElem?_toArray, List.getElem?_cons_zero]; rfl
    · exact fun _ _ _ h => h
    · rfl
    · (rintro u ⟨hu1, hu2⟩; go_simp <;> with_reducible rfl)
    simp only [Act.put, List.setIfInBounds_toArray, List.set_cons_zero, List.set_cons_succ]
    refine Sm.Held.later_take (i := 1) (oi := ?_) (v := ?_) hS ?_ (by kernel_rfl) (by kernel_rfl) (by kernel_rfl) ?_ ?_ ?_ ?_
    rotate_left 2
    · simp only [List.getElem?_toArray, List.getElem?_cons_succ, List.getElem?_cons_zero]; rfl
    · exact fun _ _ _ h => h
    · rfl
    · (rintro u ⟨hu1, hu2⟩; go_simp <;> with_reducible rfl)
    simp only [Act.put, List.setIfInBounds_toArray, List.set_cons_zero, List.set_cons_succ]
    refine Sm.Held.later_take (i := 2) (oi := ?_) (v := ?_) hS ?_ (by kernel_rfl) (by kernel_rfl) (by kernel_rfl) ?_ ?_ ?_ ?_
    rotate_left 2
    · simp only [List.getElem?_toArray, List.getElem?_cons_succ, List.getElem?_cons_zero]; rfl
    · exact fun _ _ _ h => h
    · rfl
    · (rintro u ⟨hu1, hu2⟩; go_simp <;> with_reducible rfl)
    simp only [Act.put, List.setIfInBounds_toArray, List.set_cons_zero, List.set_cons_succ]
    refine Sm.Held.later_take (i := 3) (oi := ?_) (v := ?_) hS ?_ (by kernel_rfl) (by kernel_rfl) (by kernel_rfl) ?_ ?_ ?_ ?_
    rotate_left 2
    · simp only [List.getElem?_toArray, List.getElem?_cons_succ, List.getElem?_cons_zero]; rfl
    · exact fun _ _ _ h => h
    · rfl
    · (rintro u ⟨hu1, hu2⟩; go_simp <;> with_reducible rfl)
    simp only [Act.put, List.setIfInBounds_toArray, List.set_cons_zero, List.set_cons_succ]
    refine Sm.Held.later_take (i := 4) (oi := ?_) (v := ?_) hS ?_ (by kernel_rfl) (by kernel_rfl) (by kernel_rfl) ?_ ?_ ?_ ?_
    rotate_left 2
    · simp only [List.getElem?_toArray, List.getElem?_cons_succ, List.getElem?_cons_zero]; rfl
    · exact fun _ _ _ h => h
    · rfl
    · (rintro u ⟨hu1, hu2⟩; go_simp <;> with_reducible rfl)
    simp only [Act.put, List.setIfInBounds_toArray, List.set_cons_zero, List.set_cons_succ]
    refine Sm.Held.later_take (i := 5) (oi := ?_) (v := ?_) hS ?_ (by kernel_rfl) (by kernel_rfl) (by kernel_rfl) ?_ ?_ ?_ ?_
    rotate_left 2
    · simp only [List.getElem?_toArray, List.getElem?_cons_succ, List.getElem?_cons_zero]; rfl
    · exact fun _ _ _ h => h
    · rfl
    · (rintro u ⟨hu1, hu2⟩; go_simp <;> with_reducible rfl)
    simp only [Act.put, List.setIfInBounds_toArray, List.set_cons_zero, List.set_cons_succ]
    refine Sm.Held.later_call (i := 6) (o := ?_) ?_ (by kernel_rfl) (fun K hK => ?_)
    rotate_left 1
    · simp only [List.getElem?_toArray, List.getElem?_cons_succ, List.getElem?_cons_zero]; rfl
    go_simp
    refine (at_calls g x p0 b _ HFd.out.rd).mono ?_; rintro e w' ⟨rfl, rfl⟩
    refine hK.out _ _ hS ?_
    clear hK K
    try simp only [Act.put, List.setIfInBounds_toArray, List.set_cons_zero, List.set_cons_succ]
    refine Sm.Held.later_call (i := 7) (o := ?_) ?_ (by kernel_rfl) (fun K hK => ?_)
    rotate_left 1
    · simp only [List.getElem?_toArray, List.getElem?_cons_succ, List.getElem?_cons_zero]; rfl
    go_simp
    refine (fail_calls g h S x p0 b o 3 p0 _ HFd.out (by omega)).mono ?_; rintro e w4 ⟨rfl, r4, hb4⟩; obtain ⟨ev4, o4, he4⟩ := r4.ob; have hS := And.intro (o4.cell (i := 0) rfl) r4.sents.cLong; have R4 := hid r4; have B4 := hid hb4; have HE4 := hid he4; have c1 := o4.cell (i := 1) rfl; clear r4 hb4 o4 he4
    refine hK.out _ _ hS ?_
    clear hK K
    try simp only [Act.put, List.setIfInBounds_toArray, List.set_cons_zero, List.set_cons_succ]
    refine Sm.Held.later_done (by kernel_rfl) ?_ _
    have hbel4 : Below w.heap.size V1 w4 := by
      have h1 := B4.out
      exact ⟨h1.os, h1.tape, h1.output, h1.size, fun k hk => h1.block k (by have : V1.drew.heap.size = V1.heap.size := rfl; have := HOQ.out.lt; omega) (by omega) (by omega)⟩
    have HB4 := hid (HBV.out.trans hbel4)
    have HOQ4 := hid (Ob.beside2 (show Ob V1.drew q _ zeros from HOQ.out) B4.out (by omega) (by omega))
    have hh4 : h < w4.heap.size := R4.out.size
    obtain ⟨z, hz⟩ : ∃ z, first o (3, p0) = some z := by cases o <;> exact ⟨_, rfl⟩
    rw [hz] at HRES HE4
    obtain ⟨fb, _, rfl, _⟩ := id HE4.out
    clear hbel4 hz hS HOQ HBV R4 B4 HFd HFm HFV HOP
    go_wp2
    have hS : (fun u : World => u.cell? ⟨h, 1, none⟩ = some (.iface 56 (.pointer (some ⟨fb, 0, none⟩)))) w4.drew := c1
    clear c1
    refine Sm.Held.later_begin (S := (fun u => u.cell? ⟨h, 1, none⟩ = some (.iface 56 (.pointer (some ⟨fb, 0, none⟩))))) (by kernel_rfl) ?_
    refine Sm.Held.later_take (i := 0) (oi := ?_) (v := ?_) hS ?_ (by kernel_rfl) (by kernel_rfl) (by kernel_rfl) ?_ ?_ ?_ ?_
    rotate_left 2
    · simp only [List.getElem?_toArray, List.getElem?_cons_zero]; rfl
    · exact fun _ _ _ h => h
    · rfl
    · (intro u hu; go_simp <;> with_reducible rfl)
    simp only [Act.put, List.setIfInBounds_toArray, List.set_cons_zero, List.set_cons_succ]
    refine Sm.Held.later_take (i := 1) (oi := ?_) (v := ?_) hS ?_ (by kernel_rfl) (by kernel_rfl) (by kernel_rfl) ?_ ?_ ?_ ?_
    rotate_left 2
    · simp only [List.getElem?_toArray, List.getElem?_cons_succ, List.getElem?_cons_zero]; rfl
    · exact fun _ _ _ h => h
    · rfl
    · (intro u hu; go_simp <;> with_reducible rfl)
    simp only [Act.put, List.setIfInBounds_toArray, List.set_cons_zero, List.set_cons_succ]
    refine Sm.Held.later_take (i := 2) (oi := ?_) (v := ?_) hS ?_ (by kernel_rfl) (by kernel_rfl) (by kernel_rfl) ?_ ?_ ?_ ?_
    rotate_left 2
    · simp only [List.getElem?_toArray, List.getElem?_cons_succ, List.getElem?_cons_zero]; rfl
    · exact fun _ _ _ h => h
    · rfl
    · (intro u hu; go_simp <;> with_reducible rfl)
    simp only [Act.put, List.setIfInBounds_toArray, List.set_cons_zero, List.set_cons_succ]
    refine Sm.Held.later_take (i := 3) (oi := ?_) (v := ?_) hS ?_ (by kernel_rfl) (by kernel_rfl) (by kernel_rfl) ?_ ?_ ?_ ?_
    rotate_left 2
    · simp only [List.getElem?_toArray, List.getElem?_cons_succ, List.getElem?_cons_zero]; rfl
    · exact fun _ _ _ h => h
    · rfl
    · (intro u hu; go_simp <;> with_reducible rfl)
    simp only [Act.put, List.setIfInBounds_toArray, List.set_cons_zero, List.set_cons_succ]
    refine Sm.Held.later_take (i := 4) (oi := ?_) (v := ?_) hS ?_ (by kernel_rfl) (by kernel_rfl) (by kernel_rfl) ?_ ?_ ?_ ?_
    rotate_left 2
    · simp only [List.getElem?_toArray, List.getElem?_cons_succ, List.getElem?_cons_zero]; rfl
    · exact fun _ _ _ h => h
    · rfl
    · (intro u hu; go_simp <;> with_reducible rfl)
    simp only [Act.put, List.setIfInBounds_toArray, List.set_cons_zero, List.set_cons_succ]
    refine Sm.Held.later_store (i := 5) (o := ?_) ?_ (by kernel_rfl) ?_ _ q zeros zeros (show Ob w4.drew q _ zeros from HOQ4.out) ?_ rfl frame_info zeros_one ?_
    rotate_left 1
    · simp only [List.getElem?_toArray, List.getElem?_cons_succ, List.getElem?_cons_zero]; rfl
    · rfl
    · exact ⟨_, _, rfl, rfl, rfl⟩
    intro Z hbZ hsZ obZ; have hS2 := (cell_beside hbZ ⟨h, 1, none⟩ (by show h ≠ q; omega) hh4).trans hS; clear hS; have hS := hS2; clear hS2; refine ⟨hS, ?_⟩; have OZ := hid obZ; have BZ := hid hbZ; clear obZ hbZ
    try simp only [Act.put]
    refine Sm.Held.later_take (i := 6) (oi := ?_) (v := ?_) hS ?_ (by kernel_rfl) (by kernel_rfl) (by kernel_rfl) ?_ ?_ ?_ ?_
    rotate_left 2
    · simp only [List.getElem?_toArray, List.getElem?_cons_succ, List.getElem?_cons_zero]; rfl
    · exact fun _ _ _ h => h
    · rfl
    · (intro u hu; go_simp <;> with_reducible rfl)
    simp only [Act.put, List.setIfInBounds_toArray, List.set_cons_zero, List.set_cons_succ]
    refine Sm.Held.later_done (by kernel_rfl) ?_ _
    go_wp2
    (try simp only [Exit.inBlock, Exit.then])
    refine bodyPost_ret (results_cell_two Tryz.results24 _ _ q _ rfl OZ.out Tryz.underlying26 rfl frame_info) rfl ?_
    rw [HRES.out]
    exact ⟨HB4.out.trans ((beside_dr BZ.out).below hqw (by have := HB4.out.size; omega)), _, rfl, fault_of HE4.out (beside_dr BZ.out) (by omega) hwh⟩
  · rw [if_neg hlt] at HRES
    have hh4 : h < V1.heap.size := HFm.out.size
    have HB4 := HBV
    have HOQ4 := HOQ
    cases o with
    | some z =>
      obtain ⟨fb, _, rfl, _⟩ := id hev
      have HE4 := hid hev
      have c1 := HC1E.out
      clear hev HOQ HBV HFd HFm HFV HOP HC1E
      go_wp2
      have hS : (fun u : World => u.cell? ⟨h, 1, none⟩ = some (.iface 56 (.pointer (some ⟨fb, 0, none⟩)))) V1.drew := c1
      clear c1
      refine Sm.Held.later_begin (S := (fun u => u.cell? ⟨h, 1, none⟩ = some (.iface 56 (.pointer (some ⟨fb, 0, none⟩))))) (by kernel_rfl) ?_
      refine Sm.Held.later_take (i := 0) (oi := ?_) (v := ?_) hS ?_ (by kernel_rfl) (by kernel_rfl) (by kernel_rfl) ?_ ?_ ?_ ?_
      rotate_left 2
      · simp only [List.getElem?_toArray, List.getElem?_cons_zero]; rfl
      · exact fun _ _ _ h => h
      · rfl
      · (intro u hu; go_simp <;> with_reducible rfl)
      simp only [Act.put, List.setIfInBounds_toArray, List.set_cons_zero, List.set_cons_succ]
      refine Sm.Held.later_take (i := 1) (oi := ?_) (v := ?_) hS ?_ (by kernel_rfl) (by kernel_rfl) (by kernel_rfl) ?_ ?_ ?_ ?_
      rotate_left 2
      · simp only [List.getElem?_toArray, List.getElem?_cons_succ, List.getElem?_cons_zero]; rfl
      · exact fun _ _ _ h => h
      · rfl
      · (intro u hu; go_simp <;> with_reducible rfl)
      simp only [Act.put, List.setIfInBounds_toArray, List.set_cons_zero, List.set_cons_succ]
      refine Sm.Held.later_take (i := 2) (oi := ?_) (v := ?_) hS ?_ (by kernel_rfl) (by kernel_rfl) (by kernel_rfl) ?_ ?_ ?_ ?_
      rotate_left 2
      · simp only [List.getElem?_toArray, List.getElem?_cons_succ, List.getElem?_cons_zero]; rfl
      · exact fun _ _ _ h => h
      · rfl
      · (intro u hu; go_simp <;> with_reducible rfl)
      simp only [Act.put, List.setIfInBounds_toArray, List.set_cons_zero, List.set_cons_succ]
      refine Sm.Held.later_take (i := 3) (oi := ?_) (v := ?_) hS ?_ (by kernel_rfl) (by kernel_rfl) (by kernel_rfl) ?_ ?_ ?_ ?_
      rotate_left 2
      · simp only [List.getElem?_toArray, List.getElem?_cons_succ, List.getElem?_cons_zero]; rfl
      · exact fun _ _ _ h => h
      · rfl
      · (intro u hu; go_simp <;> with_reducible rfl)
      simp only [Act.put, List.setIfInBounds_toArray, List.set_cons_zero, List.set_cons_succ]
      refine Sm.Held.later_take (i := 4) (oi := ?_) (v := ?_) hS ?_ (by kernel_rfl) (by kernel_rfl) (by kernel_rfl) ?_ ?_ ?_ ?_
      rotate_left 2
      · simp only [List.getElem?_toArray, List.getElem?_cons_succ, List.getElem?_cons_zero]; rfl
      · exact fun _ _ _ h => h
      · rfl
      · (intro u hu; go_simp <;> with_reducible rfl)
      simp only [Act.put, List.setIfInBounds_toArray, List.set_cons_zero, List.set_cons_succ]
      refine Sm.Held.later_store (i := 5) (o := ?_) ?_ (by kernel_rfl) ?_ _ q zeros zeros (show Ob V1.drew q _ zeros from HOQ4.out) ?_ rfl frame_info zeros_one ?_
      rotate_left 1
      · simp only [List.getElem?_toArray, List.getElem?_cons_succ, List.getElem?_cons_zero]; rfl
      · rfl
      · exact ⟨_, _, rfl, rfl, rfl⟩
      intro Z hbZ hsZ obZ; have hS2 := (cell_beside hbZ ⟨h, 1, none⟩ (by show h ≠ q; omega) hh4).trans hS; clear hS; have hS := hS2; clear hS2; refine ⟨hS, ?_⟩; have OZ := hid obZ; have BZ := hid hbZ; clear obZ hbZ
      try simp only [Act.put]
      refine Sm.Held.later_take (i := 6) (oi := ?_) (v := ?_) hS ?_ (by kernel_rfl) (by kernel_rfl) (by kernel_rfl) ?_ ?_ ?_ ?_
      rotate_left 2
      · simp only [List.getElem?_toArray, List.getElem?_cons_succ, List.getElem?_cons_zero]; rfl
      · exact fun _ _ _ h => h
      · rfl
      · (intro u hu; go_simp <;> with_reducible rfl)
      simp only [Act.put, List.setIfInBounds_toArray, List.set_cons_zero, List.set_cons_succ]
      refine Sm.Held.later_done (by kernel_rfl) ?_ _
      go_wp2
      (try simp only [Exit.inBlock, Exit.then])
      refine bodyPost_ret (results_cell_two Tryz.results24 _ _ q _ rfl OZ.out Tryz.underlying26 rfl frame_info) rfl ?_
      rw [HRES.out]
      exact ⟨HB4.out.trans ((beside_dr BZ.out).below hqw (by have := HB4.out.size; omega)), _, rfl, fault_of HE4.out (beside_dr BZ.out) (by omega) hwh⟩
    | none =>
      obtain rfl : ev = .nilIface := hev
      have c1 := HC1E.out
      have hpV := HOP.out.lt
      clear HOQ HBV HFd HFm
      dsimp only
      iterate 44 go_step
      refine wpList_load_ob rfl _ _ rfl p cs HOP.out rfl Tryz.underlying26 rfl (by rw [HCL.out]; exact frame_info) ?_
      refine wpList_store_ob rfl _ _ _ rfl q zeros cs HOQ4.out rfl rfl HCL.out frame_info HC1.out ?_
      intro Z hbZ hsZ obZ
      have OZ := hid obZ
      have BZ := hid hbZ
      clear obZ hbZ
      go_wp2
      (try simp only [Exit.inBlock, Exit.then])
      refine bodyPost_ret (results_cell_two Tryz.results24 _ _ q _ rfl OZ.out Tryz.underlying26 rfl (by rw [HCL.out]; exact frame_info)) rfl ?_
      rw [HRES.out]
      refine ⟨HB4.out.trans (BZ.out.below hqw (by have := HB4.out.size; omega)), _, rfl, ?_⟩
      exact fun W' hW' => HFV.out (by simp) W' fun k h1 h2 => (hW' k (by omega) (by have := BZ.out.size; omega)).trans (BZ.out.block k (by omega) (by omega))
end Go.Proofs.YtfpgdimgffamoaaGreatDoor.Fr
