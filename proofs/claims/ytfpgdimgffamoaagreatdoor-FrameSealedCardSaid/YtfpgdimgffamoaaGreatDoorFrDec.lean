/- What frame.Why and frame.Decode return. -/
import Derived.Test.YtfpgdimgffamoaaGreatDoorFrOpen
namespace Go.Proofs.YtfpgdimgffamoaaGreatDoor.Fr
open Go.ChangeShapes Go.WideShapes Go.ChangeAt Go.RowKit Go.Proofs.YtfpgdimgffamoaaGreatDoor.Sm Go.Proofs.YtfpgdimgffamoaaGreatDoor.Wr
set_option maxHeartbeats 4000000
set_option maxRecDepth 100000

def errOf (r : Except (Int × Nat) Frame) : Option (Int × Nat) := match r with
  | .ok _ => none
  | .error z => some z
def frOf (r : Except (Int × Nat) Frame) : Frame := match r with
  | .ok f => f
  | .error _ => bare 0 0 0
theorem zeros_frame (W : World) : FrV W W.heap.size (.agg zeros.toArray) (bare 0 0 0) :=
  ⟨none, 0, 0, none, 0, 0, rfl, RowI.nil, Row8.nil, by unfold Wf Is64 bare; dsimp only; omega⟩
/-- what open hands back, in one form. -/
theorem ret_form {w : World} {S : Sn} {res : Except (Int × Nat) Frame} {e : Ending} {w' : World} (h : RetRead w S res e w') :
    ∃ (cs : List Value) (ev : Value), e = .returned (.tuple #[.agg cs.toArray, ev]) ∧ cs.length = 14 ∧ (∀ v ∈ cs, v.oneCell' = true) ∧ Lasting w w' (fun W => ErrV W W.heap.size S ev (errOf res)) ∧ Lasting w w' (fun W => FrV W W.heap.size (.agg cs.toArray) (frOf res)) ∧ Below w.heap.size w w' := by
  obtain ⟨hb, hr⟩ := h
  cases res with
  | ok f =>
    obtain ⟨v, rfl, hl⟩ := hr
    obtain ⟨b1, b2, b3, b4, b5, b6, rfl, _⟩ := hl.now
    exact ⟨_, _, rfl, rfl, (by intro u hu; simp [cells] at hu; rcases hu with rfl | rfl | rfl | rfl | rfl | rfl | rfl | rfl | rfl | rfl | rfl | rfl | rfl | rfl <;> rfl), fun _ _ => rfl, hl, hb⟩
  | error z =>
    obtain ⟨ev, rfl, hl⟩ := hr
    exact ⟨_, _, rfl, rfl, zeros_one, hl, fun W _ => zeros_frame W, hb⟩
theorem why_calls (a : Option Addr) (n c : Nat) (S : Sn) (x : List UInt8) (w : World) (hr : Row8 w w.heap.size a n c x) (hS : Sents w w.heap.size S) (hn : n ≤ 1000000) :
    Calls Tryz.prog 8 #[.slice a n c] w fun e w' => e = .returned (.tuple #[.int .i64 (noOf (errOf (decX x))), .int .i64 (atOf (errOf (decX x)) : Nat)]) ∧ Below w.heap.size w w' := by
  have HR := hid hr
  have HS := hid hS
  clear hr hS
  obtain ⟨o, ho⟩ : ∃ o, errOf (decX x) = o := ⟨_, rfl⟩
  rw [ho]
  have HO := hid ho
  clear ho
  obtain ⟨n1, hn1⟩ : ∃ k, noOf o = k := ⟨_, rfl⟩
  obtain ⟨n2, hn2⟩ : ∃ k, atOf o = k := ⟨_, rfl⟩
  rw [hn1, hn2]
  have HN1 := hid hn1
  have HN2 := hid hn2
  clear hn1 hn2
  go_enter Tryz.func8, Tryz.ntmps8
  go_wp2_with (go_at_call 14; refine stop ?_)
  unfold Stop
  refine (open_calls4 a n c S x w HR.out HS.out hn).mono ?_
  intro e w1 hret
  obtain ⟨cs, ev, rfl, hcl, hc1, hev, hfr, hb1⟩ := ret_form hret
  rw [HO.out] at hev
  have HS1 := hid (HS.out.later hb1)
  have HEV := hid hev.now
  have HB1 := hid hb1
  have HCL := hid hcl
  have HC1 := hid hc1
  clear hret hcl hc1 hev hfr hb1 HS HR
  dsimp only
  iterate 10 go_step
  refine wpList_alloc_any rfl _ rfl zeros frame_zero ?_
  intro p V nb
  refine wpList_store_ob rfl _ _ _ rfl p zeros cs nb.ob rfl rfl HCL.out frame_info HC1.out ?_
  intro V1 hbV hsV obV
  have hbb : Below w1.heap.size w1 V1 := nb.below.trans (hbV.below (Nat.le_of_eq nb.is_.symm) (by have := nb.size; have := nb.is_; omega))
  have HSV := hid (HS1.out.later hbb)
  have HEVV := hid ((HEV.out.below hbb).more hbb.size)
  have HBV := hid (HB1.out.trans (hbb.mono HB1.out.size))
  clear nb hbV hsV obV hbb HS1 HEV HB1 HCL HC1
  go_wp2_with (go_at_call 15; refine stop ?_)
  unfold Stop
  refine (number_calls S _ ev o V1 HSV.out HEVV.out).mono ?_
  rw [HN1.out]
  rintro e w' ⟨rfl, rfl⟩
  go_wp2_with (go_at_call 17; refine stop ?_)
  unfold Stop
  refine (place_calls S ev o V1 HSV.out HEVV.out).mono ?_
  rw [HN2.out]
  rintro e w3 ⟨rfl, hb3⟩
  have HB3 := hid (HBV.out.trans (hb3.mono HBV.out.size))
  clear hb3
  go_wp2
  go_ret2
  exact ⟨rfl, HB3.out⟩
def RetDec (w : World) (res : Except (Int × Nat) Frame) (e : Ending) (w' : World) : Prop :=
  ∃ cs : List Value, e = .returned (.tuple #[.agg cs.toArray, .int .i64 (noOf (errOf res))]) ∧ FrV w' w'.heap.size (.agg cs.toArray) (frOf res) ∧ Below w.heap.size w w'
theorem decode_calls (a : Option Addr) (n c : Nat) (S : Sn) (x : List UInt8) (w : World) (hr : Row8 w w.heap.size a n c x) (hS : Sents w w.heap.size S) (hn : n ≤ 1000000) :
    Calls Tryz.prog 6 #[.slice a n c] w fun e w' => RetDec w (decX x) e w' := by
  have HR := hid hr
  have HS := hid hS
  have HSL := hid hS
  clear hr hS
  obtain ⟨res, hrx⟩ : ∃ res, decX x = res := ⟨_, rfl⟩
  rw [hrx]
  have HRX := hid hrx
  clear hrx
  unfold RetDec
  obtain ⟨n1, hn1⟩ : ∃ k, noOf (errOf res) = k := ⟨_, rfl⟩
  rw [hn1]
  have HN1 := hid hn1
  clear hn1
  go_enter Tryz.func6, Tryz.ntmps6
  iterate 3 go_step
  refine wpList_alloc_any rfl _ rfl zeros frame_zero ?_
  intro q W0 n0
  have hqw : w.heap.size ≤ q := Nat.le_of_eq n0.is_.symm
  have HO0 := hid n0.ob
  have hq0 : q < W0.heap.size := n0.ob.lt
  have HR0 := hid (HR.out.later n0.below)
  have HS0 := hid (HS.out.later n0.below)
  have HB0 := hid n0.below
  clear n0 HR HS
  go_wp2_with (go_at_call 14; refine stop ?_)
  unfold Stop
  refine (open_calls4 a n c S x W0 HR0.out HS0.out hn).mono ?_
  rw [HRX.out]
  intro e w1 hret
  obtain ⟨cs, ev, rfl, hcl, hc1, hev, hfr, hb1⟩ := ret_form hret
  have HS1 := hid (HS0.out.later hb1)
  have HOQ1 := hid (HO0.out.below hb1 hq0)
  have HEV := hid hev
  have HFR := hid hfr
  have HB1 := hid (HB0.out.trans (hb1.mono HB0.out.size))
  have HCL := hid hcl
  have HC1 := hid hc1
  have hs01 := hb1.size
  clear hret hcl hc1 hev hfr hb1 HS0 HR0 HO0 HB0
  dsimp only
  iterate 10 go_step
  refine wpList_alloc_any rfl _ rfl zeros frame_zero ?_
  intro p V nb
  refine wpList_store_ob rfl _ _ _ rfl p zeros cs nb.ob rfl rfl HCL.out frame_info HC1.out ?_
  intro V1 hbV hsV obV
  have hbb : Below w1.heap.size w1 V1 := nb.below.trans (hbV.below (Nat.le_of_eq nb.is_.symm) (by have := nb.size; have := nb.is_; omega))
  have hqp : q < p := by have := nb.is_; omega
  have HSV := hid (HS1.out.later hbb)
  have HOQ := hid (HOQ1.out.below hbb (by omega))
  have HOP := hid obV
  have HBV := hid (HB1.out.trans (hbb.mono HB1.out.size))
  have HK : Hid (∀ Z : World, Beside q V1 Z → ∀ k, W0.heap.size ≤ k → k < w1.heap.size → Z.heap[k]? = w1.heap[k]?) := fun Z hb k h1 h2 => (hb.block k (by have := hbb.size; omega) (by omega)).trans (hbb.block k h2)
  have HEVZ : Hid (∀ Z : World, Beside q V1 Z → ErrV Z Z.heap.size S ev (errOf res)) := fun Z hb => HEV.out Z (HK.out Z hb)
  have HFRZ : Hid (∀ Z : World, Beside q V1 Z → FrV Z Z.heap.size (.agg cs.toArray) (frOf res)) := fun Z hb => HFR.out Z (HK.out Z hb)
  have HSZ : Hid (∀ Z : World, Beside q V1 Z → Sents Z q S) := fun Z hb => by
    have h1 := HSL.out.below (HBV.out.trans (hb.below hqw (by have := HBV.out.size; omega)))
    exact h1.more hqw
  clear nb hbV hsV obV hbb HS1 HOQ1 HEV HFR HB1 HK HSV
  go_wp2
  have hbd : Beside q V1 V1.drew := ⟨rfl, rfl, rfl, Nat.le_refl _, fun _ _ _ => rfl⟩
  have hS : (fun u : World => Ob u p 26 cs) V1.drew := HOP.out
  refine Sm.Held.later_begin (S := (fun u => Ob u p 26 cs)) (by kernel_rfl) ?_
  refine Sm.Held.later_load (i := 0) (oi := ?_) hS ?_ (by kernel_rfl) (by kernel_rfl) (by kernel_rfl) ?_ _ p cs ?_ (fun _ h => h) ?_ Tryz.underlying26 rfl (by rw [HCL.out]; exact frame_info) ?_
  rotate_left 1
  · simp only [List.getElem?_toArray, List.getElem?_cons_zero]; rfl
  · rfl
  · exact fun _ _ _ h => h
  · exact ⟨_, rfl, rfl⟩
  simp only [Act.put, List.setIfInBounds_toArray, List.set_cons_zero, List.set_cons_succ]
  refine Sm.Held.later_take (i := 1) (oi := ?_) (v := ?_) hS ?_ (by kernel_rfl) (by kernel_rfl) (by kernel_rfl) ?_ ?_ ?_ ?_
  rotate_left 2
  · simp only [List.getElem?_toArray, List.getElem?_cons_succ, List.getElem?_cons_zero]; rfl
  · exact fun _ _ _ h => h
  · rfl
  · (intro u hu; go_simp <;> with_reducible rfl)
  simp only [Act.put, List.setIfInBounds_toArray, List.set_cons_zero, List.set_cons_succ]
  refine Sm.Held.later_call (i := 2) (o := ?_) ?_ (by kernel_rfl) (fun K hK => ?_)
  rotate_left 1
  · simp only [List.getElem?_toArray, List.getElem?_cons_succ, List.getElem?_cons_zero]; rfl
  go_simp
  refine (number_calls S V1.drew.heap.size ev _ V1.drew ((HSZ.out _ hbd).more (Nat.le_of_lt HOQ.out.lt)) (HEVZ.out _ hbd)).mono ?_
  rw [HN1.out]
  rintro e w' ⟨rfl, rfl⟩
  refine hK.out _ _ hS ?_
  clear hK K
  try simp only [Act.put, List.setIfInBounds_toArray, List.set_cons_zero, List.set_cons_succ]
  refine Sm.Held.later_store (i := 3) (o := ?_) ?_ (by kernel_rfl) ?_ _ q zeros cs (show Ob V1.drew q _ zeros from HOQ.out) ?_ HCL.out frame_info HC1.out ?_
  rotate_left 1
  · simp only [List.getElem?_toArray, List.getElem?_cons_succ, List.getElem?_cons_zero]; rfl
  · rfl
  · exact ⟨_, _, rfl, rfl, rfl⟩
  intro Z hbZ hsZ obZ
  have hS1 : Ob Z p 26 cs := hS.beside hbZ (Nat.ne_of_gt hqp)
  clear hS
  have hS := hS1
  clear hS1
  refine ⟨hS, ?_⟩
  have OZ := hid obZ
  have HFZ := hid (HFRZ.out Z (beside_dr hbZ))
  have HBZ := hid (HBV.out.trans ((beside_dr hbZ).below hqw (by have := HBV.out.size; omega)))
  clear obZ hbZ
  try simp only [Act.put]
  refine Sm.Held.later_take (i := 4) (oi := ?_) (v := ?_) hS ?_ (by kernel_rfl) (by kernel_rfl) (by kernel_rfl) ?_ ?_ ?_ ?_
  rotate_left 2
  · simp only [List.getElem?_toArray, List.getElem?_cons_succ, List.getElem?_cons_zero]; rfl
  · exact fun _ _ _ h => h
  · rfl
  · (intro u hu; go_simp <;> with_reducible rfl)
  simp only [Act.put, List.setIfInBounds_toArray, List.set_cons_zero, List.set_cons_succ]
  refine Sm.Held.later_done (by kernel_rfl) ?_ _
  go_wp2
  (try simp only [Exit.inBlock, Exit.then])
  refine bodyPost_ret (results_cell_two Tryz.results6 _ _ q _ rfl OZ.out Tryz.underlying26 rfl (by rw [HCL.out]; exact frame_info)) rfl ?_
  exact ⟨cs, rfl, HFZ.out, HBZ.out⟩
end Go.Proofs.YtfpgdimgffamoaaGreatDoor.Fr
