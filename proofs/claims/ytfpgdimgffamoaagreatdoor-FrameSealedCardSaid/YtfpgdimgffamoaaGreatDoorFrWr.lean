/- What frame.write returns: a frame's fields as bytes, if all of them fit. -/
import Derived.Test.YtfpgdimgffamoaaGreatDoorFrWrite
import Derived.Test.YtfpgdimgffamoaaGreatDoorSmA
namespace Go.Proofs.YtfpgdimgffamoaaGreatDoor.Fr
open Go.ChangeShapes Go.WideShapes Go.ChangeAt Go.RowKit Go.Proofs.YtfpgdimgffamoaaGreatDoor.Sm Go.Proofs.YtfpgdimgffamoaaGreatDoor.Wr
set_option maxHeartbeats 4000000
set_option maxRecDepth 100000

/-- do a frame's numbers fit into their fields? -/
def writeB (f : Frame) : Bool :=
  plainB f.kind 1 && plainB f.part 1 && plainB f.node 1 &&
  (if f.kind = 1 then plainB f.wait 2
   else if f.kind = 2 then plainB f.cycle 6 && plainB f.mask 2 && agesW f.ages
   else if f.kind = 3 then plainB f.link 1 && plainB f.cycle 6 && signedB f.offset 6
   else if f.kind = 4 then plainB f.link 1 && agesW f.ages
   else if f.kind = 5 then plainB f.link 1 && plainB f.frm 1 && plainB f.to 1 && plainB f.seq 4 && plainB f.body.length 1
   else false)
theorem plainL_fit {n k : Int} (h : plainB n k = true) : plainL n k = be n.toNat k.toNat := by unfold plainL; rw [if_pos h]
theorem agesL_fit {l : List Int} (h : agesW l = true) : agesL l = agesB l := by
  unfold agesW at h
  rw [Bool.and_eq_true, List.all_eq_true] at h
  unfold agesL agesB
  have h2 := h.2
  clear h
  induction l with
  | nil => rfl
  | cons a l ih =>
    rw [List.flatMap_cons, List.flatMap_cons, ih (fun x hx => h2 x (by simp [hx])), plainL_fit (h2 a (by simp))]
    rfl
/-- a number is added. -/
def RetP (w : World) (h : Nat) (l : List UInt8) (u : Bool) (k : List UInt8) (ok : Bool) (e : Ending) (w' : World) : Prop :=
  e = .returned (.tuple #[]) ∧ ∃ l' u', Wt w' h l' u' ∧ l'.length ≤ l.length + 7 ∧ Below h w w' ∧ Hid (u' = (u || !ok) ∧ (ok = true → l' = l ++ k))
theorem wnum_calls (h : Nat) (l : List UInt8) (u : Bool) (n k : Int) (hk : k ≤ 7) (w : World) (hw : Wt w h l u) (hl : l.length ≤ 4000) :
    Calls Tryz.prog 55 #[.pointer (some ⟨h, 0, none⟩), .int .i64 n, .int .i64 k] w fun e w' => RetP w h l u (be n.toNat k.toNat) (plainB n k) e w' :=
  (wplain_calls h l u n k hk w hw hl).mono fun _ _ hh => ⟨hh.1, _, _, hh.2.1, by have := plainL_le n k hk; rw [List.length_append]; omega, hh.2.2, rfl, fun ho => by rw [plainL_fit ho]⟩
def RetWrite (w : World) (f : Frame) (e : Ending) (w' : World) : Prop :=
  ∃ v, e = .returned (.tuple #[v, .bool (writeB f)]) ∧ Below w.heap.size w w' ∧ (writeB f = true → ∃ a c, v = .slice a (enc f).length c ∧ Row8 w' w'.heap.size a (enc f).length c (enc f))
theorem write_1 (a1 a2 a3 a4 a5 a7 a8 a10 a11 a12 : Int) (a6 : Bool) (a9 : List Int) (a13 : List UInt8) (v : Value) (B : Nat) (w : World) (hf : FrV w B v ⟨1, a1, a2, a3, a4, a5, a6, a7, a8, a9, a10, a11, a12, a13⟩) (hB : B ≤ w.heap.size) :
    Calls Tryz.prog 33 #[v] w fun e w' => RetWrite w ⟨1, a1, a2, a3, a4, a5, a6, a7, a8, a9, a10, a11, a12, a13⟩ e w' := by
  obtain ⟨a, n, c, a', n', c', ev, ra, rb, _⟩ := hf
  have HV := hid ev
  have HA := hid (ra.more hB)
  have HY := hid (rb.more hB)
  clear ev ra rb hB
  obtain ⟨F, hF⟩ : ∃ F : Frame, F = ⟨1, a1, a2, a3, a4, a5, a6, a7, a8, a9, a10, a11, a12, a13⟩ := ⟨_, rfl⟩
  rw [← hF]
  have HF := hid hF
  clear hF
  go_enter Tryz.func33, Tryz.ntmps33
  iterate 3 go_step
  refine wpList_box_any rfl _ _ rfl _ HV.out ?_
  intro p W n0
  have o0 := n0.ob
  have HO := hid o0
  have hph : p < W.heap.size := n0.ob.lt
  have HBW := hid n0.below
  have HA := hid (HA.out.later n0.below)
  have HY := hid (HY.out.later n0.below)
  have HP := hid n0.is_
  have k0 := o0.cell (i := 0) rfl
  dsimp only at k0 HA HY
  clear o0 n0 HV
  go_wp2_with (go_at_call 55; refine stop ?_)
  unfold Stop
  have hw0 : Wt (W.alloc (.cells #[.slice none 0 0, .bool false] 103)) W.heap.size [] false := ⟨_, heap_alloc_new W _, World.ownsRow_nil _ _ _ _⟩
  have hb0 : Below W.heap.size W (W.alloc (.cells #[.slice none 0 0, .bool false] 103)) := (Below.refl _ _).alloc (Nat.le_refl _) _
  obtain ⟨h, hh⟩ : ∃ h, W.heap.size = h := ⟨_, rfl⟩
  have HH := hid hh
  rw [hh] at hw0 hb0 HA HY hph ⊢
  have HW0 := hid hw0
  have HO0 := hid (HO.out.below hb0 hph)
  have HA0 := hid (HA.out.below hb0)
  have HY0 := hid (HY.out.below hb0)
  have HBB0 := hid hb0
  clear hw0 hb0 HO HA HY hh k0
  generalize W.alloc (.cells #[.slice none 0 0, .bool false] 103) = w0 at *
  refine (wnum_calls h [] false (1 : Int) 1 (by omega) w0 HW0.out (by simp)).mono ?_
  rintro e w1 ⟨rfl, l1, u1, hw1, hl1, hb1, HE1⟩
  rw [List.length_nil] at hl1
  have HW1 := hid hw1
  have ho1 := HO0.out.below hb1 hph
  have HO1 := hid ho1
  have HBB1 := hid (HBB0.out.trans hb1)
  have k0 := ho1.cell (i := 0) rfl
  have k1 := ho1.cell (i := 1) rfl
  dsimp only at k0 k1
  clear ho1 hb1 hw1 HW0 HO0 HBB0
  go_wp2_with (go_at_call 55; refine stop ?_)
  unfold Stop
  refine (wnum_calls h l1 u1 a1 1 (by omega) w1 HW1.out (by omega)).mono ?_
  rintro e w2 ⟨rfl, l2, u2, hw2, hl2, hb2, HE2⟩
  have HW2 := hid hw2
  have ho2 := HO1.out.below hb2 hph
  have HO2 := hid ho2
  have HBB2 := hid (HBB1.out.trans hb2)
  have k0 := ho2.cell (i := 0) rfl
  have k2 := ho2.cell (i := 2) rfl
  dsimp only at k0 k2
  clear ho2 hb2 hw2 HW1 HO1 HBB1
  go_wp2_with (go_at_call 55; refine stop ?_)
  unfold Stop
  refine (wnum_calls h l2 u2 a2 1 (by omega) w2 HW2.out (by omega)).mono ?_
  rintro e w3 ⟨rfl, l3, u3, hw3, hl3, hb3, HE3⟩
  have HW3 := hid hw3
  have ho3 := HO2.out.below hb3 hph
  have HO3 := hid ho3
  have HBB3 := hid (HBB2.out.trans hb3)
  have k0 := ho3.cell (i := 0) rfl
  have k3 := ho3.cell (i := 3) rfl
  dsimp only at k0 k3
  clear ho3 hb3 hw3 HW2 HO2 HBB2
  go_wp2_with (go_at_call 56; refine stop ?_)
  unfold Stop
  refine (linked_calls _ _).mono ?_
  rw [show decide ((1 : Int) = 3 ∨ (1 : Int) = 4 ∨ (1 : Int) = 5) = false by decide]
  rintro e w' ⟨rfl, rfl⟩
  go_wp2_with (go_at_call 55; refine stop ?_)
  unfold Stop
  refine (wnum_calls h l3 u3 a3 2 (by omega) w3 HW3.out (by omega)).mono ?_
  rintro e w4 ⟨rfl, l4, u4, hw4, hl4, hb4, HE4⟩
  have HW4 := hid hw4
  have ho4 := HO3.out.below hb4 hph
  have HO4 := hid ho4
  have HBB4 := hid (HBB3.out.trans hb4)
  have k0 := ho4.cell (i := 0) rfl
  dsimp only at k0
  obtain ⟨vo, oo, ow⟩ := hw4
  have x0 := oo.cell (i := 0) rfl
  have x1 := oo.cell (i := 1) rfl
  have HOW := hid ow
  clear oo ow
  clear ho4 hb4 HW3 HO3 HBB3
  go_wp2
  go_quiet (fail)
  go_wp2
  go_ret2
  have hbel : Below w.heap.size w (w4.drewN nq) := Sm.below_drewN (HBW.out.trans (HBB4.out.mono (by rw [← HH.out]; exact HBW.out.size))) _
  have hu : u4 = !writeB F := by
    rw [HF.out]
    unfold writeB
    rw [HE4.out.1, HE3.out.1, HE2.out.1, HE1.out.1]
    simp [Bool.or_assoc]
  refine ⟨vo, ?_, hbel, fun hf => ?_⟩
  · show Ending.returned (.tuple #[vo, .bool (!u4)]) = _
    rw [hu, Bool.not_not]
  · rw [hf, Bool.not_true] at hu
    rw [HF.out] at hf
    unfold writeB at hf
    dsimp only at hf
    rw [if_pos rfl] at hf
    simp only [Bool.and_eq_true] at hf
    obtain ⟨⟨⟨g1, g2⟩, g3⟩, g4⟩ := hf
    have hl : l4 = enc F := by
      rw [HF.out, HE4.out.2 g4, HE3.out.2 g3, HE2.out.2 g2, HE1.out.2 g1]
      unfold enc tailL
      dsimp only
      rw [if_pos rfl]
      simp [List.append_assoc]
    have hown := HOW.out
    rw [hl] at hown
    obtain ⟨aa, cc, e1, e2⟩ := owns_slice hown
    exact ⟨aa, cc, e1, e2.drewN nq⟩
theorem write_2 (a1 a2 a3 a4 a5 a7 a8 a10 a11 a12 : Int) (a6 : Bool) (a9 : List Int) (a13 : List UInt8) (v : Value) (B : Nat) (w : World) (hf : FrV w B v ⟨2, a1, a2, a3, a4, a5, a6, a7, a8, a9, a10, a11, a12, a13⟩) (hB : B ≤ w.heap.size) :
    Calls Tryz.prog 33 #[v] w fun e w' => RetWrite w ⟨2, a1, a2, a3, a4, a5, a6, a7, a8, a9, a10, a11, a12, a13⟩ e w' := by
  obtain ⟨a, n, c, a', n', c', ev, ra, rb, _⟩ := hf
  have HV := hid ev
  have HA := hid (ra.more hB)
  have HY := hid (rb.more hB)
  clear ev ra rb hB
  obtain ⟨F, hF⟩ : ∃ F : Frame, F = ⟨2, a1, a2, a3, a4, a5, a6, a7, a8, a9, a10, a11, a12, a13⟩ := ⟨_, rfl⟩
  rw [← hF]
  have HF := hid hF
  clear hF
  go_enter Tryz.func33, Tryz.ntmps33
  iterate 3 go_step
  refine wpList_box_any rfl _ _ rfl _ HV.out ?_
  intro p W n0
  have o0 := n0.ob
  have HO := hid o0
  have hph : p < W.heap.size := n0.ob.lt
  have HBW := hid n0.below
  have HA := hid (HA.out.later n0.below)
  have HY := hid (HY.out.later n0.below)
  have HP := hid n0.is_
  have k0 := o0.cell (i := 0) rfl
  dsimp only at k0 HA HY
  clear o0 n0 HV
  go_wp2_with (go_at_call 55; refine stop ?_)
  unfold Stop
  have hw0 : Wt (W.alloc (.cells #[.slice none 0 0, .bool false] 103)) W.heap.size [] false := ⟨_, heap_alloc_new W _, World.ownsRow_nil _ _ _ _⟩
  have hb0 : Below W.heap.size W (W.alloc (.cells #[.slice none 0 0, .bool false] 103)) := (Below.refl _ _).alloc (Nat.le_refl _) _
  obtain ⟨h, hh⟩ : ∃ h, W.heap.size = h := ⟨_, rfl⟩
  have HH := hid hh
  rw [hh] at hw0 hb0 HA HY hph ⊢
  have HW0 := hid hw0
  have HO0 := hid (HO.out.below hb0 hph)
  have HA0 := hid (HA.out.below hb0)
  have HY0 := hid (HY.out.below hb0)
  have HBB0 := hid hb0
  clear hw0 hb0 HO HA HY hh k0
  generalize W.alloc (.cells #[.slice none 0 0, .bool false] 103) = w0 at *
  refine (wnum_calls h [] false (2 : Int) 1 (by omega) w0 HW0.out (by simp)).mono ?_
  rintro e w1 ⟨rfl, l1, u1, hw1, hl1, hb1, HE1⟩
  rw [List.length_nil] at hl1
  have HW1 := hid hw1
  have ho1 := HO0.out.below hb1 hph
  have HO1 := hid ho1
  have HBB1 := hid (HBB0.out.trans hb1)
  have HA1 := hid (HA0.out.below hb1)
  have k0 := ho1.cell (i := 0) rfl
  have k1 := ho1.cell (i := 1) rfl
  dsimp only at k0 k1
  clear ho1 hb1 hw1 HW0 HO0 HBB0 HA0
  go_wp2_with (go_at_call 55; refine stop ?_)
  unfold Stop
  refine (wnum_calls h l1 u1 a1 1 (by omega) w1 HW1.out (by omega)).mono ?_
  rintro e w2 ⟨rfl, l2, u2, hw2, hl2, hb2, HE2⟩
  have HW2 := hid hw2
  have ho2 := HO1.out.below hb2 hph
  have HO2 := hid ho2
  have HBB2 := hid (HBB1.out.trans hb2)
  have HA2 := hid (HA1.out.below hb2)
  have k0 := ho2.cell (i := 0) rfl
  have k2 := ho2.cell (i := 2) rfl
  dsimp only at k0 k2
  clear ho2 hb2 hw2 HW1 HO1 HBB1 HA1
  go_wp2_with (go_at_call 55; refine stop ?_)
  unfold Stop
  refine (wnum_calls h l2 u2 a2 1 (by omega) w2 HW2.out (by omega)).mono ?_
  rintro e w3 ⟨rfl, l3, u3, hw3, hl3, hb3, HE3⟩
  have HW3 := hid hw3
  have ho3 := HO2.out.below hb3 hph
  have HO3 := hid ho3
  have HBB3 := hid (HBB2.out.trans hb3)
  have HA3 := hid (HA2.out.below hb3)
  have k0 := ho3.cell (i := 0) rfl
  have k7 := ho3.cell (i := 7) rfl
  dsimp only at k0 k7
  clear ho3 hb3 hw3 HW2 HO2 HBB2 HA2
  go_wp2_with (go_at_call 56; refine stop ?_)
  unfold Stop
  refine (linked_calls _ _).mono ?_
  rw [show decide ((2 : Int) = 3 ∨ (2 : Int) = 4 ∨ (2 : Int) = 5) = false by decide]
  rintro e w' ⟨rfl, rfl⟩
  go_wp2_with (go_at_call 55; refine stop ?_)
  unfold Stop
  refine (wnum_calls h l3 u3 a7 6 (by omega) w3 HW3.out (by omega)).mono ?_
  rintro e w4 ⟨rfl, l4, u4, hw4, hl4, hb4, HE4⟩
  have HW4 := hid hw4
  have ho4 := HO3.out.below hb4 hph
  have HO4 := hid ho4
  have HBB4 := hid (HBB3.out.trans hb4)
  have HA4 := hid (HA3.out.below hb4)
  have k0 := ho4.cell (i := 0) rfl
  have k4 := ho4.cell (i := 4) rfl
  dsimp only at k0 k4
  clear ho4 hb4 hw4 HW3 HO3 HBB3 HA3
  go_wp2_with (go_at_call 55; refine stop ?_)
  unfold Stop
  refine (wnum_calls h l4 u4 a4 2 (by omega) w4 HW4.out (by omega)).mono ?_
  rintro e w5 ⟨rfl, l5, u5, hw5, hl5, hb5, HE5⟩
  have HW5 := hid hw5
  have ho5 := HO4.out.below hb5 hph
  have HO5 := hid ho5
  have HBB5 := hid (HBB4.out.trans hb5)
  have HA5 := hid (HA4.out.below hb5)
  have k0 := ho5.cell (i := 0) rfl
  have k9 := ho5.cell (i := 9) rfl
  dsimp only at k0 k9
  clear ho5 hb5 hw5 HW4 HO4 HBB4 HA4
  go_wp2_with (go_at_call 57; refine stop ?_)
  unfold Stop
  refine (wages_calls h l5 u5 a n c a9 h w5 HW5.out HA5.out (Nat.le_refl _) (by omega)).mono ?_
  rintro e w6 ⟨rfl, ⟨l6, u6, hw6, he1, he2, hl6⟩, hb6⟩
  have HE6 := hid (And.intro he1 he2)
  clear he1 he2
  have HW6 := hid hw6
  have ho6 := HO5.out.below hb6 hph
  have HO6 := hid ho6
  have HBB6 := hid (HBB5.out.trans hb6)
  have HA6 := hid (HA5.out.below hb6)
  have k0 := ho6.cell (i := 0) rfl
  dsimp only at k0
  obtain ⟨vo, oo, ow⟩ := hw6
  have x0 := oo.cell (i := 0) rfl
  have x1 := oo.cell (i := 1) rfl
  have HOW := hid ow
  clear oo ow
  clear ho6 hb6 HW5 HO5 HBB5 HA5
  go_wp2
  go_quiet (fail)
  go_wp2
  go_ret2
  have hbel : Below w.heap.size w (w6.drewN nq) := Sm.below_drewN (HBW.out.trans (HBB6.out.mono (by rw [← HH.out]; exact HBW.out.size))) _
  have hu : u6 = !writeB F := by
    rw [HF.out]
    unfold writeB
    rw [HE6.out.1, HE5.out.1, HE4.out.1, HE3.out.1, HE2.out.1, HE1.out.1]
    simp [Bool.or_assoc]
  refine ⟨vo, ?_, hbel, fun hf => ?_⟩
  · show Ending.returned (.tuple #[vo, .bool (!u6)]) = _
    rw [hu, Bool.not_not]
  · rw [hf, Bool.not_true] at hu
    rw [HF.out] at hf
    unfold writeB at hf
    dsimp only at hf
    rw [if_neg (by decide), if_pos rfl] at hf
    simp only [Bool.and_eq_true] at hf
    obtain ⟨⟨⟨g1, g2⟩, g3⟩, ⟨⟨g4, g5⟩, g6⟩⟩ := hf
    have hl : l6 = enc F := by
      rw [HF.out, HE6.out.2 hu, HE5.out.2 g5, HE4.out.2 g4, HE3.out.2 g3, HE2.out.2 g2, HE1.out.2 g1]
      unfold enc tailL
      dsimp only
      rw [if_neg (by decide), if_pos rfl, agesL_fit g6]
      simp [List.append_assoc]
    have hown := HOW.out
    rw [hl] at hown
    obtain ⟨aa, cc, e1, e2⟩ := owns_slice hown
    exact ⟨aa, cc, e1, e2.drewN nq⟩
theorem write_3 (a1 a2 a3 a4 a5 a7 a8 a10 a11 a12 : Int) (a6 : Bool) (a9 : List Int) (a13 : List UInt8) (v : Value) (B : Nat) (w : World) (hf : FrV w B v ⟨3, a1, a2, a3, a4, a5, a6, a7, a8, a9, a10, a11, a12, a13⟩) (hB : B ≤ w.heap.size) :
    Calls Tryz.prog 33 #[v] w fun e w' => RetWrite w ⟨3, a1, a2, a3, a4, a5, a6, a7, a8, a9, a10, a11, a12, a13⟩ e w' := by
  obtain ⟨a, n, c, a', n', c', ev, ra, rb, _⟩ := hf
  have HV := hid ev
  have HA := hid (ra.more hB)
  have HY := hid (rb.more hB)
  clear ev ra rb hB
  obtain ⟨F, hF⟩ : ∃ F : Frame, F = ⟨3, a1, a2, a3, a4, a5, a6, a7, a8, a9, a10, a11, a12, a13⟩ := ⟨_, rfl⟩
  rw [← hF]
  have HF := hid hF
  clear hF
  go_enter Tryz.func33, Tryz.ntmps33
  iterate 3 go_step
  refine wpList_box_any rfl _ _ rfl _ HV.out ?_
  intro p W n0
  have o0 := n0.ob
  have HO := hid o0
  have hph : p < W.heap.size := n0.ob.lt
  have HBW := hid n0.below
  have HA := hid (HA.out.later n0.below)
  have HY := hid (HY.out.later n0.below)
  have HP := hid n0.is_
  have k0 := o0.cell (i := 0) rfl
  dsimp only at k0 HA HY
  clear o0 n0 HV
  go_wp2_with (go_at_call 55; refine stop ?_)
  unfold Stop
  have hw0 : Wt (W.alloc (.cells #[.slice none 0 0, .bool false] 103)) W.heap.size [] false := ⟨_, heap_alloc_new W _, World.ownsRow_nil _ _ _ _⟩
  have hb0 : Below W.heap.size W (W.alloc (.cells #[.slice none 0 0, .bool false] 103)) := (Below.refl _ _).alloc (Nat.le_refl _) _
  obtain ⟨h, hh⟩ : ∃ h, W.heap.size = h := ⟨_, rfl⟩
  have HH := hid hh
  rw [hh] at hw0 hb0 HA HY hph ⊢
  have HW0 := hid hw0
  have HO0 := hid (HO.out.below hb0 hph)
  have HA0 := hid (HA.out.below hb0)
  have HY0 := hid (HY.out.below hb0)
  have HBB0 := hid hb0
  clear hw0 hb0 HO HA HY hh k0
  generalize W.alloc (.cells #[.slice none 0 0, .bool false] 103) = w0 at *
  refine (wnum_calls h [] false (3 : Int) 1 (by omega) w0 HW0.out (by simp)).mono ?_
  rintro e w1 ⟨rfl, l1, u1, hw1, hl1, hb1, HE1⟩
  rw [List.length_nil] at hl1
  have HW1 := hid hw1
  have ho1 := HO0.out.below hb1 hph
  have HO1 := hid ho1
  have HBB1 := hid (HBB0.out.trans hb1)
  have k0 := ho1.cell (i := 0) rfl
  have k1 := ho1.cell (i := 1) rfl
  dsimp only at k0 k1
  clear ho1 hb1 hw1 HW0 HO0 HBB0
  go_wp2_with (go_at_call 55; refine stop ?_)
  unfold Stop
  refine (wnum_calls h l1 u1 a1 1 (by omega) w1 HW1.out (by omega)).mono ?_
  rintro e w2 ⟨rfl, l2, u2, hw2, hl2, hb2, HE2⟩
  have HW2 := hid hw2
  have ho2 := HO1.out.below hb2 hph
  have HO2 := hid ho2
  have HBB2 := hid (HBB1.out.trans hb2)
  have k0 := ho2.cell (i := 0) rfl
  have k2 := ho2.cell (i := 2) rfl
  dsimp only at k0 k2
  clear ho2 hb2 hw2 HW1 HO1 HBB1
  go_wp2_with (go_at_call 55; refine stop ?_)
  unfold Stop
  refine (wnum_calls h l2 u2 a2 1 (by omega) w2 HW2.out (by omega)).mono ?_
  rintro e w3 ⟨rfl, l3, u3, hw3, hl3, hb3, HE3⟩
  have HW3 := hid hw3
  have ho3 := HO2.out.below hb3 hph
  have HO3 := hid ho3
  have HBB3 := hid (HBB2.out.trans hb3)
  have k0 := ho3.cell (i := 0) rfl
  have k5 := ho3.cell (i := 5) rfl
  dsimp only at k0 k5
  clear ho3 hb3 hw3 HW2 HO2 HBB2
  go_wp2_with (go_at_call 56; refine stop ?_)
  unfold Stop
  refine (linked_calls _ _).mono ?_
  rw [show decide ((3 : Int) = 3 ∨ (3 : Int) = 4 ∨ (3 : Int) = 5) = true by decide]
  rintro e w' ⟨rfl, rfl⟩
  go_wp2_with (go_at_call 55; refine stop ?_)
  unfold Stop
  refine (wnum_calls h l3 u3 a5 1 (by omega) w3 HW3.out (by omega)).mono ?_
  rintro e w4 ⟨rfl, l4, u4, hw4, hl4, hb4, HE4⟩
  have HW4 := hid hw4
  have ho4 := HO3.out.below hb4 hph
  have HO4 := hid ho4
  have HBB4 := hid (HBB3.out.trans hb4)
  have k0 := ho4.cell (i := 0) rfl
  have k6 := ho4.cell (i := 6) rfl
  dsimp only at k0 k6
  clear ho4 hb4 hw4 HW3 HO3 HBB3
  go_wp2_with (go_at_call 58; refine stop ?_)
  unfold Stop
  refine (wflag_calls h l4 u4 a6 w4 HW4.out (by omega)).mono ?_
  rintro e w5 ⟨rfl, hw5, hb5⟩
  obtain ⟨l5, el5⟩ : ∃ l', l4 ++ be a6.toNat 1 = l' := ⟨_, rfl⟩
  have hl5 : l5.length ≤ l4.length + 7 := by rw [← el5, List.length_append, be_length]; omega
  rw [el5] at hw5
  have HE5 := hid el5
  clear el5
  have HW5 := hid hw5
  have ho5 := HO4.out.below hb5 hph
  have HO5 := hid ho5
  have HBB5 := hid (HBB4.out.trans hb5)
  have k0 := ho5.cell (i := 0) rfl
  have k7 := ho5.cell (i := 7) rfl
  dsimp only at k0 k7
  clear ho5 hb5 hw5 HW4 HO4 HBB4
  go_wp2_with (go_at_call 55; refine stop ?_)
  unfold Stop
  refine (wnum_calls h l5 u4 a7 6 (by omega) w5 HW5.out (by omega)).mono ?_
  rintro e w6 ⟨rfl, l6, u6, hw6, hl6, hb6, HE6⟩
  have HW6 := hid hw6
  have ho6 := HO5.out.below hb6 hph
  have HO6 := hid ho6
  have HBB6 := hid (HBB5.out.trans hb6)
  have k0 := ho6.cell (i := 0) rfl
  have k8 := ho6.cell (i := 8) rfl
  dsimp only at k0 k8
  clear ho6 hb6 hw6 HW5 HO5 HBB5
  go_wp2_with (go_at_call 60; refine stop ?_)
  unfold Stop
  refine (signed_calls a8 6 w6).mono ?_
  rintro e ws ⟨v1, rfl, hm⟩
  obtain ⟨ar, cr, rfl, hrs, hbs⟩ := hm.slice
  have HRs := hid hrs
  have HWs := hid (HW6.out.later hbs)
  have HOs := hid (HO6.out.below hbs (Nat.lt_trans hph HW6.out.lt))
  have HBs := hid (hbs.mono (Nat.le_of_lt HW6.out.lt))
  clear hm hrs hbs
  go_wp2_with (go_at_call 59; refine stop ?_)
  unfold Stop
  have hsl : (signedL a8 6).length ≤ 6 := by
    unfold signedL
    split
    · split <;> (rw [be_length]; decide)
    · simp
  refine (put_calls h l6 u6 ar _ cr (signedL a8 6) (signedB a8 6) ws HWs.out HRs.out (by omega) (by omega)).mono ?_
  rintro e w7 ⟨rfl, hw7, hb70⟩
  have hb7 := HBs.out.trans hb70
  clear hb70
  obtain ⟨l7, el7⟩ : ∃ l', l6 ++ signedL a8 6 = l' := ⟨_, rfl⟩
  obtain ⟨u7, eu7⟩ : ∃ u', (u6 || !signedB a8 6) = u' := ⟨_, rfl⟩
  rw [el7, eu7] at hw7
  have HE7 := hid (And.intro el7 eu7)
  clear el7 eu7 hsl HRs HWs HOs HBs
  have HW7 := hid hw7
  have ho7 := HO6.out.below hb7 hph
  have HO7 := hid ho7
  have HBB7 := hid (HBB6.out.trans hb7)
  have k0 := ho7.cell (i := 0) rfl
  dsimp only at k0
  obtain ⟨vo, oo, ow⟩ := hw7
  have x0 := oo.cell (i := 0) rfl
  have x1 := oo.cell (i := 1) rfl
  have HOW := hid ow
  clear oo ow
  clear ho7 hb7 HW6 HO6 HBB6
  go_wp2
  go_quiet (fail)
  go_wp2
  go_ret2
  have hbel : Below w.heap.size w (w7.drewN nq) := Sm.below_drewN (HBW.out.trans (HBB7.out.mono (by rw [← HH.out]; exact HBW.out.size))) _
  have hu : u7 = !writeB F := by
    rw [HF.out]
    unfold writeB
    rw [← HE7.out.2, HE6.out.1, HE4.out.1, HE3.out.1, HE2.out.1, HE1.out.1]
    simp [Bool.or_assoc]
  refine ⟨vo, ?_, hbel, fun hf => ?_⟩
  · show Ending.returned (.tuple #[vo, .bool (!u7)]) = _
    rw [hu, Bool.not_not]
  · rw [hf, Bool.not_true] at hu
    rw [HF.out] at hf
    unfold writeB at hf
    dsimp only at hf
    rw [if_neg (by decide), if_neg (by decide), if_pos rfl] at hf
    simp only [Bool.and_eq_true] at hf
    obtain ⟨⟨⟨g1, g2⟩, g3⟩, ⟨⟨g4, g5⟩, g6⟩⟩ := hf
    have hl : l7 = enc F := by
      rw [HF.out, ← HE7.out.1, HE6.out.2 g5, ← HE5.out, HE4.out.2 g4, HE3.out.2 g3, HE2.out.2 g2, HE1.out.2 g1]
      unfold enc tailL
      dsimp only
      rw [if_neg (by decide), if_neg (by decide), if_pos rfl]
      simp [List.append_assoc]
    have hown := HOW.out
    rw [hl] at hown
    obtain ⟨aa, cc, e1, e2⟩ := owns_slice hown
    exact ⟨aa, cc, e1, e2.drewN nq⟩
theorem write_4 (a1 a2 a3 a4 a5 a7 a8 a10 a11 a12 : Int) (a6 : Bool) (a9 : List Int) (a13 : List UInt8) (v : Value) (B : Nat) (w : World) (hf : FrV w B v ⟨4, a1, a2, a3, a4, a5, a6, a7, a8, a9, a10, a11, a12, a13⟩) (hB : B ≤ w.heap.size) :
    Calls Tryz.prog 33 #[v] w fun e w' => RetWrite w ⟨4, a1, a2, a3, a4, a5, a6, a7, a8, a9, a10, a11, a12, a13⟩ e w' := by
  obtain ⟨a, n, c, a', n', c', ev, ra, rb, _⟩ := hf
  have HV := hid ev
  have HA := hid (ra.more hB)
  have HY := hid (rb.more hB)
  clear ev ra rb hB
  obtain ⟨F, hF⟩ : ∃ F : Frame, F = ⟨4, a1, a2, a3, a4, a5, a6, a7, a8, a9, a10, a11, a12, a13⟩ := ⟨_, rfl⟩
  rw [← hF]
  have HF := hid hF
  clear hF
  go_enter Tryz.func33, Tryz.ntmps33
  iterate 3 go_step
  refine wpList_box_any rfl _ _ rfl _ HV.out ?_
  intro p W n0
  have o0 := n0.ob
  have HO := hid o0
  have hph : p < W.heap.size := n0.ob.lt
  have HBW := hid n0.below
  have HA := hid (HA.out.later n0.below)
  have HY := hid (HY.out.later n0.below)
  have HP := hid n0.is_
  have k0 := o0.cell (i := 0) rfl
  dsimp only at k0 HA HY
  clear o0 n0 HV
  go_wp2_with (go_at_call 55; refine stop ?_)
  unfold Stop
  have hw0 : Wt (W.alloc (.cells #[.slice none 0 0, .bool false] 103)) W.heap.size [] false := ⟨_, heap_alloc_new W _, World.ownsRow_nil _ _ _ _⟩
  have hb0 : Below W.heap.size W (W.alloc (.cells #[.slice none 0 0, .bool false] 103)) := (Below.refl _ _).alloc (Nat.le_refl _) _
  obtain ⟨h, hh⟩ : ∃ h, W.heap.size = h := ⟨_, rfl⟩
  have HH := hid hh
  rw [hh] at hw0 hb0 HA HY hph ⊢
  have HW0 := hid hw0
  have HO0 := hid (HO.out.below hb0 hph)
  have HA0 := hid (HA.out.below hb0)
  have HY0 := hid (HY.out.below hb0)
  have HBB0 := hid hb0
  clear hw0 hb0 HO HA HY hh k0
  generalize W.alloc (.cells #[.slice none 0 0, .bool false] 103) = w0 at *
  refine (wnum_calls h [] false (4 : Int) 1 (by omega) w0 HW0.out (by simp)).mono ?_
  rintro e w1 ⟨rfl, l1, u1, hw1, hl1, hb1, HE1⟩
  rw [List.length_nil] at hl1
  have HW1 := hid hw1
  have ho1 := HO0.out.below hb1 hph
  have HO1 := hid ho1
  have HBB1 := hid (HBB0.out.trans hb1)
  have HA1 := hid (HA0.out.below hb1)
  have k0 := ho1.cell (i := 0) rfl
  have k1 := ho1.cell (i := 1) rfl
  dsimp only at k0 k1
  clear ho1 hb1 hw1 HW0 HO0 HBB0 HA0
  go_wp2_with (go_at_call 55; refine stop ?_)
  unfold Stop
  refine (wnum_calls h l1 u1 a1 1 (by omega) w1 HW1.out (by omega)).mono ?_
  rintro e w2 ⟨rfl, l2, u2, hw2, hl2, hb2, HE2⟩
  have HW2 := hid hw2
  have ho2 := HO1.out.below hb2 hph
  have HO2 := hid ho2
  have HBB2 := hid (HBB1.out.trans hb2)
  have HA2 := hid (HA1.out.below hb2)
  have k0 := ho2.cell (i := 0) rfl
  have k2 := ho2.cell (i := 2) rfl
  dsimp only at k0 k2
  clear ho2 hb2 hw2 HW1 HO1 HBB1 HA1
  go_wp2_with (go_at_call 55; refine stop ?_)
  unfold Stop
  refine (wnum_calls h l2 u2 a2 1 (by omega) w2 HW2.out (by omega)).mono ?_
  rintro e w3 ⟨rfl, l3, u3, hw3, hl3, hb3, HE3⟩
  have HW3 := hid hw3
  have ho3 := HO2.out.below hb3 hph
  have HO3 := hid ho3
  have HBB3 := hid (HBB2.out.trans hb3)
  have HA3 := hid (HA2.out.below hb3)
  have k0 := ho3.cell (i := 0) rfl
  have k5 := ho3.cell (i := 5) rfl
  dsimp only at k0 k5
  clear ho3 hb3 hw3 HW2 HO2 HBB2 HA2
  go_wp2_with (go_at_call 56; refine stop ?_)
  unfold Stop
  refine (linked_calls _ _).mono ?_
  rw [show decide ((4 : Int) = 3 ∨ (4 : Int) = 4 ∨ (4 : Int) = 5) = true by decide]
  rintro e w' ⟨rfl, rfl⟩
  go_wp2_with (go_at_call 55; refine stop ?_)
  unfold Stop
  refine (wnum_calls h l3 u3 a5 1 (by omega) w3 HW3.out (by omega)).mono ?_
  rintro e w4 ⟨rfl, l4, u4, hw4, hl4, hb4, HE4⟩
  have HW4 := hid hw4
  have ho4 := HO3.out.below hb4 hph
  have HO4 := hid ho4
  have HBB4 := hid (HBB3.out.trans hb4)
  have HA4 := hid (HA3.out.below hb4)
  have k0 := ho4.cell (i := 0) rfl
  have k9 := ho4.cell (i := 9) rfl
  dsimp only at k0 k9
  clear ho4 hb4 hw4 HW3 HO3 HBB3 HA3
  go_wp2_with (go_at_call 57; refine stop ?_)
  unfold Stop
  refine (wages_calls h l4 u4 a n c a9 h w4 HW4.out HA4.out (Nat.le_refl _) (by omega)).mono ?_
  rintro e w5 ⟨rfl, ⟨l5, u5, hw5, he1, he2, hl5⟩, hb5⟩
  have HE5 := hid (And.intro he1 he2)
  clear he1 he2
  have HW5 := hid hw5
  have ho5 := HO4.out.below hb5 hph
  have HO5 := hid ho5
  have HBB5 := hid (HBB4.out.trans hb5)
  have HA5 := hid (HA4.out.below hb5)
  have k0 := ho5.cell (i := 0) rfl
  dsimp only at k0
  obtain ⟨vo, oo, ow⟩ := hw5
  have x0 := oo.cell (i := 0) rfl
  have x1 := oo.cell (i := 1) rfl
  have HOW := hid ow
  clear oo ow
  clear ho5 hb5 HW4 HO4 HBB4 HA4
  go_wp2
  go_quiet (fail)
  go_wp2
  go_ret2
  have hbel : Below w.heap.size w (w5.drewN nq) := Sm.below_drewN (HBW.out.trans (HBB5.out.mono (by rw [← HH.out]; exact HBW.out.size))) _
  have hu : u5 = !writeB F := by
    rw [HF.out]
    unfold writeB
    rw [HE5.out.1, HE4.out.1, HE3.out.1, HE2.out.1, HE1.out.1]
    simp [Bool.or_assoc]
  refine ⟨vo, ?_, hbel, fun hf => ?_⟩
  · show Ending.returned (.tuple #[vo, .bool (!u5)]) = _
    rw [hu, Bool.not_not]
  · rw [hf, Bool.not_true] at hu
    rw [HF.out] at hf
    unfold writeB at hf
    dsimp only at hf
    rw [if_neg (by decide), if_neg (by decide), if_neg (by decide), if_pos rfl] at hf
    simp only [Bool.and_eq_true] at hf
    obtain ⟨⟨⟨g1, g2⟩, g3⟩, ⟨g4, g5⟩⟩ := hf
    have hl : l5 = enc F := by
      rw [HF.out, HE5.out.2 hu, HE4.out.2 g4, HE3.out.2 g3, HE2.out.2 g2, HE1.out.2 g1]
      unfold enc tailL
      dsimp only
      rw [if_neg (by decide), if_neg (by decide), if_neg (by decide), if_pos rfl, agesL_fit g5]
      simp [List.append_assoc]
    have hown := HOW.out
    rw [hl] at hown
    obtain ⟨aa, cc, e1, e2⟩ := owns_slice hown
    exact ⟨aa, cc, e1, e2.drewN nq⟩
theorem write_5 (a1 a2 a3 a4 a5 a7 a8 a10 a11 a12 : Int) (a6 : Bool) (a9 : List Int) (a13 : List UInt8) (v : Value) (B : Nat) (w : World) (hf : FrV w B v ⟨5, a1, a2, a3, a4, a5, a6, a7, a8, a9, a10, a11, a12, a13⟩) (hB : B ≤ w.heap.size) :
    Calls Tryz.prog 33 #[v] w fun e w' => RetWrite w ⟨5, a1, a2, a3, a4, a5, a6, a7, a8, a9, a10, a11, a12, a13⟩ e w' := by
  obtain ⟨a, n, c, a', n', c', ev, ra, rb, _⟩ := hf
  have HV := hid ev
  have HA := hid (ra.more hB)
  have HY := hid (rb.more hB)
  clear ev ra rb hB
  obtain ⟨F, hF⟩ : ∃ F : Frame, F = ⟨5, a1, a2, a3, a4, a5, a6, a7, a8, a9, a10, a11, a12, a13⟩ := ⟨_, rfl⟩
  rw [← hF]
  have HF := hid hF
  clear hF
  go_enter Tryz.func33, Tryz.ntmps33
  iterate 3 go_step
  refine wpList_box_any rfl _ _ rfl _ HV.out ?_
  intro p W n0
  have o0 := n0.ob
  have HO := hid o0
  have hph : p < W.heap.size := n0.ob.lt
  have HBW := hid n0.below
  have HA := hid (HA.out.later n0.below)
  have HY := hid (HY.out.later n0.below)
  have HP := hid n0.is_
  have k0 := o0.cell (i := 0) rfl
  dsimp only at k0 HA HY
  clear o0 n0 HV
  go_wp2_with (go_at_call 55; refine stop ?_)
  unfold Stop
  have hw0 : Wt (W.alloc (.cells #[.slice none 0 0, .bool false] 103)) W.heap.size [] false := ⟨_, heap_alloc_new W _, World.ownsRow_nil _ _ _ _⟩
  have hb0 : Below W.heap.size W (W.alloc (.cells #[.slice none 0 0, .bool false] 103)) := (Below.refl _ _).alloc (Nat.le_refl _) _
  obtain ⟨h, hh⟩ : ∃ h, W.heap.size = h := ⟨_, rfl⟩
  have HH := hid hh
  rw [hh] at hw0 hb0 HA HY hph ⊢
  have HW0 := hid hw0
  have HO0 := hid (HO.out.below hb0 hph)
  have HA0 := hid (HA.out.below hb0)
  have HY0 := hid (HY.out.below hb0)
  have HBB0 := hid hb0
  clear hw0 hb0 HO HA HY hh k0
  generalize W.alloc (.cells #[.slice none 0 0, .bool false] 103) = w0 at *
  refine (wnum_calls h [] false (5 : Int) 1 (by omega) w0 HW0.out (by simp)).mono ?_
  rintro e w1 ⟨rfl, l1, u1, hw1, hl1, hb1, HE1⟩
  rw [List.length_nil] at hl1
  have HW1 := hid hw1
  have ho1 := HO0.out.below hb1 hph
  have HO1 := hid ho1
  have HBB1 := hid (HBB0.out.trans hb1)
  have HY1 := hid (HY0.out.below hb1)
  have k0 := ho1.cell (i := 0) rfl
  have k1 := ho1.cell (i := 1) rfl
  dsimp only at k0 k1
  clear ho1 hb1 hw1 HW0 HO0 HBB0 HY0
  go_wp2_with (go_at_call 55; refine stop ?_)
  unfold Stop
  refine (wnum_calls h l1 u1 a1 1 (by omega) w1 HW1.out (by omega)).mono ?_
  rintro e w2 ⟨rfl, l2, u2, hw2, hl2, hb2, HE2⟩
  have HW2 := hid hw2
  have ho2 := HO1.out.below hb2 hph
  have HO2 := hid ho2
  have HBB2 := hid (HBB1.out.trans hb2)
  have HY2 := hid (HY1.out.below hb2)
  have k0 := ho2.cell (i := 0) rfl
  have k2 := ho2.cell (i := 2) rfl
  dsimp only at k0 k2
  clear ho2 hb2 hw2 HW1 HO1 HBB1 HY1
  go_wp2_with (go_at_call 55; refine stop ?_)
  unfold Stop
  refine (wnum_calls h l2 u2 a2 1 (by omega) w2 HW2.out (by omega)).mono ?_
  rintro e w3 ⟨rfl, l3, u3, hw3, hl3, hb3, HE3⟩
  have HW3 := hid hw3
  have ho3 := HO2.out.below hb3 hph
  have HO3 := hid ho3
  have HBB3 := hid (HBB2.out.trans hb3)
  have HY3 := hid (HY2.out.below hb3)
  have k0 := ho3.cell (i := 0) rfl
  have k5 := ho3.cell (i := 5) rfl
  dsimp only at k0 k5
  clear ho3 hb3 hw3 HW2 HO2 HBB2 HY2
  go_wp2_with (go_at_call 56; refine stop ?_)
  unfold Stop
  refine (linked_calls _ _).mono ?_
  rw [show decide ((5 : Int) = 3 ∨ (5 : Int) = 4 ∨ (5 : Int) = 5) = true by decide]
  rintro e w' ⟨rfl, rfl⟩
  go_wp2_with (go_at_call 55; refine stop ?_)
  unfold Stop
  refine (wnum_calls h l3 u3 a5 1 (by omega) w3 HW3.out (by omega)).mono ?_
  rintro e w4 ⟨rfl, l4, u4, hw4, hl4, hb4, HE4⟩
  have HW4 := hid hw4
  have ho4 := HO3.out.below hb4 hph
  have HO4 := hid ho4
  have HBB4 := hid (HBB3.out.trans hb4)
  have HY4 := hid (HY3.out.below hb4)
  have k0 := ho4.cell (i := 0) rfl
  have k10 := ho4.cell (i := 10) rfl
  dsimp only at k0 k10
  clear ho4 hb4 hw4 HW3 HO3 HBB3 HY3
  go_wp2_with (go_at_call 55; refine stop ?_)
  unfold Stop
  refine (wnum_calls h l4 u4 a10 1 (by omega) w4 HW4.out (by omega)).mono ?_
  rintro e w5 ⟨rfl, l5, u5, hw5, hl5, hb5, HE5⟩
  have HW5 := hid hw5
  have ho5 := HO4.out.below hb5 hph
  have HO5 := hid ho5
  have HBB5 := hid (HBB4.out.trans hb5)
  have HY5 := hid (HY4.out.below hb5)
  have k0 := ho5.cell (i := 0) rfl
  have k11 := ho5.cell (i := 11) rfl
  dsimp only at k0 k11
  clear ho5 hb5 hw5 HW4 HO4 HBB4 HY4
  go_wp2_with (go_at_call 55; refine stop ?_)
  unfold Stop
  refine (wnum_calls h l5 u5 a11 1 (by omega) w5 HW5.out (by omega)).mono ?_
  rintro e w6 ⟨rfl, l6, u6, hw6, hl6, hb6, HE6⟩
  have HW6 := hid hw6
  have ho6 := HO5.out.below hb6 hph
  have HO6 := hid ho6
  have HBB6 := hid (HBB5.out.trans hb6)
  have HY6 := hid (HY5.out.below hb6)
  have k0 := ho6.cell (i := 0) rfl
  have k12 := ho6.cell (i := 12) rfl
  dsimp only at k0 k12
  clear ho6 hb6 hw6 HW5 HO5 HBB5 HY5
  go_wp2_with (go_at_call 55; refine stop ?_)
  unfold Stop
  refine (wnum_calls h l6 u6 a12 4 (by omega) w6 HW6.out (by omega)).mono ?_
  rintro e w7 ⟨rfl, l7, u7, hw7, hl7, hb7, HE7⟩
  have HW7 := hid hw7
  have ho7 := HO6.out.below hb7 hph
  have HO7 := hid ho7
  have HBB7 := hid (HBB6.out.trans hb7)
  have HY7 := hid (HY6.out.below hb7)
  have k0 := ho7.cell (i := 0) rfl
  have k13 := ho7.cell (i := 13) rfl
  dsimp only at k0 k13
  clear ho7 hb7 hw7 HW6 HO6 HBB6 HY6
  go_wp2_with (go_at_call 61; refine stop ?_)
  unfold Stop
  refine (wbody_calls h l7 u7 a' n' c' a13 h w7 HW7.out HY7.out (Nat.le_refl _) (by omega)).mono ?_
  rintro e w8 ⟨rfl, ⟨l8, u8, hw8, he1, he2, hl8⟩, hb8⟩
  have HE8 := hid (And.intro he1 he2)
  clear he1 he2
  have HW8 := hid hw8
  have ho8 := HO7.out.below hb8 hph
  have HO8 := hid ho8
  have HBB8 := hid (HBB7.out.trans hb8)
  have HY8 := hid (HY7.out.below hb8)
  have k0 := ho8.cell (i := 0) rfl
  dsimp only at k0
  obtain ⟨vo, oo, ow⟩ := hw8
  have x0 := oo.cell (i := 0) rfl
  have x1 := oo.cell (i := 1) rfl
  have HOW := hid ow
  clear oo ow
  clear ho8 hb8 HW7 HO7 HBB7 HY7
  go_wp2
  go_quiet (fail)
  go_wp2
  go_ret2
  have hbel : Below w.heap.size w (w8.drewN nq) := Sm.below_drewN (HBW.out.trans (HBB8.out.mono (by rw [← HH.out]; exact HBW.out.size))) _
  have hu : u8 = !writeB F := by
    rw [HF.out]
    unfold writeB
    rw [HE8.out.1, HE7.out.1, HE6.out.1, HE5.out.1, HE4.out.1, HE3.out.1, HE2.out.1, HE1.out.1]
    simp [Bool.or_assoc]
  refine ⟨vo, ?_, hbel, fun hf => ?_⟩
  · show Ending.returned (.tuple #[vo, .bool (!u8)]) = _
    rw [hu, Bool.not_not]
  · rw [hf, Bool.not_true] at hu
    rw [HF.out] at hf
    unfold writeB at hf
    dsimp only at hf
    rw [if_neg (by decide), if_neg (by decide), if_neg (by decide), if_neg (by decide), if_pos rfl] at hf
    simp only [Bool.and_eq_true] at hf
    obtain ⟨⟨⟨g1, g2⟩, g3⟩, ⟨⟨⟨⟨g4, g5⟩, g6⟩, g7⟩, g8⟩⟩ := hf
    have hl : l8 = enc F := by
      rw [HF.out, HE8.out.2 hu, HE7.out.2 g7, HE6.out.2 g6, HE5.out.2 g5, HE4.out.2 g4, HE3.out.2 g3, HE2.out.2 g2, HE1.out.2 g1]
      unfold enc tailL
      dsimp only
      rw [if_neg (by decide), if_neg (by decide), if_neg (by decide), if_neg (by decide)]
      simp [List.append_assoc]
    have hown := HOW.out
    rw [hl] at hown
    obtain ⟨aa, cc, e1, e2⟩ := owns_slice hown
    exact ⟨aa, cc, e1, e2.drewN nq⟩
theorem write_no (a0 a1 a2 a3 a4 a5 a7 a8 a10 a11 a12 : Int) (a6 : Bool) (a9 : List Int) (a13 : List UInt8) (h1 : ¬ a0 = 1) (h2 : ¬ a0 = 2) (h3 : ¬ a0 = 3) (h4 : ¬ a0 = 4) (h5 : ¬ a0 = 5) (v : Value) (B : Nat) (w : World) (hf : FrV w B v ⟨a0, a1, a2, a3, a4, a5, a6, a7, a8, a9, a10, a11, a12, a13⟩) (hB : B ≤ w.heap.size) :
    Calls Tryz.prog 33 #[v] w fun e w' => RetWrite w ⟨a0, a1, a2, a3, a4, a5, a6, a7, a8, a9, a10, a11, a12, a13⟩ e w' := by
  obtain ⟨a, n, c, a', n', c', ev, ra, rb, _⟩ := hf
  have HV := hid ev
  have HA := hid (ra.more hB)
  have HY := hid (rb.more hB)
  clear ev ra rb hB
  have e1 : (a0 == 1) = false := by simpa using h1
  have e2 : (a0 == 2) = false := by simpa using h2
  have e3 : (a0 == 3) = false := by simpa using h3
  have e4 : (a0 == 4) = false := by simpa using h4
  have e5 : (a0 == 5) = false := by simpa using h5
  have HK := hid (show ¬ (a0 = 3 ∨ a0 = 4 ∨ a0 = 5) by omega)
  have HNO := hid (show writeB ⟨a0, a1, a2, a3, a4, a5, a6, a7, a8, a9, a10, a11, a12, a13⟩ = false by unfold writeB; simp [h1, h2, h3, h4, h5])
  clear h1 h2 h3 h4 h5
  obtain ⟨F, hF⟩ : ∃ F : Frame, F = ⟨a0, a1, a2, a3, a4, a5, a6, a7, a8, a9, a10, a11, a12, a13⟩ := ⟨_, rfl⟩
  rw [← hF]
  have HF := hid hF
  clear hF
  go_enter Tryz.func33, Tryz.ntmps33
  iterate 3 go_step
  refine wpList_box_any rfl _ _ rfl _ HV.out ?_
  intro p W n0
  have o0 := n0.ob
  have HO := hid o0
  have hph : p < W.heap.size := n0.ob.lt
  have HBW := hid n0.below
  have HA := hid (HA.out.later n0.below)
  have HY := hid (HY.out.later n0.below)
  have HP := hid n0.is_
  have k0 := o0.cell (i := 0) rfl
  dsimp only at k0 HA HY
  clear o0 n0 HV
  go_wp2_with (go_at_call 55; refine stop ?_)
  unfold Stop
  have hw0 : Wt (W.alloc (.cells #[.slice none 0 0, .bool false] 103)) W.heap.size [] false := ⟨_, heap_alloc_new W _, World.ownsRow_nil _ _ _ _⟩
  have hb0 : Below W.heap.size W (W.alloc (.cells #[.slice none 0 0, .bool false] 103)) := (Below.refl _ _).alloc (Nat.le_refl _) _
  obtain ⟨h, hh⟩ : ∃ h, W.heap.size = h := ⟨_, rfl⟩
  have HH := hid hh
  rw [hh] at hw0 hb0 HA HY hph ⊢
  have HW0 := hid hw0
  have HO0 := hid (HO.out.below hb0 hph)
  have HA0 := hid (HA.out.below hb0)
  have HY0 := hid (HY.out.below hb0)
  have HBB0 := hid hb0
  clear hw0 hb0 HO HA HY hh k0
  generalize W.alloc (.cells #[.slice none 0 0, .bool false] 103) = w0 at *
  refine (wnum_calls h [] false a0 1 (by omega) w0 HW0.out (by simp)).mono ?_
  rintro e w1 ⟨rfl, l1, u1, hw1, hl1, hb1, HE1⟩
  rw [List.length_nil] at hl1
  have HW1 := hid hw1
  have ho1 := HO0.out.below hb1 hph
  have HO1 := hid ho1
  have HBB1 := hid (HBB0.out.trans hb1)
  have k0 := ho1.cell (i := 0) rfl
  have k1 := ho1.cell (i := 1) rfl
  dsimp only at k0 k1
  clear ho1 hb1 hw1 HW0 HO0 HBB0
  go_wp2_with (go_at_call 55; refine stop ?_)
  unfold Stop
  refine (wnum_calls h l1 u1 a1 1 (by omega) w1 HW1.out (by omega)).mono ?_
  rintro e w2 ⟨rfl, l2, u2, hw2, hl2, hb2, HE2⟩
  have HW2 := hid hw2
  have ho2 := HO1.out.below hb2 hph
  have HO2 := hid ho2
  have HBB2 := hid (HBB1.out.trans hb2)
  have k0 := ho2.cell (i := 0) rfl
  have k2 := ho2.cell (i := 2) rfl
  dsimp only at k0 k2
  clear ho2 hb2 hw2 HW1 HO1 HBB1
  go_wp2_with (go_at_call 55; refine stop ?_)
  unfold Stop
  refine (wnum_calls h l2 u2 a2 1 (by omega) w2 HW2.out (by omega)).mono ?_
  rintro e w3 ⟨rfl, l3, u3, hw3, hl3, hb3, HE3⟩
  have HW3 := hid hw3
  have ho3 := HO2.out.below hb3 hph
  have HO3 := hid ho3
  have HBB3 := hid (HBB2.out.trans hb3)
  have k0 := ho3.cell (i := 0) rfl
  dsimp only at k0
  obtain ⟨vo, oo, ow⟩ := hw3
  have x0 := oo.cell (i := 0) rfl
  have x1 := oo.cell (i := 1) rfl
  have HOW := hid ow
  clear oo ow
  clear ho3 hb3 HW2 HO2 HBB2
  go_wp2_with (go_at_call 56; refine stop ?_)
  unfold Stop
  refine (linked_calls _ _).mono ?_
  rw [decide_eq_false HK.out]
  rintro e w' ⟨rfl, rfl⟩
  go_wp2
  go_ret2
  refine ⟨.slice none 0 0, by rw [HF.out, HNO.out]; rfl, ?_, fun hf => ?_⟩
  · have h1 : w.heap.size ≤ h := by have := HP.out; omega
    exact HBW.out.trans ((HBB3.out.mono (by rw [← HH.out]; exact HBW.out.size)))
  · rw [HF.out, HNO.out] at hf; cases hf
/-- a frame's fields as bytes. -/
theorem write_calls (f : Frame) (v : Value) (B : Nat) (w : World) (hf : FrV w B v f) (hB : B ≤ w.heap.size) :
    Calls Tryz.prog 33 #[v] w fun e w' => RetWrite w f e w' := by
  obtain ⟨a0, a1, a2, a3, a4, a5, a6, a7, a8, a9, a10, a11, a12, a13⟩ := f
  by_cases h1 : a0 = 1
  · subst h1; exact write_1 a1 a2 a3 a4 a5 a7 a8 a10 a11 a12 a6 a9 a13 v B w hf hB
  by_cases h2 : a0 = 2
  · subst h2; exact write_2 a1 a2 a3 a4 a5 a7 a8 a10 a11 a12 a6 a9 a13 v B w hf hB
  by_cases h3 : a0 = 3
  · subst h3; exact write_3 a1 a2 a3 a4 a5 a7 a8 a10 a11 a12 a6 a9 a13 v B w hf hB
  by_cases h4 : a0 = 4
  · subst h4; exact write_4 a1 a2 a3 a4 a5 a7 a8 a10 a11 a12 a6 a9 a13 v B w hf hB
  by_cases h5 : a0 = 5
  · subst h5; exact write_5 a1 a2 a3 a4 a5 a7 a8 a10 a11 a12 a6 a9 a13 v B w hf hB
  exact write_no a0 a1 a2 a3 a4 a5 a7 a8 a10 a11 a12 a6 a9 a13 h1 h2 h3 h4 h5 v B w hf hB
end Go.Proofs.YtfpgdimgffamoaaGreatDoor.Fr
