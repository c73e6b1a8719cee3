/- The document's example of chapter 4 (the laws' own test that the calls are there at all). -/
import Derived.Test.YtfpgdimgffamoaaGreatDoorFrEnc
import Derived.Test.YtfpgdimgffamoaaGreatDoorFrDec
namespace Go.Proofs.YtfpgdimgffamoaaGreatDoor.Fr
open Go.ChangeShapes Go.WideShapes Go.ChangeAt Go.RowKit Go.Proofs.YtfpgdimgffamoaaGreatDoor.Sm Go.Proofs.YtfpgdimgffamoaaGreatDoor.Wr
set_option maxHeartbeats 4000000
set_option maxRecDepth 100000

theorem sealB_length (l : List UInt8) : (sealB l).length = l.length + 4 := by unfold sealB; rw [List.length_append]; rfl
theorem sealB_take (l : List UInt8) : (sealB l).take ((sealB l).length - 4) = l := by
  rw [sealB_length, Nat.add_sub_cancel]
  exact List.take_left
theorem isSealed_sealB (l : List UInt8) : isSealed (sealB l) = true := by
  unfold isSealed
  rw [sealB_take, sealB_length, Nat.add_sub_cancel]
  refine decide_eq_true ⟨by omega, ?_⟩
  exact List.drop_left
/-- what was written is read. -/
theorem dec_enc {f : Frame} (h : mayB f = true) : decX (sealB (enc f)) = .ok f := by
  have h3 := enc_length f
  unfold decX
  rw [if_neg (by rw [sealB_length]; omega), isSealed_sealB, if_pos rfl, sealB_take, read_enc h]
def ex : Frame := { bare 1 1 2 with wait := 3 }
theorem ex_may : mayB ex = true := by decide
theorem ex_enc : enc ex = [1, 1, 2, 0, 3] := by decide
theorem alive_calls (S : Sn) (w : World) (hS : Sents w w.heap.size S) :
    Calls Tryz.prog 5 #[] w fun e w' => e = .returned (.bool true) ∧ Below w.heap.size w w' := by
  have HS := hid hS
  clear hS
  obtain ⟨i0, hi0, hz0, hz1, hz2⟩ := info_parts byte_info
  go_enter Tryz.func5, Tryz.ntmps5
  go_wp2_with (go_at_call 13; refine stop ?_)
  unfold Stop
  refine (encode_calls ex _ 0 S w ⟨none, 0, 0, none, 0, 0, rfl, RowI.nil, Row8.nil, by unfold Wf Is64 ex bare; dsimp only; omega⟩ (Nat.zero_le _) HS.out).mono ?_
  have hby : bytesOf ex = sealB [1, 1, 2, 0, 3] := by unfold bytesOf; rw [ex_may, if_pos rfl, ex_enc]
  have hbl : (bytesOf ex).length = 9 := by rw [hby]; rfl
  unfold RetEnc
  rw [hbl, ex_may, if_pos rfl]
  rintro e w1 ⟨a1, c1, rfl, hr1, hb1⟩
  have hdx : decX (bytesOf ex) = .ok ex := by unfold bytesOf; rw [ex_may, if_pos rfl]; exact dec_enc ex_may
  have HR1 := hid hr1
  have HS1 := hid (HS.out.later hb1)
  have HB1 := hid hb1
  have HDX := hid hdx
  have HBY := hid hby
  clear hr1 hb1 hdx hby hbl HS
  go_wp2_with (go_at_call 6; refine stop ?_)
  unfold Stop
  refine (decode_calls a1 9 c1 S (bytesOf ex) w1 HR1.out HS1.out (by omega)).mono ?_
  rw [HDX.out]
  unfold RetDec
  rw [show noOf (errOf (.ok ex : Except (Int × Nat) Frame)) = 0 from rfl]
  rintro e w2 ⟨cs, rfl, hfv, hb2⟩
  obtain ⟨b1, b2, b3, b4, b5, b6, ecs, _⟩ := hfv
  have hcs : cs = cells ex (.slice b1 b2 b3) (.slice b4 b5 b6) := by
    injection ecs with ecs
    exact congrArg Array.toList ecs
  subst hcs
  have HR2 := hid (HR1.out.later hb2)
  have HS2 := hid (HS1.out.later hb2)
  have HB2 := hid (HB1.out.trans (hb2.mono HB1.out.size))
  clear hb2 HS1 HB1 HR1 ecs
  dsimp only
  iterate 10 go_step
  refine wpList_alloc_any rfl _ rfl zeros frame_zero ?_
  intro p V nb
  refine wpList_store_ob rfl _ _ _ rfl p zeros _ nb.ob rfl rfl rfl frame_info (by intro u hu; simp [cells, ex, bare] at hu; rcases hu with rfl | rfl | rfl | rfl | rfl | rfl | rfl | rfl | rfl <;> rfl) ?_
  intro V1 hbV hsV obV
  have hbb : Below w2.heap.size w2 V1 := nb.below.trans (hbV.below (Nat.le_of_eq nb.is_.symm) (by have := nb.size; have := nb.is_; omega))
  have HRV := hid (HR2.out.later hbb)
  have HSV := hid (HS2.out.later hbb)
  have HOV := hid obV
  have HBV := hid (HB2.out.trans (hbb.mono HB2.out.size))
  clear nb hbV hsV obV hbb HR2 HS2 HB2
  go_wp2_with (go_at_call 8; refine stop ?_)
  unfold Stop
  refine (why_calls none 0 0 S [] V1 Row8.nil HSV.out (by omega)).mono ?_
  rw [show decX [] = .error (2, 0) from rfl, show noOf (errOf (.error (2, 0))) = 2 from rfl, show ((atOf (errOf (.error (2, 0))) : Nat) : Int) = 0 from rfl]
  rintro e w3 ⟨rfl, hb3⟩
  have HR3 := hid (HRV.out.later hb3)
  have o3 : Ob w3 p _ _ := HOV.out.below hb3 HOV.out.lt
  have HB3 := hid (HBV.out.trans (hb3.mono HBV.out.size))
  have k3 := o3.cell (i := 3) (v := .int .i64 3) rfl
  have k2 := o3.cell (i := 2) (v := .int .i64 2) rfl
  have r1 : ∀ u : World, (Instr.sliceAt 22 (.slice a1 9 c1) none (some (.int .i64 5)) none).run Tryz.prog u = .ok (.slice (cutA a1 c1 0) 5 c1) u := fun u => run_cut_h (P := Tryz.prog) Tryz.underlying22 hi0 hz1 u a1 9 c1 5 (by have := HR3.out.room; omega)
  have hcut := HR3.out.cut (lo := 0) (hi := 5) (by omega) (by omega)
  rw [List.drop_zero, HBY.out, show (sealB [1, 1, 2, 0, 3]).take 5 = [1, 1, 2, 0, 3] by decide] at hcut
  have hcut2 : Row8 w3 w3.heap.size (cutA a1 c1 0) 5 c1 [1, 1, 2, 0, 3] := hcut
  have hv1 := conv_str (P := Tryz.prog) hcut2 Tryz.underlying22 Tryz.underlying5 Tryz.underlying9
  have hq : (str [1, 1, 2, 0, 3]).toList = [1, 1, 2, 0, 3] := by simp [str, ByteArray.toList_eq]
  clear hb3 o3 hcut hcut2 HRV HOV HBV HSV
  go_wp2
  go_ret
  exact ⟨rfl, HB3.out⟩
end Go.Proofs.YtfpgdimgffamoaaGreatDoor.Fr
