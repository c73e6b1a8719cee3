/- What frame.Encode returns. -/
import Derived.Test.YtfpgdimgffamoaaGreatDoorFrFields
import Derived.Test.YtfpgdimgffamoaaGreatDoorSmMade
namespace Go.Proofs.YtfpgdimgffamoaaGreatDoor.Fr
open Go.ChangeShapes Go.WideShapes Go.ChangeAt Go.RowKit Go.Proofs.YtfpgdimgffamoaaGreatDoor.Sm Go.Proofs.YtfpgdimgffamoaaGreatDoor.Wr
set_option maxHeartbeats 4000000
set_option maxRecDepth 100000

/-- the bytes of a valid frame. -/
def bytesOf (f : Frame) : List UInt8 := if mayB f = true then sealB (enc f) else []
def RetEnc (w : World) (f : Frame) (e : Ending) (w' : World) : Prop :=
  ∃ a c, e = .returned (.tuple #[.slice a (bytesOf f).length c, .int .i64 (if mayB f = true then 0 else 1)]) ∧ Row8 w' w'.heap.size a (bytesOf f).length c (bytesOf f) ∧ Below w.heap.size w w'
theorem encode_calls (f : Frame) (v : Value) (B : Nat) (S : Sn) (w : World) (hf : FrV w B v f) (hB : B ≤ w.heap.size) (hS : Sents w w.heap.size S) :
    Calls Tryz.prog 13 #[v] w fun e w' => RetEnc w f e w' := by
  have HF := hid (hf.more hB)
  have HS := hid hS
  obtain ⟨a, n, c, a', n', c', ev, _⟩ := id hf
  have HV := hid ev
  clear hf hS ev hB
  go_enter Tryz.func13, Tryz.ntmps13
  iterate 3 go_step
  refine wpList_box_any rfl _ _ rfl _ HV.out ?_
  intro p W n0
  have HO := hid n0.ob
  have HBW := hid n0.below
  have HF1 := hid (HF.out.later n0.below)
  have HS1 := hid (HS.out.later n0.below)
  clear n0 HF HS
  iterate 11 go_step
  refine wpList_load_ob rfl _ _ rfl p _ HO.out rfl Tryz.underlying26 rfl frame_info ?_
  rw [← HV.out]
  go_wp2_with (go_at_call 21; refine stop ?_)
  unfold Stop
  refine (fields_calls f v _ S W HF1.out (Nat.le_refl _) HS1.out).mono ?_
  rintro e w1 ⟨v1, rfl, hb1, h1, h2⟩
  have HB1 := hid (HBW.out.trans (hb1.mono HBW.out.size))
  clear hb1
  cases hm : mayB f with
  | false =>
    have hb : bytesOf f = [] := by unfold bytesOf; rw [hm]; rfl
    have HMF := hid hm
    have HBY := hid hb
    obtain rfl := h2 hm
    clear hm hb h1 h2
    go_wp2
    go_ret2
    refine ⟨none, 0, ?_, ?_, HB1.out⟩
    · rw [HBY.out, HMF.out]; rfl
    · rw [HBY.out]; exact Row8.nil
  | true =>
    have hb : bytesOf f = sealB (enc f) := by unfold bytesOf; rw [hm]; rfl
    have HMF := hid hm
    have HBY := hid hb
    obtain ⟨a1, c1, rfl, hr⟩ := h1 hm
    have hlen := write_len (may_write hm)
    obtain ⟨N, hN⟩ : ∃ N, (enc f).length = N := ⟨_, rfl⟩
    rw [hN] at hr hlen ⊢
    have HR := hid hr
    clear hm hb h1 h2 hr hN
    go_wp2_with (go_at_call 22; refine stop ?_)
    unfold Stop
    refine (seal_calls a1 N c1 (enc f) w1 HR.out (by omega)).mono ?_
    rintro e w2 ⟨v2, rfl, hm2⟩
    obtain ⟨a2, c2, rfl, hr2, hb2⟩ := hm2.slice
    obtain ⟨M, hM⟩ : ∃ M, (sealB (enc f)).length = M := ⟨_, rfl⟩
    rw [hM] at hr2 ⊢
    have HR2 := hid hr2
    have HB2 := hid (HB1.out.trans (hb2.mono HB1.out.size))
    have HMM := hid hM
    clear hm2 hr2 hb2 hM
    go_wp2
    go_ret2
    refine ⟨a2, c2, ?_, ?_, HB2.out⟩
    · rw [HBY.out, HMF.out, HMM.out]; rfl
    · rw [HBY.out, HMM.out]; exact HR2.out
end Go.Proofs.YtfpgdimgffamoaaGreatDoor.Fr
