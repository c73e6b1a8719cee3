/- What the document's own Open returns. -/
import Derived.Test.YtfpgdimgffamoaaGreatDoorSmMadeR
import Derived.RegionTactic
import Derived.ChangeAlike
import Derived.Deep.QuietTactic
import Derived.BigQuiet
import Derived.Deep.Draws
import Derived.Deep.RegionWith
namespace Go.Proofs.YtfpgdimgffamoaaGreatDoor.Sm
open Go.ChangeShapes Go.WideShapes Go.ChangeAt Go.RowKit
set_option maxHeartbeats 400000
set_option maxRecDepth 100000

theorem openR_calls (a : Option Addr) (n c : Nat) (l : List UInt8) (w : World) (hr : Row8 w w.heap.size a n c l) (hn : n ≤ 1000000) :
    Calls Tryz.prog 26 #[.slice a n c] w fun e w' => RetOpen w 5 l e w' := by
  have HR := hid hr
  have hc := hr.cap
  have hnc := hr.room
  unfold maxLen at hc
  have HL := hid hr.len
  clear hr
  by_cases h4 : n < 4
  · go_enter Tryz.func26, Tryz.ntmps26
    go_wp2
    go_ret2
    have hs : isSealed l = false := isSealed_short (by rw [HL.out]; exact h4)
    refine ⟨.slice none 0 0, by rw [hs]; rfl, ?_⟩
    rw [inner_no hs]
    exact ⟨World.ownsRow_nil _ _ _ _, Below.refl _ _⟩
  · obtain ⟨b, off, rfl, hb, hcell⟩ := HR.out.cells (by omega)
    clear hcell
    obtain ⟨k, rfl⟩ : ∃ k, n = k + 4 := ⟨n - 4, by omega⟩
    have HI := hid (HR.out.take (k := k) (by omega))
    have hs := isSealed_whole HL.out
    have hv0 := conv_str (HR.out.drew) Tryz.underlying22 Tryz.underlying5 Tryz.underlying9
    by_cases hd : sealB (l.take k) = l
    · have hs' := hid (hs.trans (by simp [hd]) : isSealed l = true)
      clear hs
      have ht : ((str (sealB (l.take k))).toList == (str l).toList) = true := by rw [str_eq]; simp [hd]
      clear hd
      go_enter Tryz.func26, Tryz.ntmps26
      go_wp2
      go_region_with (go_at_call 12; refine (sealR_calls _ k c (l.take k) _ (HI.out.drew) (by omega)).mono ?_; rintro e w1 ⟨v1, rfl, hm1⟩; obtain ⟨a1, c1, rfl, hr1, hb1⟩ := hm1.slice; have hv1 := conv_str hr1 Tryz.underlying22 Tryz.underlying5 Tryz.underlying9; have hv2 := conv_str (HR.out.drew.below hb1) Tryz.underlying22 Tryz.underlying5 Tryz.underlying9)
      all_goals
        clear hv0 hv1 hv2
        go_wp2_with (go_at_call 20; refine (copyR_calls _ k c (l.take k) _ (HI.out.drew.later hb1) (by omega)).mono ?_; rintro e w2 ⟨v, rfl, hown, hbel⟩)
        go_ret2
        refine ⟨v, by rw [hs'.out]; rfl, ?_⟩
        rw [inner_yes hs'.out, HL.out, Nat.add_sub_cancel]
        exact made_later (below_dr hb1) ⟨hown, hbel⟩
    · have hs' := hid (hs.trans (by simp [hd]) : isSealed l = false)
      clear hs
      have ht : ((str (sealB (l.take k))).toList == (str l).toList) = false := by rw [str_eq]; simp [hd]
      clear hd
      go_enter Tryz.func26, Tryz.ntmps26
      go_wp2
      go_region_with (go_at_call 12; refine (sealR_calls _ k c (l.take k) _ (HI.out.drew) (by omega)).mono ?_; rintro e w1 ⟨v1, rfl, hm1⟩; obtain ⟨a1, c1, rfl, hr1, hb1⟩ := hm1.slice; have hv1 := conv_str hr1 Tryz.underlying22 Tryz.underlying5 Tryz.underlying9; have hv2 := conv_str (HR.out.drew.below hb1) Tryz.underlying22 Tryz.underlying5 Tryz.underlying9)
      all_goals
        clear hv0 hv1 hv2
        go_wp2
        go_ret2
        refine ⟨.slice none 0 0, by rw [hs'.out]; rfl, ?_⟩
        rw [inner_no hs'.out]
        exact ⟨World.ownsRow_nil _ _ _ _, below_dr hb1⟩
end Go.Proofs.YtfpgdimgffamoaaGreatDoor.Sm
