/- What sum.Open returns: the bytes ahead of the last four, and true, where these are their sum; else nothing, and false. -/
import Derived.Test.YtfpgdimgffamoaaGreatDoorSm
import Derived.Test.YtfpgdimgffamoaaGreatDoorSmClone
import Derived.RegionTactic
import Derived.ChangeAlike
import Derived.Deep.QuietTactic
import Derived.BigQuiet
import Derived.Deep.Draws
import Derived.Deep.RegionWith
namespace Go.Proofs.YtfpgdimgffamoaaGreatDoor.Sm
open Go.ChangeShapes Go.WideShapes Go.ChangeAt Go.RowKit
set_option maxHeartbeats 400000
set_option maxRecDepth 100000

theorem open_calls (a : Option Addr) (n c : Nat) (l : List UInt8) (w : World) (hr : Row8 w w.heap.size a n c l) (hn : n ≤ 1000000) :
    Calls Tryz.prog 23 #[.slice a n c] w fun e w' => RetOpen w 5 l e w' := by
  have HR := hid hr
  have hc := hr.cap
  have hnc := hr.room
  unfold maxLen at hc
  have HL := hid hr.len
  clear hr
  by_cases h4 : n < 4
  · go_enter Tryz.func23, Tryz.ntmps23
    go_wp2
    go_ret2
    have hs : isSealed l = false := isSealed_short (by rw [HL.out]; exact h4)
    refine ⟨.slice none 0 0, by rw [hs]; rfl, ?_⟩
    rw [inner_no hs]
    exact ⟨World.ownsRow_nil _ _ _ _, Below.refl _ _⟩
  · obtain ⟨b, off, rfl, hb, hcell⟩ := HR.out.cells (by omega)
    have HC := hid hcell
    clear hcell
    obtain ⟨k, rfl⟩ : ∃ k, n = k + 4 := ⟨n - 4, by omega⟩
    have HI := hid (HR.out.take (k := k) (by omega))
    have HT : Hid (Row8 w w.heap.size (some ⟨b, off + k, none⟩) 4 (c - k) (l.drop k)) := by
      have h := HR.out.drop (k := k) (by omega)
      rw [Nat.add_sub_cancel_left] at h
      exact h
    have hs := isSealed_num HL.out
    by_cases hd : (of (l.take k)).toNat = num4 (l.drop k)
    · have hs' := hid (hs.trans (by simp [hd]) : isSealed l = true)
      clear hs
      have ht : (((of (l.take k)).toNat : Int) != (num4 (l.drop k) : Int)) = false := by rw [hd]; simp
      clear hd
      go_enter Tryz.func23, Tryz.ntmps23
      go_wp2
      go_quiet (fail)
      go_wp2_with (first | (go_at_call 35; refine (of_calls _ k c (l.take k) _ _ (HI.out.drewN _)).mono ?_; rintro e w' ⟨rfl, rfl⟩) | (go_at_call 36; refine (number_calls _ 4 (c - k) (l.drop k) _ _ (HT.out.drewN _)).mono ?_; rintro e w' ⟨rfl, rfl⟩) | (go_at_call 37; refine (clone_calls _ k c (l.take k) _ (HI.out.drewN _) (by omega)).mono ?_; rintro e w' ⟨v, rfl, hown, hbel⟩))
      go_ret2
      refine ⟨v, by rw [hs'.out]; rfl, ?_⟩
      rw [inner_yes hs'.out, HL.out, Nat.add_sub_cancel]
      exact ⟨hown, below_from hbel⟩
    · have hs' := hid (hs.trans (by simp [hd]) : isSealed l = false)
      clear hs
      have ht : (((of (l.take k)).toNat : Int) != (num4 (l.drop k) : Int)) = true := by simp; omega
      clear hd
      go_enter Tryz.func23, Tryz.ntmps23
      go_wp2
      go_quiet (fail)
      go_wp2_with (first | (go_at_call 35; refine (of_calls _ k c (l.take k) _ _ (HI.out.drewN _)).mono ?_; rintro e w' ⟨rfl, rfl⟩) | (go_at_call 36; refine (number_calls _ 4 (c - k) (l.drop k) _ _ (HT.out.drewN _)).mono ?_; rintro e w' ⟨rfl, rfl⟩))
      go_ret2
      refine ⟨.slice none 0 0, by rw [hs'.out]; rfl, ?_⟩
      rw [inner_no hs'.out]
      exact ⟨World.ownsRow_nil _ _ _ _, below_drewN (Below.refl _ _) _⟩
end Go.Proofs.YtfpgdimgffamoaaGreatDoor.Sm
