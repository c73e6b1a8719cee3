/- What sum.Seal returns. -/
import Derived.Test.YtfpgdimgffamoaaGreatDoorSm
namespace Go.Proofs.YtfpgdimgffamoaaGreatDoor.Sm
open Go.ChangeShapes Go.WideShapes Go.ChangeAt Go.RowKit
set_option maxHeartbeats 400000

theorem seal_calls (a : Option Addr) (n c : Nat) (l : List UInt8) (w : World) (hr : Row8 w w.heap.size a n c l) (hn : n ≤ 1000000) :
    Calls Tryz.prog 22 #[.slice a n c] w fun e w' => RetMade w 5 (sealB l) e w' := by
  obtain ⟨i0, hi0, hz0, hz1, hz2⟩ := info_parts byte_info
  have HR := hid hr
  clear hr
  go_enter Tryz.func22, Tryz.ntmps22
  go_wp2_with (first | (go_at_call 35; refine (of_calls a n c l _ _ HR.out).mono ?_; rintro e w' ⟨rfl, rfl⟩) | (at_make; refine wpList_make_own _ rfl _ _ _ rfl w.heap.size 5 i0 _ 1 Tryz.underlying22 hi0 hz0 hz1 _ _ _ (n + 4) rfl rfl (by omega) (by rw [hz2]; omega) (by unfold maxLen; omega) (Nat.le_refl _) ?_; intro w1 hown1 hgrow1; have hb1 : Below w.heap.size w w1 := (Below.refl _ _).grown hgrow1 (Nat.le_refl _) (fun k hk => by cases hk)) | (at_builtin; refine wpList_append_row _ rfl (.tmp 11) (.tmp 12) _ rfl w.heap.size 5 i0 _ Tryz.underlying22 hi0 hz0 hz1 hz2 rfl _ [] rfl hown1 _ a n c l rfl (HR.out.below hb1) (by simp; omega) hb1.size ?_; intro v2 w2 hown2 hgrow2 hlt2; have hb2 : Below w.heap.size w w2 := hb1.grown hgrow2 hb1.size hlt2) | (at_builtin; refine stop ?_))
  unfold Stop
  refine wpList_append_row _ rfl (.tmp 14) (.tmp 26) _ rfl w.heap.size 5 i0 _ Tryz.underlying22 hi0 hz0 hz1 hz2 rfl v2 ([] ++ l) rfl (hown2.alloc _) _ _ 4 4 (tail4 (of l)) rfl (Row8.lit w2 _ _ _ 4 rfl (by decide) (bytes_of (of l)).symm) (by simp; have := HR.out.len; omega) (by have := hb2.size; simp; omega) ?_
  intro v3 w3 hown3 hgrow3 hlt3
  go_wp2
  go_ret
  exact ⟨_, rfl, hown3, (hb2.alloc hb2.size _).grown hgrow3 (by have := hb2.size; simp; omega) hlt3⟩
end Go.Proofs.YtfpgdimgffamoaaGreatDoor.Sm
