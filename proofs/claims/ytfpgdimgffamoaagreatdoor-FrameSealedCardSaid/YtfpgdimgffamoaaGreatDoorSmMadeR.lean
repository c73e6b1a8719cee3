/- What the document's own Seal returns. -/
import Derived.Test.YtfpgdimgffamoaaGreatDoorSmR
import Derived.Test.YtfpgdimgffamoaaGreatDoorSmCopyR
namespace Go.Proofs.YtfpgdimgffamoaaGreatDoor.Sm
open Go.ChangeShapes Go.WideShapes Go.ChangeAt Go.RowKit
set_option maxHeartbeats 400000

theorem sealR_calls (a : Option Addr) (n c : Nat) (l : List UInt8) (w : World) (hr : Row8 w w.heap.size a n c l) (hn : n ≤ 1000000) :
    Calls Tryz.prog 12 #[.slice a n c] w fun e w' => RetMade w 5 (sealB l) e w' := by
  obtain ⟨i0, hi0, hz0, hz1, hz2⟩ := info_parts byte_info
  have HR := hid hr
  clear hr
  go_enter Tryz.func12, Tryz.ntmps12
  go_wp2_with (first | (go_at_call 19; refine (ofR_calls a n c l _ _ HR.out).mono ?_; rintro e w' ⟨rfl, rfl⟩) | (go_at_call 20; refine (copyR_calls a n c l _ HR.out (by omega)).mono ?_; rintro e w2 ⟨v2, rfl, hown2, hb2⟩) | (at_builtin; refine stop ?_))
  unfold Stop
  refine wpList_append_row _ rfl _ _ _ rfl w.heap.size 5 i0 _ Tryz.underlying22 hi0 hz0 hz1 hz2 rfl v2 l rfl (hown2.alloc _) _ _ 4 4 (tail4 (of l)) rfl (Row8.lit w2 _ _ _ 4 rfl (by decide) (bytes_of (of l)).symm) (by have := HR.out.len; omega) (by have := hb2.size; simp; omega) ?_
  intro v3 w3 hown3 hgrow3 hlt3
  go_wp2
  go_ret
  exact ⟨_, rfl, hown3, (hb2.alloc hb2.size _).grown hgrow3 (by have := hb2.size; simp; omega) hlt3⟩
end Go.Proofs.YtfpgdimgffamoaaGreatDoor.Sm
