/- What bytes.Clone returns. -/
import Derived.Test.YtfpgdimgffamoaaGreatDoorSmA
namespace Go.Proofs.YtfpgdimgffamoaaGreatDoor.Sm
open Go.ChangeShapes Go.WideShapes Go.ChangeAt Go.RowKit
set_option maxHeartbeats 400000

theorem clone_calls (a : Option Addr) (n c : Nat) (l : List UInt8) (w : World) (hr : Row8 w w.heap.size a n c l) (hn : n ≤ 1000000000) :
    Calls Tryz.prog 37 #[.slice a n c] w fun e w' => RetMade w 5 l e w' := by
  obtain ⟨i0, hi0, hz0, hz1, hz2⟩ := info_parts byte_info
  cases a with
  | none =>
    have h1 := hr.none_ rfl
    have h2 : n = 0 := by have := hr.room; omega
    subst h1 h2
    have h3 : l = [] := List.eq_nil_of_length_eq_zero hr.len
    subst h3
    clear hr
    have hq := fun w => Lib.run_eql_slice_nil (P := Tryz.prog) w 22 5 none 0 0 0 0 Tryz.underlying22
    go_enter Tryz.func37, Tryz.ntmps37
    go_wp2
    go_ret
    exact ⟨_, rfl, World.ownsRow_nil _ _ _ _, Below.refl _ _⟩
  | some x =>
    have HR := hid hr
    clear hr
    have hq := fun w => Lib.run_eql_slice_nil (P := Tryz.prog) w 22 5 (some x) n c 0 0 Tryz.underlying22
    go_enter Tryz.func37, Tryz.ntmps37
    go_wp2_with (at_builtin; refine wpList_append_row _ rfl _ _ _ rfl w.heap.size 5 i0 _ Tryz.underlying22 hi0 hz0 hz1 hz2 rfl _ [] rfl (World.ownsRow_made w #[] 0 (Nat.le_refl _) (by decide) rfl) _ (some x) n c l rfl ((HR.out.below ((Below.refl _ _).alloc (Nat.le_refl _) _))) (by simp; omega) (by simp) ?_; intro v1 w1 hown hgrow hlt)
    go_ret
    exact ⟨_, rfl, hown, ((Below.refl _ _).alloc (Nat.le_refl _) _).grown hgrow (by simp) hlt⟩
end Go.Proofs.YtfpgdimgffamoaaGreatDoor.Sm
