/- The laws' own num: an error's number as a plain one. -/
import Derived.Test.YtfpgdimgffamoaaGreatDoorSmV
import Derived.Test.YtfpgdimgffamoaaGreatDoorSmA
namespace Go.Proofs.YtfpgdimgffamoaaGreatDoor.Fr
open Go.RowKit Go.Proofs.YtfpgdimgffamoaaGreatDoor.Sm
set_option maxHeartbeats 4000000
set_option maxRecDepth 100000
theorem num_calls (n : Int) (w : World) : Calls Tryz.prog 11 #[.int .i64 n] w fun e w' => e = .returned (.int .i64 n) ∧ Below w.heap.size w w' := by
  refine Ev.enter (N := 4) Tryz.func11 rfl rfl (Nat.le_of_ble_eq_true rfl) fun act I0 => ?_
  refine Ev.seq_v I0 (by kernel_rfl) (by kernel_rfl) fun a1 I1 => ?_
  refine Ev.seq_v I1 (by kernel_rfl) (by kernel_rfl) fun a2 I2 => ?_
  refine wp_ret (Ev.ret1 I2 rfl (v := .int .i64 n) (by kernel_rfl) ⟨rfl, Below.refl _ _⟩)
end Go.Proofs.YtfpgdimgffamoaaGreatDoor.Fr
