/- A frame's fields in this program's memory. -/
import Derived.Test.YtfpgdimgffamoaaGreatDoorSmE
import Derived.Test.YtfpgdimgffamoaaGreatDoorSmA
namespace Go.Proofs.YtfpgdimgffamoaaGreatDoor.Fr
open Go.ChangeShapes Go.WideShapes Go.ChangeAt Go.RowKit Go.Proofs.YtfpgdimgffamoaaGreatDoor.Sm
set_option maxHeartbeats 400000

theorem fieldAt0 : FieldAt Tryz.prog 26 0 := fun g u => by kernel_rfl
theorem fieldAt1 : FieldAt Tryz.prog 26 1 := fun g u => by kernel_rfl
theorem fieldAt2 : FieldAt Tryz.prog 26 2 := fun g u => by kernel_rfl
theorem fieldAt3 : FieldAt Tryz.prog 26 3 := fun g u => by kernel_rfl
theorem fieldAt4 : FieldAt Tryz.prog 26 4 := fun g u => by kernel_rfl
theorem fieldAt5 : FieldAt Tryz.prog 26 5 := fun g u => by kernel_rfl
theorem fieldAt6 : FieldAt Tryz.prog 26 6 := fun g u => by kernel_rfl
theorem fieldAt7 : FieldAt Tryz.prog 26 7 := fun g u => by kernel_rfl
theorem fieldAt8 : FieldAt Tryz.prog 26 8 := fun g u => by kernel_rfl
theorem fieldAt9 : FieldAt Tryz.prog 26 9 := fun g u => by kernel_rfl
theorem fieldAt10 : FieldAt Tryz.prog 26 10 := fun g u => by kernel_rfl
theorem fieldAt11 : FieldAt Tryz.prog 26 11 := fun g u => by kernel_rfl
theorem fieldAt12 : FieldAt Tryz.prog 26 12 := fun g u => by kernel_rfl
theorem fieldAt13 : FieldAt Tryz.prog 26 13 := fun g u => by kernel_rfl
theorem loads_one {t : TypeId} {d : TypeDesc} (hu : Tryz.prog.underlying t = some d) (hd : d.isRow = false) : LoadsOne Tryz.prog t := by
  intro a v u h
  have hagg : (isAgg t).run Tryz.prog u = .ok false u := by
    unfold isAgg
    rw [Sem.run_bind, run_underlying hu u]
    cases d <;> simp_all
  simp [Instr.loadAt, Instr.sureAddr, loadVar, hagg, h]
end Go.Proofs.YtfpgdimgffamoaaGreatDoor.Fr
