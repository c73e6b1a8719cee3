/- A frame's fields in this program's memory. -/
import Derived.Test.YtliejllegabdnaaDoorSmE
import Derived.Test.YtliejllegabdnaaDoorSmA
namespace Go.Proofs.YtliejllegabdnaaDoor.Fr
open Go.ChangeShapes Go.WideShapes Go.ChangeAt Go.RowKit Go.Proofs.YtliejllegabdnaaDoor.Sm
set_option maxHeartbeats 400000

theorem fieldAt0 : FieldAt Tryd.prog 25 0 := fun g u => by kernel_rfl
theorem fieldAt1 : FieldAt Tryd.prog 25 1 := fun g u => by kernel_rfl
theorem fieldAt2 : FieldAt Tryd.prog 25 2 := fun g u => by kernel_rfl
theorem fieldAt3 : FieldAt Tryd.prog 25 3 := fun g u => by kernel_rfl
theorem fieldAt4 : FieldAt Tryd.prog 25 4 := fun g u => by kernel_rfl
theorem fieldAt5 : FieldAt Tryd.prog 25 5 := fun g u => by kernel_rfl
theorem fieldAt6 : FieldAt Tryd.prog 25 6 := fun g u => by kernel_rfl
theorem fieldAt7 : FieldAt Tryd.prog 25 7 := fun g u => by kernel_rfl
theorem fieldAt8 : FieldAt Tryd.prog 25 8 := fun g u => by kernel_rfl
theorem fieldAt9 : FieldAt Tryd.prog 25 9 := fun g u => by kernel_rfl
theorem fieldAt10 : FieldAt Tryd.prog 25 10 := fun g u => by kernel_rfl
theorem fieldAt11 : FieldAt Tryd.prog 25 11 := fun g u => by kernel_rfl
theorem fieldAt12 : FieldAt Tryd.prog 25 12 := fun g u => by kernel_rfl
theorem fieldAt13 : FieldAt Tryd.prog 25 13 := fun g u => by kernel_rfl
theorem loads_one {t : TypeId} {d : TypeDesc} (hu : Tryd.prog.underlying t = some d) (hd : d.isRow = false) : LoadsOne Tryd.prog t := by
  intro a v u h
  have hagg : (isAgg t).run Tryd.prog u = .ok false u := by
    unfold isAgg
    rw [Sem.run_bind, run_underlying hu u]
    cases d <;> simp_all
  simp [Instr.loadAt, Instr.sureAddr, loadVar, hagg, h]
end Go.Proofs.YtliejllegabdnaaDoor.Fr
