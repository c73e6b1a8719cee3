/- Frames as arguments of a law. -/
import Derived.Test.YtfpgdimgffamoaaGreatDoorFrVal
import Derived.Test.YtfpgdimgffamoaaGreatDoorSmA
namespace Go.Proofs.YtfpgdimgffamoaaGreatDoor.Fr
open Go.ChangeShapes Go.WideShapes Go.ChangeAt Go.RowKit Go.Proofs.YtfpgdimgffamoaaGreatDoor.Sm Go.Proofs.YtfpgdimgffamoaaGreatDoor.Wr
set_option maxRecDepth 100000
theorem frame_of_trod {H : Type} {enc : TypeId × Value → H} {W : World} {r : Reach} {b0 : Nat} {v : Value} {d : DataW H} {p : List MemPlace} (hv : Value.okWide Tryz.prog W r b0 26 v) (h : DataW.Trod enc Tryz.prog W 0 (fun _ => true) true 26 v d p) : ∃ f, FrV W W.heap.size v f :=
  FrV.of_trod (ti := 3) (tl := 2) (tb := 4) (ta := 24) (ty := 22) (e := 3) (e' := 5) Tryz.underlying26 (by kernel_rfl) (by kernel_rfl) (by kernel_rfl) Tryz.underlying3 Tryz.underlying2 Tryz.underlying4 Tryz.underlying24 Tryz.underlying3 (by kernel_rfl) Tryz.underlying22 Tryz.underlying5 (by kernel_rfl) hv h
end Go.Proofs.YtfpgdimgffamoaaGreatDoor.Fr
