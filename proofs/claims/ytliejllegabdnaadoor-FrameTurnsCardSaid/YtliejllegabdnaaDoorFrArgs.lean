/- Frames as arguments of a law. -/
import Derived.Test.YtliejllegabdnaaDoorFrVal
import Derived.Test.YtliejllegabdnaaDoorSmA
namespace Go.Proofs.YtliejllegabdnaaDoor.Fr
open Go.ChangeShapes Go.WideShapes Go.ChangeAt Go.RowKit Go.Proofs.YtliejllegabdnaaDoor.Sm Go.Proofs.YtliejllegabdnaaDoor.Wr
set_option maxRecDepth 100000
theorem frame_of_trod {H : Type} {enc : TypeId × Value → H} {W : World} {r : Reach} {b0 : Nat} {v : Value} {d : DataW H} {p : List MemPlace} (hv : Value.okWide Tryd.prog W r b0 25 v) (h : DataW.Trod enc Tryd.prog W 0 (fun _ => true) true 25 v d p) : ∃ f, FrV W W.heap.size v f :=
  FrV.of_trod (ti := 3) (tl := 2) (tb := 4) (ta := 22) (ty := 23) (e := 3) (e' := 5) Tryd.underlying25 (by kernel_rfl) (by kernel_rfl) (by kernel_rfl) Tryd.underlying3 Tryd.underlying2 Tryd.underlying4 Tryd.underlying22 Tryd.underlying3 (by kernel_rfl) Tryd.underlying23 Tryd.underlying5 (by kernel_rfl) hv h
end Go.Proofs.YtliejllegabdnaaDoor.Fr
