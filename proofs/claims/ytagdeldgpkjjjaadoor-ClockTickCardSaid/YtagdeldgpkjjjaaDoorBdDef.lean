/- Chapter 7: what is known of the packages' variables; its words as plain numbers. -/
import Derived.Test.YtagdeldgpkjjjaaDoorPlTwelve
import Derived.Test.YtagdeldgpkjjjaaDoorHpGood
namespace Go.Proofs.YtagdeldgpkjjjaaDoor.Pl
open Go.RowKit Go.Proofs.YtagdeldgpkjjjaaDoor.Sm Go.Proofs.YtagdeldgpkjjjaaDoor.Dp
/-- what is known of the errors of packages plan and bounds. -/
def errG3 (e : Nat → Addr) : List (Nat × List D) := (0, [sentD e 7]) :: errG2 e
theorem errG3_sub (e : Nat → Addr) : ∀ x ∈ errG2 e, x ∈ errG3 e := fun _ hx => List.mem_cons_of_mem _ hx
theorem errG3_range (e : Nat → Addr) : (0, [sentD e 7]) ∈ errG3 e := .head _
theorem errG3_type (e : Nat → Addr) : (8, [D.v (.iface 113 (.agg #[.pointer (some ⟨9, 53, none⟩)]))]) ∈ errG3 e := errG3_sub e _ (errG2_type e)
end Go.Proofs.YtagdeldgpkjjjaaDoor.Pl
