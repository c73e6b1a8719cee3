/- A call that leaves the world as it was, in a region whose order is open. -/
import Derived.Test.YtliejllegabdnaaDoorSmMem
import Derived.Deep.QuietTactic
import Derived.BigQuiet
namespace Go.Proofs.YtliejllegabdnaaDoor.Sm
theorem quietly {P : Program} {f : FuncId} {args : Array Value} {w : World} {n : Nat} {v : Value}
    (h : Calls P f args (w.drewN n) fun e w' => e = .returned v ∧ w.drewN n = w') : Calls P f args (w.drewN n) fun e w'' => e = .returned v ∧ ∃ m, w'' = w.drewN m :=
  h.mono fun _ _ hh => ⟨hh.1, n, hh.2.symm⟩
end Go.Proofs.YtliejllegabdnaaDoor.Sm
