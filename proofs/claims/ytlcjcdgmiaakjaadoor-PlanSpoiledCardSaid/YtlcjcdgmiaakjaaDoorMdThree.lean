/- The document's own Made. -/
import Derived.Test.YtlcjcdgmiaakjaaDoorMdTwo
import Derived.Test.YtlcjcdgmiaakjaaDoorDpDiv
namespace Go.Proofs.YtlcjcdgmiaakjaaDoor.Pl
open Go.RowKit Go.Proofs.YtlcjcdgmiaakjaaDoor.Sm Go.Proofs.YtlcjcdgmiaakjaaDoor.Dp
set_option maxHeartbeats 4000000
set_option maxRecDepth 100000
set_option linter.unusedVariables false
set_option linter.unusedSimpArgs false
def cfg0 (ps : List Part) (ls : List Link) (cy dr ag lo li ca : Int) : Config := ⟨ps, ls, cy, 60, 100, 0, dr, 300000, ag, lo, li, ca, 12⟩
def cfg1 (ps : List Part) (ls : List Link) (cy dr ag lo li ca : Int) : Config := ⟨ps, ls, cy, 60, 100, 3 * edgeR (cfg0 ps ls cy dr ag lo li ca), dr, 300000, ag, lo, li, ca, 12⟩
theorem edge3 (c : Config) : IntKind.i64.wrap (3 * edgeR c) = 3 * edgeR c := by
  have := edgeR_in c
  exact Ev.wrap_i64 (by omega) (by omega)
theorem joinP_len (ps : List Part) (ls : List Link) (a b : Nat) : (joinP ps ls a b).length = ps.length := by simp [joinP, bump_len]
theorem netN_step {p : Nat} {sh : Int} {u : Nat} (h : 1 ≤ u) : netN p sh u = join (netN p sh (u - 1)) (if sh = 2 then 0 else u - 1) u := by
  obtain ⟨v, rfl⟩ : ∃ v, u = v + 1 := ⟨u - 1, by omega⟩
  rfl
end Go.Proofs.YtlcjcdgmiaakjaaDoor.Pl
