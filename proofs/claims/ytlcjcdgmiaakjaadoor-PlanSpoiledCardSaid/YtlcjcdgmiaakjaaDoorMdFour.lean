/- The networks that Made makes. -/
import Derived.Test.YtlcjcdgmiaakjaaDoorMdThree
namespace Go.Proofs.YtlcjcdgmiaakjaaDoor.Pl
open Go.RowKit Go.Proofs.YtlcjcdgmiaakjaaDoor.Sm Go.Proofs.YtlcjcdgmiaakjaaDoor.Dp
set_option maxHeartbeats 4000000
set_option maxRecDepth 100000
set_option linter.unusedVariables false
set_option linter.unusedSimpArgs false
/-- the network that Made makes of a number. -/
def madeC (n : Int) : Config :=
  let m := n % 65536
  let p := (1 + m % 4).toNat
  let lo := m / 1024 % 2
  let ca := (p : Int) * (lo + 1) + 2
  cfg1 (netOf p (m / 4 % 4)).1 (netOf p (m / 4 % 4)).2 (20000 + 1000 * (m / 16 % 8)) (20 * (m / 128 % 8)) (((p : Int) - 1) * (lo + 1) + 1 + m / 2048 % 4) lo (ca + m / 8192 % 2) ca
theorem mul_two {p lo : Int} (h0 : 0 ≤ lo) (h1 : lo < 2) : p * (lo + 1) = if lo = 0 then p else 2 * p := by
  split
  · rename_i h; subst h; omega
  · have : lo = 1 := by omega
    subst this; omega
theorem madeC_parts (n : Int) : (madeC n).parts = (netOf (1 + n % 65536 % 4).toNat (n % 65536 / 4 % 4)).1 := rfl
theorem madeC_links (n : Int) : (madeC n).links = (netOf (1 + n % 65536 % 4).toNat (n % 65536 / 4 % 4)).2 := rfl
theorem madeC_len (n : Int) : (madeC n).parts.length ≤ 4 ∧ 1 ≤ (madeC n).parts.length ∧ (madeC n).links.length ≤ 4 := by
  have h := netOf_len (1 + n % 65536 % 4).toNat (n % 65536 / 4 % 4) (by omega)
  rw [madeC_parts, madeC_links, h.1]
  omega
end Go.Proofs.YtlcjcdgmiaakjaaDoor.Pl
