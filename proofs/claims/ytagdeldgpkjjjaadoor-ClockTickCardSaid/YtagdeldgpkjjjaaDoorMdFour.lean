/- The networks that Made makes. -/
import Derived.Test.YtagdeldgpkjjjaaDoorMdThree
namespace Go.Proofs.YtagdeldgpkjjjaaDoor.Pl
open Go.RowKit Go.Proofs.YtagdeldgpkjjjaaDoor.Sm Go.Proofs.YtagdeldgpkjjjaaDoor.Dp
set_option maxHeartbeats 4000000
set_option maxRecDepth 100000
set_option linter.unusedVariables false
set_option linter.unusedSimpArgs false
/-- the network that Made makes of a number. -/
def madeC (n : Int) : Config :=
  let m := n % 65536
  let p := (1 + m % 4).toNat
  let lo := m / 1024 % 2
  let ca := (p : Int) * (lo + 1) + 2
  cfg1 (netOf p (m / 4 % 4)).1 (netOf p (m / 4 % 4)).2 (20000 + 1000 * (m / 16 % 8)) (20 * (m / 128 % 8)) (((p : Int) - 1) * (lo + 1) + 1 + m / 2048 % 4) lo (ca + m / 8192 % 2) ca
theorem mul_two {p lo : Int} (h0 : 0 ≤ lo) (h1 : lo < 2) : p * (lo + 1) = if lo = 0 then p else 2 * p := by
  split
  · rename_i h; subst h; omega
  · have : lo = 1 := by omega
    subst this; omega
theorem Made_pc (n : Int) : PC Tryd.prog [] 6 [I n] (· = D.r (Config.d (madeC n))) := by
  have h0 : 0 ≤ n % 65536 := Int.emod_nonneg _ (by decide)
  have h1 : n % 65536 < 65536 := Int.emod_lt_of_pos _ (by decide)
  have hlo := Int.emod_nonneg (n % 65536 / 1024) (show (2 : Int) ≠ 0 by decide)
  have hlo' := Int.emod_lt_of_pos (n % 65536 / 1024) (show (0 : Int) < 2 by decide)
  have f : ∀ (k : Int), 0 ≤ k → (n % 65536).fdiv k = n % 65536 / k := fun k hk => Int.fdiv_eq_ediv_of_nonneg _ hk
  refine made_pc0 n (n % 65536) (andI_16 n) (1 + n % 65536 % 4).toNat ?_ (by omega) (by omega) _ _ _ _ _ _ _ ?_ ?_ ?_ ?_ ?_ ?_ ?_
  · rw [andI_2, Ev.wrap_i64 (by omega) (by omega)]; omega
  · rw [andI_2, f 4 (by decide)]
  · rw [andI_3, f 16 (by decide), Ev.wrap_i64 (x := 1000 * _) (by omega) (by omega), Ev.wrap_i64 (by omega) (by omega)]
  · rw [andI_3, f 128 (by decide), Ev.wrap_i64 (by omega) (by omega)]
  · rw [andI_1, f 1024 (by decide)]
  · have := mul_two (p := ((1 + n % 65536 % 4).toNat : Int)) hlo hlo'
    rw [Ev.wrap_i64 (x := n % 65536 / 1024 % 2 + 1) (by omega) (by omega)]
    rw [Ev.wrap_i64 (x := _ * _) (by rw [this]; omega) (by rw [this]; omega)]
    exact Ev.wrap_i64 (by rw [this]; omega) (by rw [this]; omega)
  · have := mul_two (p := ((1 + n % 65536 % 4).toNat : Int) - 1) hlo hlo'
    rw [andI_2, f 2048 (by decide), Ev.wrap_i64 (x := n % 65536 / 1024 % 2 + 1) (by omega) (by omega), Ev.wrap_i64 (x := ((1 + n % 65536 % 4).toNat : Int) - 1) (by omega) (by omega)]
    rw [Ev.wrap_i64 (x := _ * _) (by rw [this]; omega) (by rw [this]; omega), Ev.wrap_i64 (x := _ * _ + 1) (by rw [this]; omega) (by rw [this]; omega)]
    exact Ev.wrap_i64 (by rw [this]; omega) (by rw [this]; omega)
  · have := mul_two (p := ((1 + n % 65536 % 4).toNat : Int)) hlo hlo'
    rw [andI_1, f 8192 (by decide)]
    exact Ev.wrap_i64 (by rw [this]; omega) (by rw [this]; omega)
theorem madeC_parts (n : Int) : (madeC n).parts = (netOf (1 + n % 65536 % 4).toNat (n % 65536 / 4 % 4)).1 := rfl
theorem madeC_links (n : Int) : (madeC n).links = (netOf (1 + n % 65536 % 4).toNat (n % 65536 / 4 % 4)).2 := rfl
theorem madeC_len (n : Int) : (madeC n).parts.length ≤ 4 ∧ 1 ≤ (madeC n).parts.length ∧ (madeC n).links.length ≤ 4 := by
  have h := netOf_len (1 + n % 65536 % 4).toNat (n % 65536 / 4 % 4) (by omega)
  rw [madeC_parts, madeC_links, h.1]
  omega
end Go.Proofs.YtagdeldgpkjjjaaDoor.Pl
