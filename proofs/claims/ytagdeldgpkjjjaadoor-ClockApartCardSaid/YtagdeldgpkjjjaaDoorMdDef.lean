/- The networks that the document's own Made makes, as plain data; bits of whole numbers. -/
import Derived.Test.YtagdeldgpkjjjaaDoorHpGood
namespace Go.Proofs.YtagdeldgpkjjjaaDoor.Pl
open Go.RowKit Go.Proofs.YtagdeldgpkjjjaaDoor.Sm Go.Proofs.YtagdeldgpkjjjaaDoor.Dp
set_option maxHeartbeats 1000000
set_option linter.unusedVariables false
/-- a & b. -/
def andI (a b : Int) : Int := IntKind.i64.wrap ((BitVec.ofInt 64 a &&& BitVec.ofInt 64 b).toNat : Int)
theorem andI_mask (n : Int) (k : Nat) (hk : k ≤ 62) : andI n ((2 ^ k - 1 : Nat) : Int) = n % ((2 ^ k : Nat) : Int) := by
  have hp : 2 ^ k ≤ 2 ^ 62 := Nat.pow_le_pow_right (by omega) hk
  have h0 : 0 < 2 ^ k := Nat.two_pow_pos k
  unfold andI
  rw [BitVec.toNat_and, BitVec.toNat_ofInt, BitVec.toNat_ofInt]
  rw [show (((2 ^ k - 1 : Nat) : Int) % ((2 ^ 64 : Nat) : Int)).toNat = 2 ^ k - 1 by
    rw [← Int.natCast_emod, Int.toNat_natCast, Nat.mod_eq_of_lt (by omega)]]
  rw [Nat.and_two_pow_sub_one_eq_mod, Int.natCast_emod, Int.toNat_of_nonneg (Int.emod_nonneg _ (by decide)), Int.emod_emod_of_dvd n (Int.natCast_dvd_natCast.2 (Nat.pow_dvd_pow 2 (by omega)))]
  have h1 : 0 ≤ n % ((2 ^ k : Nat) : Int) := Int.emod_nonneg _ (by omega)
  have h2 : n % ((2 ^ k : Nat) : Int) < ((2 ^ k : Nat) : Int) := Int.emod_lt_of_pos _ (by omega)
  rw [Ev.wrap_i64 (by omega) (by omega)]
theorem andI_16 (n : Int) : andI n 65535 = n % 65536 := andI_mask n 16 (by omega)
theorem andI_1 (n : Int) : andI n 1 = n % 2 := andI_mask n 1 (by omega)
theorem andI_2 (n : Int) : andI n 3 = n % 4 := andI_mask n 2 (by omega)
theorem andI_3 (n : Int) : andI n 7 = n % 8 := andI_mask n 3 (by omega)
/-- how many ports a part has by the first n links. -/
def cntL (ls : List Link) (part : Int) : Nat → Int
  | 0 => 0
  | n + 1 => if (ls.getD n default).a = part ∨ (ls.getD n default).b = part then cntL ls part n + 2 else cntL ls part n
def portsI (ls : List Link) (part : Int) : Int := cntL ls part ls.length
theorem cntL_in (ls : List Link) (part : Int) : ∀ n : Nat, 0 ≤ cntL ls part n ∧ cntL ls part n ≤ 2 * (n : Int)
  | 0 => by simp [cntL]
  | n + 1 => by
    have := cntL_in ls part n
    unfold cntL
    split <;> omega
/-- a part gets at least as many nodes. -/
def bump (ps : List Part) (a : Nat) (x : Int) : List Part := ps.set a ⟨if x > (ps.getD a default).nodes then x else (ps.getD a default).nodes, (ps.getD a default).faults⟩
theorem bump_len (ps : List Part) (a : Nat) (x : Int) : (bump ps a x).length = ps.length := by simp [bump]
def joinL (ls : List Link) (a b : Nat) : Link := ⟨a, b, portsI ls a, portsI ls a + 1, portsI ls b, portsI ls b + 1⟩
def joinP (ps : List Part) (ls : List Link) (a b : Nat) : List Part := bump (bump ps a (portsI ls a + 6)) b (portsI ls b + 6)
def join (x : List Part × List Link) (a b : Nat) : List Part × List Link := (joinP x.1 x.2 a b, x.2 ++ [joinL x.2 a b])
/-- with i links. -/
def netN (p : Nat) (sh : Int) : Nat → List Part × List Link
  | 0 => (List.replicate p ⟨5, 1⟩, [])
  | i + 1 => join (netN p sh i) (if sh = 2 then 0 else i) (i + 1)
def netOf (p : Nat) (sh : Int) : List Part × List Link := if sh = 1 ∧ 2 < p then join (netN p sh (p - 1)) 0 (p - 1) else netN p sh (p - 1)
theorem netN_len (p : Nat) (sh : Int) : ∀ i, (netN p sh i).1.length = p ∧ (netN p sh i).2.length = i
  | 0 => by simp [netN]
  | i + 1 => by
    have := netN_len p sh i
    simp [netN, join, joinP, bump_len, this]
theorem netOf_len (p : Nat) (sh : Int) (hp : 1 ≤ p) : (netOf p sh).1.length = p ∧ (netOf p sh).2.length ≤ p := by
  have := netN_len p sh (p - 1)
  unfold netOf
  split
  · simp [join, joinP, bump_len, this]; omega
  · rw [this.1, this.2]; omega
end Go.Proofs.YtagdeldgpkjjjaaDoor.Pl
