/- Bytes of which bits were turned: plain mathematics. No function of the program in it. -/
import Derived.Test.YtliejllegabdnaaDoorSmA
import Derived.Test.YtliejllegabdnaaDoorSmOpen
namespace Go.Proofs.YtliejllegabdnaaDoor.Sm
open Go.ChangeShapes Go.WideShapes Go.ChangeAt Go.RowKit
set_option maxHeartbeats 1000000
set_option linter.unusedVariables false

theorem bit_test (row : BitVec 32) (k : Nat) : (bits .and .u32 ((row.toNat : Int) / 2 ^ k) 1 == 1) = row.toNat.testBit k := by
  have e : ((row.toNat : Int) / 2 ^ k) = ((row.toNat / 2 ^ k : Nat) : Int) := by simp
  have hl : row.toNat / 2 ^ k < 4294967296 := Nat.lt_of_le_of_lt (Nat.div_le_self _ _) row.isLt
  rw [e, show (1 : Int) = ((1 : Nat) : Int) from rfl, u32_and_nat _ 1 hl (by omega), Nat.and_one_is_mod, Nat.testBit_eq_decide_div_mod_eq]
  rw [Bool.eq_iff_iff]
  simp only [beq_iff_eq, decide_eq_true_eq]
  omega

theorem mask_xor (d : UInt8) (m : Nat) : bits .xor .u8 (d.toNat : Int) (128 / 2 ^ m) = ((d ^^^ UInt8.ofNat (128 / 2 ^ m)).toNat : Int) := by
  have e : ((128 : Int) / 2 ^ m) = ((128 / 2 ^ m : Nat) : Int) := by simp
  have hl : 128 / 2 ^ m < 256 := Nat.lt_of_le_of_lt (Nat.div_le_self _ _) (by omega)
  rw [e, u8_xor_nat _ _ d.toNat_lt hl, UInt8.toNat_xor, UInt8.toNat_ofNat', Nat.mod_eq_of_lt hl]
theorem cells8_flip (l : List UInt8) (q : Nat) (d : UInt8) (h : l[q / 8]? = some d) : (cells8 l).set (q / 8) (.int .u8 (bits .xor .u8 (d.toNat : Int) (128 / 2 ^ (q % 8)))) = cells8 (flip1 l q) := by
  rw [mask_xor]
  unfold flip1 cells8
  rw [List.map_set, List.getD_eq_getElem?_getD, h]
  rfl
theorem turnTo_no {l : List UInt8} {p row k : Nat} (h : row.testBit k = false) : turnTo l p row (k + 1) = turnTo l p row k := by
  rw [turnTo, if_neg (by simp [h])]
theorem turnTo_yes {l : List UInt8} {p row k : Nat} (h : row.testBit k = true) (hp : p + k < 8 * l.length) : turnTo l p row (k + 1) = flip1 (turnTo l p row k) (p + k) := by
  rw [turnTo, if_pos ⟨hp, h⟩]

/-- Sealed bytes that were turned are sealed just where they are what they were. -/
theorem isSealed_turned (l : List UInt8) (p row : Nat) : isSealed (turnTo (sealB l) p row 32) = decide (turnTo (sealB l) p row 32 = sealB l) := by
  have hlen : (turnTo (sealB l) p row 32).length = l.length + 4 := by rw [turnTo_length]; unfold sealB; rw [List.length_append]; rfl
  have hget : ∀ q, (q < p ∨ p + 32 ≤ q) → (allBits (turnTo (sealB l) p row 32))[q]? = (allBits (sealB l))[q]? := fun q hq => turnTo_get (sealB l) p row q 32 (by omega) hq
  generalize turnTo (sealB l) p row 32 = d at *
  unfold isSealed
  rw [hlen, Nat.add_sub_cancel, decide_eq_decide]
  have hb := sealed_burst l (d.take l.length) (d.drop l.length) (by simp [hlen]) (by simp [hlen]) p (fun q hq => by rw [List.take_append_drop]; exact hget q hq)
  rw [List.take_append_drop] at hb
  exact ⟨fun h => hb.1 h.2, fun h => ⟨by omega, hb.2 h⟩⟩
theorem run_shr32 {P : Program} {t : TypeId} {w : World} (x : Int) (i : Nat) (h : i < 32) : (binOp .shr t (.int .u32 x) (.int .u64 (i : Int))).run P w = .ok (.int .u32 (x / 2 ^ i)) w := by
  simp [go_sem]
theorem run_shr8 {P : Program} {t : TypeId} {w : World} (x : Int) (i : Nat) (h : i < 8) : (binOp .shr t (.int .u8 x) (.int .u64 (i : Int))).run P w = .ok (.int .u8 (x / 2 ^ i)) w := by
  simp [go_sem]
end Go.Proofs.YtliejllegabdnaaDoor.Sm
