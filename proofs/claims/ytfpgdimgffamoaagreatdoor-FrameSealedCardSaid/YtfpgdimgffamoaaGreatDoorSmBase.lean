/- Sums of bytes and Go's numbers: what the calls of chapter 2 and the document's own have in common. -/
import Derived.Test.YtfpgdimgffamoaaGreatDoorSmA
namespace Go.Proofs.YtfpgdimgffamoaaGreatDoor.Sm
open Go.ChangeShapes Go.WideShapes Go.ChangeAt Go.RowKit
set_option maxHeartbeats 400000

theorem reg_snoc (r : BitVec 32) (l : List UInt8) (k : Nat) (c : UInt8) (h : l[k]? = some c) : reg r (l.take (k + 1)) = one (reg r (l.take k)) c := by
  rw [List.take_add_one, h]; simp [reg]
/-- what a round hands to the steps. -/
theorem mixed {y : Int} {r : BitVec 32} {c : UInt8} (hy : y = (r.toNat : Int)) : bits .xor .u32 y ((c.toNat : Int) * (16777216 : Int)) = ((r ^^^ high c).toNat : Int) := by
  rw [hy, high_word, xor_words]
theorem not_max (s : BitVec 32) : bits .xor .u32 IntKind.u32.max (s.toNat : Int) = ((~~~ s).toNat : Int) := not_word s
theorem num4_snoc (l : List UInt8) (k : Nat) (c : UInt8) (h : l[k]? = some c) : num4 (l.take (k + 1)) = (num4 (l.take k) * 256 + c.toNat) % 4294967296 := by
  rw [List.take_add_one, h]; simp [num4]
theorem num4_lt (l : List UInt8) : num4 l < 4294967296 := by
  rcases List.eq_nil_or_concat l with rfl | ⟨m, c, rfl⟩
  · decide
  · simp [num4]; omega
theorem joined (N : Nat) (c : UInt8) : bits .or .u32 ((N : Int) * (256 : Int) % (4294967296 : Int)) (c.toNat : Int) = (((N * 256 + c.toNat) % 4294967296 : Nat) : Int) := by
  have hc := c.toNat_lt
  have e : (N : Int) * (256 : Int) % (4294967296 : Int) = ((N % 16777216 * 256 : Nat) : Int) := by omega
  rw [e, u32_or_nat _ _ (by omega) (by omega)]
  have h := Nat.two_pow_add_eq_or_of_lt (i := 8) (b := c.toNat) (by omega) (N % 16777216)
  have e2 : N % 16777216 * 256 = 2 ^ 8 * (N % 16777216) := by omega
  rw [e2, ← h]
  omega
/-- the four bytes of a sum, as Go makes them. -/
theorem bytes_of (s : BitVec 32) : cells8 (tail4 s) = [.int .u8 ((s.toNat : Int) / 16777216), .int .u8 ((s.toNat : Int) / 65536 % 256), .int .u8 ((s.toNat : Int) / 256 % 256), .int .u8 ((s.toNat : Int) % 256)] := by
  have h : s.toNat < 4294967296 := s.isLt
  simp [cells8, tail4, UInt8.toNat_ofNat']
  omega
/-- are bytes sealed? -/
def isSealed (l : List UInt8) : Bool := decide (4 ≤ l.length ∧ l.drop (l.length - 4) = tail4 (of (l.take (l.length - 4))))
/-- what was sealed. -/
def inner (l : List UInt8) : List UInt8 := if isSealed l = true then l.take (l.length - 4) else []
def RetOpen (w : World) (E : TypeId) (l : List UInt8) (e : Ending) (w' : World) : Prop := ∃ v, e = .returned (.tuple #[v, .bool (isSealed l)]) ∧ Made w E (inner l) v w'
theorem isSealed_short {l : List UInt8} (h : l.length < 4) : isSealed l = false := by unfold isSealed; simp; omega
theorem inner_no {l : List UInt8} (h : isSealed l = false) : inner l = [] := by simp [inner, h]
theorem inner_yes {l : List UInt8} (h : isSealed l = true) : inner l = l.take (l.length - 4) := by simp [inner, h]
theorem isSealed_num {l : List UInt8} {k : Nat} (h : l.length = k + 4) : isSealed l = decide ((of (l.take k)).toNat = num4 (l.drop k)) := by
  unfold isSealed
  have e : l.length - 4 = k := by omega
  rw [e]
  have h4 := tail4_num4 (l.drop k) (by simp; omega) (of (l.take k))
  rw [decide_eq_decide]
  constructor
  · rintro ⟨_, h2⟩; exact (h4.2 h2).symm
  · intro h2; exact ⟨by omega, h4.1 h2.symm⟩
theorem isSealed_whole {l : List UInt8} {k : Nat} (h : l.length = k + 4) : isSealed l = decide (sealB (l.take k) = l) := by
  unfold isSealed
  have e : l.length - 4 = k := by omega
  rw [e, decide_eq_decide]
  unfold sealB
  constructor
  · rintro ⟨_, h2⟩; rw [← h2, List.take_append_drop]
  · intro h2
    refine ⟨by omega, ?_⟩
    have h3 : l.take k ++ tail4 (of (l.take k)) = l.take k ++ l.drop k := by rw [h2, List.take_append_drop]
    exact (List.append_cancel_left h3).symm
end Go.Proofs.YtfpgdimgffamoaaGreatDoor.Sm
