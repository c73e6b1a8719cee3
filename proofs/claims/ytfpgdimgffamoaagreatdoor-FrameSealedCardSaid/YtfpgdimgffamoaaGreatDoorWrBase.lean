/- Numbers as bytes and Go's numbers: what the calls of chapter 3 and the document's own have in common. -/
import Derived.Test.YtfpgdimgffamoaaGreatDoorSmA
import Derived.Test.YtfpgdimgffamoaaGreatDoorWrPlain
namespace Go.Proofs.YtfpgdimgffamoaaGreatDoor.Wr
open Go.ChangeShapes Go.WideShapes Go.ChangeAt Go.RowKit Go.Proofs.YtfpgdimgffamoaaGreatDoor.Sm
set_option maxHeartbeats 400000

theorem pow_p {k : Int} (h1 : 1 ≤ k) (h7 : k ≤ 7) : ∃ p : Int, ((256 ^ k.toNat : Nat) : Int) = p ∧ 256 ≤ p ∧ p ≤ 72057594037927936 ∧ p % 2 = 0 := by
  have := pow_cases (k := k.toNat) (by omega)
  exact ⟨_, rfl, by omega, by omega, by omega⟩
/-- a byte behind a number. -/
theorem joined (N : Nat) (h : N < 281474976710656) (c : UInt8) : bits .or .i64 ((N : Int) * (256 : Int)) (c.toNat : Int) = ((N * 256 + c.toNat : Nat) : Int) := by
  have hc := c.toNat_lt
  have e : (N : Int) * (256 : Int) = ((N * 256 : Nat) : Int) := by omega
  rw [e]
  have hx : N * 256 ||| c.toNat = N * 256 + c.toNat := nat_join 8 _ _ (by omega) (by omega)
  show IntKind.i64.wrap ((BitVec.ofInt 64 ((N * 256 : Nat) : Int) ||| BitVec.ofInt 64 (c.toNat : Int)).toNat : Int) = _
  rw [BitVec.toNat_or, ofInt_u64 _ (by omega), ofInt_u64 _ (by omega), hx, IntKind.wrap_i64]
  omega
theorem num_lt6 {l : List UInt8} {k : Nat} (hk : k < 7) : num (l.take k) < 281474976710656 := by
  have h := num_lt (l.take k)
  have h1 : 256 ^ (l.take k).length ≤ 256 ^ 6 := Nat.pow_le_pow_right (by omega) (by rw [List.length_take]; omega)
  omega
theorem offI_zero {l : List UInt8} (h : l.length < 1 ∨ 7 < l.length) : offI l = 0 := by
  unfold offI
  rw [if_neg (by omega)]
theorem offI_high {l : List UInt8} (h : 1 ≤ l.length ∧ l.length ≤ 7) (h2 : 256 ^ l.length / 2 ≤ num l) : offI l = numI l - ((256 ^ l.length : Nat) : Int) := by
  unfold offI numI
  rw [if_pos h, if_pos h2, if_pos h.2, pow_cast]
theorem offI_low {l : List UInt8} (h : 1 ≤ l.length ∧ l.length ≤ 7) (h2 : ¬ 256 ^ l.length / 2 ≤ num l) : offI l = numI l := by
  unfold offI numI
  rw [if_pos h, if_neg h2, if_pos h.2]
theorem numI_eq {l : List UInt8} (h : l.length ≤ 7) : numI l = (num l : Int) := by unfold numI; rw [if_pos h]
/-- bytes of the call's own, and whether. -/
def RetPair (w : World) (E : TypeId) (l : List UInt8) (ok : Bool) (e : Ending) (w' : World) : Prop := ∃ v, e = .returned (.tuple #[v, .bool ok]) ∧ Made w E l v w'
theorem made_nil (w : World) (E : TypeId) : Made w E [] (.slice none 0 0) w := ⟨World.ownsRow_nil _ _ _ _, Below.refl _ _⟩
theorem zeros_cells (n : Nat) : List.replicate n (Value.int .u8 0) = cells8 (List.replicate n 0 ++ be 0 0) := by
  simp [cells8, be]
theorem put_byte (q j N : Nat) : (cells8 (List.replicate (q + 1) 0 ++ be N j)).set q (.int .u8 ((N / 256 ^ j % 256 : Nat) : Int)) = cells8 (List.replicate q 0 ++ be N (j + 1)) := by
  have e : List.replicate (q + 1) (0 : UInt8) = List.replicate q 0 ++ [0] := List.replicate_succ'
  rw [e]
  simp only [cells8, List.map_append, List.map_replicate, List.append_assoc, List.map_cons, List.map_nil, be]
  rw [List.set_append_right _ _ (by simp)]
  simp [UInt8.toNat_ofNat']
theorem shr_byte (N j : Nat) : (N : Int) / 2 ^ (8 * j) % 256 = ((N / 256 ^ j % 256 : Nat) : Int) := by
  have e : (2 : Int) ^ (8 * j) = ((256 ^ j : Nat) : Int) := by
    rw [Int.pow_mul]; simp
  rw [e]; simp
theorem shl_p {m : Nat} {p : Int} (h7 : (m : Int) ≤ 7) (hp : ((256 ^ (m : Int).toNat : Nat) : Int) = p) : wrap64 (2 ^ (8 * m)) = p := by
  have e : (2 : Int) ^ (8 * m) = ((256 ^ m : Nat) : Int) := by rw [Int.pow_mul]; simp
  rw [Int.toNat_natCast] at hp
  have h1 := pow_le (k := m) (by omega)
  rw [e]
  generalize (256 ^ m : Nat) = q at *
  unfold wrap64
  omega
theorem byte_cells (N r : Nat) : cells8 [UInt8.ofNat (N / 256 ^ r)] = [.int .u8 ((N : Int) / 2 ^ (8 * r) % 256)] := by
  rw [shr_byte]
  simp [cells8, UInt8.toNat_ofNat']
/-! ### numbers below 0, too -/
/-- the number that is written for n. -/
def lifted (n k : Int) : Int := if n < 0 then n + 256 ^ k.toNat else n
theorem signed_plain {n k : Int} (h : signedB n k = true) : plainB (lifted n k) k = true ∧ plainL (lifted n k) k = signedL n k := by
  have h' := of_decide_eq_true (show decide _ = true from h)
  rw [pow_cast] at h'
  have hp := pow_cases (k := k.toNat) (by omega)
  have hb : plainB (lifted n k) k = true := by
    unfold plainB lifted
    rw [pow_cast]
    refine decide_eq_true ⟨h'.1, ?_⟩
    generalize (256 ^ k.toNat : Nat) = p at *
    split <;> omega
  refine ⟨hb, ?_⟩
  unfold plainL signedL
  rw [if_pos hb, if_pos h]
  unfold lifted
  split <;> rfl
theorem shl_half {m : Nat} {p : Int} (h1 : 1 ≤ (m : Int)) (h7 : (m : Int) ≤ 7) (hp : ((256 ^ (m : Int).toNat : Nat) : Int) = p) : wrap64 (2 ^ (8 * m - 1)) = p / 2 := by
  have hk : m = 1 ∨ m = 2 ∨ m = 3 ∨ m = 4 ∨ m = 5 ∨ m = 6 ∨ m = 7 := by omega
  rcases hk with rfl | rfl | rfl | rfl | rfl | rfl | rfl <;> (simp at hp; subst hp; decide +kernel)
end Go.Proofs.YtfpgdimgffamoaaGreatDoor.Wr
