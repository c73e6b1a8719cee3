/- Three rows of bytes, mixed bit by bit, place by place. -/
import Derived.Test.YtnfhholdaidpnaaSmMade
import Derived.RegionTactic
namespace Go.Proofs.Ytnfhholdaidpnaa.Sm
open Go.RowKit
/-- the first k places mixed, the rest as in l. -/
def mixTo (l m q : List UInt8) (k : Nat) : List UInt8 := List.zipWith (· ^^^ ·) (List.zipWith (· ^^^ ·) (l.take k) (m.take k)) (q.take k) ++ l.drop k
theorem mixTo_zero (l m q : List UInt8) : mixTo l m q 0 = l := by simp [mixTo]
theorem mix_length {l m q : List UInt8} {k : Nat} (h0 : k ≤ l.length) (h1 : k ≤ m.length) (h2 : k ≤ q.length) : (List.zipWith (· ^^^ ·) (List.zipWith (· ^^^ ·) (l.take k) (m.take k)) (q.take k)).length = k := by
  simp; omega
theorem lt_of_get {l : List UInt8} {k : Nat} {d : UInt8} (h : l[k]? = some d) : k < l.length := by
  rcases Nat.lt_or_ge k l.length with h' | h'
  · exact h'
  · rw [List.getElem?_eq_none h'] at h; cases h
theorem mixTo_get {l m q : List UInt8} {k : Nat} {d0 d1 d2 : UInt8} (h0 : l[k]? = some d0) (h1 : m[k]? = some d1) (h2 : q[k]? = some d2) : (mixTo l m q k)[k]? = some d0 := by
  have e := mix_length (Nat.le_of_lt (lt_of_get h0)) (Nat.le_of_lt (lt_of_get h1)) (Nat.le_of_lt (lt_of_get h2))
  unfold mixTo
  rw [List.getElem?_append_right (by omega), e, Nat.sub_self, List.getElem?_drop, Nat.add_zero, h0]
theorem mixTo_succ {l m q : List UInt8} {k : Nat} {d0 d1 d2 : UInt8} (h0 : l[k]? = some d0) (h1 : m[k]? = some d1) (h2 : q[k]? = some d2) : (mixTo l m q k).set k (d0 ^^^ d1 ^^^ d2) = mixTo l m q (k + 1) := by
  have e := mix_length (Nat.le_of_lt (lt_of_get h0)) (Nat.le_of_lt (lt_of_get h1)) (Nat.le_of_lt (lt_of_get h2))
  have l0 := lt_of_get h0
  have l1 := lt_of_get h1
  have l2 := lt_of_get h2
  have hd : l.drop k = d0 :: l.drop (k + 1) := by
    rw [List.drop_eq_getElem_cons l0]
    rw [List.getElem?_eq_getElem l0] at h0
    injection h0 with h0
    rw [h0]
  unfold mixTo
  rw [List.set_append_right _ _ (by omega), e, Nat.sub_self, hd, List.set_cons_zero, List.take_add_one, List.take_add_one, List.take_add_one, h0, h1, h2]
  rw [Option.toList_some, Option.toList_some, Option.toList_some, List.zipWith_append (by simp; omega), List.zipWith_append (by simp; omega)]
  simp
theorem mixTo_cells {l m q : List UInt8} {k : Nat} {d0 d1 d2 : UInt8} (h0 : l[k]? = some d0) (h1 : m[k]? = some d1) (h2 : q[k]? = some d2) : (cells8 (mixTo l m q k)).set k (.int .u8 (bits .xor .u8 (bits .xor .u8 (d0.toNat : Int) (d1.toNat : Int)) (d2.toNat : Int))) = cells8 (mixTo l m q (k + 1)) := by
  rw [← mixTo_succ h0 h1 h2, u8_xor_nat _ _ d0.toNat_lt d1.toNat_lt, ← UInt8.toNat_xor, u8_xor_nat _ _ (d0 ^^^ d1).toNat_lt d2.toNat_lt, ← UInt8.toNat_xor]
  unfold cells8
  rw [List.map_set]
theorem mixTo_all (l m q : List UInt8) : mixTo l m q l.length = List.zipWith (· ^^^ ·) (List.zipWith (· ^^^ ·) l (m.take l.length)) (q.take l.length) := by
  simp [mixTo]
theorem mixed_sum (l m q : List UInt8) (h1 : l.length ≤ m.length) (h2 : l.length ≤ q.length) : of (mixTo l m q l.length) = of l ^^^ of (m.take l.length) ^^^ of (q.take l.length) := by
  rw [mixTo_all]
  exact of_mixes _ _ _ (by simp; omega) (by simp; omega)
end Go.Proofs.Ytnfhholdaidpnaa.Sm
