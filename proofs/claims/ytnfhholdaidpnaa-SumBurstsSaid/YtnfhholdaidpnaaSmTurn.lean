/- What the law's own 'turned' returns: bytes with up to 32 bits turned from a place on, in new memory. -/
import Derived.Test.YtnfhholdaidpnaaSmAlive
namespace Go.Proofs.Ytnfhholdaidpnaa.Sm
open Go.ChangeShapes Go.WideShapes Go.ChangeAt Go.RowKit
set_option maxHeartbeats 1000000

theorem bit_test (row : BitVec 32) (k : Nat) : (bits .and .u32 ((row.toNat : Int) / 2 ^ k) 1 == 1) = row.toNat.testBit k := by
  have e : ((row.toNat : Int) / 2 ^ k) = ((row.toNat / 2 ^ k : Nat) : Int) := by simp
  have hl : row.toNat / 2 ^ k < 4294967296 := Nat.lt_of_le_of_lt (Nat.div_le_self _ _) row.isLt
  rw [e, show (1 : Int) = ((1 : Nat) : Int) from rfl, u32_and_nat _ 1 hl (by omega), Nat.and_one_is_mod, Nat.testBit_eq_decide_div_mod_eq]
  rw [Bool.eq_iff_iff]
  simp only [beq_iff_eq, decide_eq_true_eq]
  omega

theorem mask_xor (d : UInt8) (m : Nat) : bits .xor .u8 (d.toNat : Int) (128 / 2 ^ m) = ((d ^^^ UInt8.ofNat (128 / 2 ^ m)).toNat : Int) := by
  have e : ((128 : Int) / 2 ^ m) = ((128 / 2 ^ m : Nat) : Int) := by simp
  have hl : 128 / 2 ^ m < 256 := Nat.lt_of_le_of_lt (Nat.div_le_self _ _) (by omega)
  rw [e, u8_xor_nat _ _ d.toNat_lt hl, UInt8.toNat_xor, UInt8.toNat_ofNat', Nat.mod_eq_of_lt hl]
theorem cells8_flip (l : List UInt8) (q : Nat) (d : UInt8) (h : l[q / 8]? = some d) : (cells8 l).set (q / 8) (.int .u8 (bits .xor .u8 (d.toNat : Int) (128 / 2 ^ (q % 8)))) = cells8 (flip1 l q) := by
  rw [mask_xor]
  unfold flip1 cells8
  rw [List.map_set, List.getD_eq_getElem?_getD, h]
  rfl
theorem turnTo_no {l : List UInt8} {p row k : Nat} (h : row.testBit k = false) : turnTo l p row (k + 1) = turnTo l p row k := by
  rw [turnTo, if_neg (by simp [h])]
theorem turnTo_yes {l : List UInt8} {p row k : Nat} (h : row.testBit k = true) (hp : p + k < 8 * l.length) : turnTo l p row (k + 1) = flip1 (turnTo l p row k) (p + k) := by
  rw [turnTo, if_pos ⟨hp, h⟩]

theorem turned_calls (a : Option Addr) (n c : Nat) (l : List UInt8) (p : Nat) (y : Int) (hy : y = (p : Int)) (row : BitVec 32) (x : Int) (hx : x = (row.toNat : Int)) (w : World) (hr : Row8 w w.heap.size a n c l) (hn : n ≤ 1000000) (hn0 : 0 < n) (hp : p < 8 * n) :
    Calls Try.prog 20 #[.slice a n c, .int .i64 y, .int .u32 x] w fun e w' => RetMade w 5 (turnTo l p row.toNat 32) e w' := by
  subst hy
  obtain ⟨i0, hi0, hz0, hz1, hz2⟩ := info_parts byte_info
  have HR := hid hr
  have HX := hid hx
  have hxb : 0 ≤ x ∧ x < 4294967296 := by rw [hx]; exact word_lt row
  obtain ⟨hx0, hx1⟩ := hxb
  have HL := hid hr.len
  clear hr hx
  go_enter Try.func20, Try.ntmps20
  go_wp2_with (at_builtin; refine stop ?_)
  unfold Stop
  refine wpList_append_row _ rfl _ _ _ rfl w.heap.size 5 i0 _ Try.underlying22 hi0 hz0 hz1 hz2 rfl (.slice none 0 0) [] rfl (World.ownsRow_nil _ _ _ _) _ a n c l rfl HR.out (by simp; omega) (Nat.le_refl _) ?_
  intro v1 w1 hown hgrow hlt
  have hb1 : Below w.heap.size w w1 := (Below.refl _ _).grown hgrow (Nat.le_refl _) hlt
  rw [List.nil_append, HL.out] at hown
  clear hgrow hlt
  obtain ⟨g, c1, rfl, hg, hgs⟩ := hown.form hn0
  have HO := hid hown
  clear hown
  go_wp2
  go_loopw [8] (fun i wr => ∃ k : Nat, k ≤ 32 ∧ i = .int .i64 k ∧ Hid (wr.ownsRow w.heap.size 5 1 (.slice (some ⟨g, 0, none⟩) n c1) n (cells8 (turnTo l p row.toNat k))) ∧ Below w.heap.size w wr) (fun i _ => 32 - (intOf i).toNat)
  case atStart => exact ⟨0, by omega, rfl, HO, hb1⟩
  case round =>
    clear HO hb1 HR
    obtain ⟨k, hk, rfl, HO, hb⟩ := hrel
    by_cases h32 : k < 32
    · by_cases hpk : p + k < 8 * n
      · have hd : (p + k) / 8 < n := by omega
        have hlen := turnTo_length l p row.toNat k
        obtain ⟨d, hdv⟩ : ∃ d, (turnTo l p row.toNat k)[(p + k) / 8]? = some d := ⟨_, List.getElem?_eq_getElem (by rw [hlen, HL.out]; exact hd)⟩
        have hc : wr.cell? ⟨g, (p + k) / 8, none⟩ = some (.int .u8 (d.toNat : Int)) := by rw [HO.out.cellAt _ (by omega), cells8_get, hdv]; rfl
        have hf := HO.out.frozenAt ((p + k) / 8)
        have HD := hid hdv
        have hdb := d.toNat_lt
        clear hdv hlen
        have ht := bit_test row k
        rw [← HX.out] at ht
        cases hbit : row.toNat.testBit k
        · rw [hbit] at ht
          have HB := hid hbit
          clear hbit
          go_wp2
          go_roundw
          case rel => exact ⟨k + 1, by omega, by go_num, by rw [turnTo_no HB.out]; exact HO, hb⟩
          case measure => simp [intOf]; omega
        · rw [hbit] at ht
          have HB := hid hbit
          clear hbit
          go_wp2
          go_roundw
          case rel =>
            refine ⟨k + 1, by omega, by go_num, ?_, hb.setCell (by exact hg) _⟩
            rw [turnTo_yes HB.out (by rw [HL.out]; exact hpk), ← cells8_flip _ _ d HD.out]
            exact (HO.out.stored _ _).1
          case measure => simp [intOf]; omega
      · have he := turnTo_end l p row.toNat k (by rw [HL.out]; omega) (32 - k)
        rw [show k + (32 - k) = 32 by omega] at he
        have HE := hid he
        clear he
        go_wp2
        go_ret
        refine ⟨_, rfl, ?_, hb⟩
        rw [HE.out, turnTo_length, HL.out]
        exact HO
    · obtain rfl : k = 32 := by omega
      go_wp2
      go_ret
      refine ⟨_, rfl, ?_, hb⟩
      rw [turnTo_length, HL.out]
      exact HO

/-- Sealed bytes that were turned are sealed just where they are what they were. -/
theorem isSealed_turned (l : List UInt8) (p row : Nat) : isSealed (turnTo (sealB l) p row 32) = decide (turnTo (sealB l) p row 32 = sealB l) := by
  have hlen : (turnTo (sealB l) p row 32).length = l.length + 4 := by rw [turnTo_length, sealB_length]
  have hget : ∀ q, (q < p ∨ p + 32 ≤ q) → (allBits (turnTo (sealB l) p row 32))[q]? = (allBits (sealB l))[q]? := fun q hq => turnTo_get (sealB l) p row q 32 (by omega) hq
  generalize turnTo (sealB l) p row 32 = d at *
  unfold isSealed
  rw [hlen, Nat.add_sub_cancel, decide_eq_decide]
  have hb := sealed_burst l (d.take l.length) (d.drop l.length) (by simp [hlen]) (by simp [hlen]) p (fun q hq => by rw [List.take_append_drop]; exact hget q hq)
  rw [List.take_append_drop] at hb
  exact ⟨fun h => hb.1 h.2, fun h => ⟨by omega, hb.2 h⟩⟩
theorem of_eq_words (l m : List UInt8) (h : of l = of m ↔ l = m) : (((of l).toNat : Int) == ((of m).toNat : Int)) = decide (l = m) := by
  rw [Bool.eq_iff_iff]
  simp only [beq_iff_eq, decide_eq_true_eq]
  rw [← h]
  constructor
  · intro e; exact BitVec.eq_of_toNat_eq (by omega)
  · intro e; rw [e]
end Go.Proofs.Ytnfhholdaidpnaa.Sm
