/- What chapter 3's calls that only read (wire.Number, wire.Offset, and what lies beneath them) and the document's own answers to them return, for all bytes; each leaves the world as it was. -/
import Derived.Test.YtceahjjffnfalaaRows
import Derived.Test.YtceahjjffnfalaaSmKit
import Derived.Test.YtceahjjffnfalaaWrPlain
namespace Go.Proofs.Ytceahjjffnfalaa.Wr
open Go.ChangeShapes Go.WideShapes Go.ChangeAt Go.RowKit Go.Proofs.Ytceahjjffnfalaa.Sm
set_option maxHeartbeats 400000

theorem fits_yes (k : Int) (h1 : 1 ≤ k) (h7 : k ≤ 7) (w : World) : Calls Try.prog 27 #[.int .i64 k] w fun e w' => e = .returned (.bool true) ∧ w = w' := by
  go_enter Try.func27, Try.ntmps27
  go_wp2
  go_ret
  exact ⟨rfl, rfl⟩
theorem fits_no (k : Int) (h : k < 1 ∨ 7 < k) (w : World) : Calls Try.prog 27 #[.int .i64 k] w fun e w' => e = .returned (.bool false) ∧ w = w' := by
  rcases h with h | h
  · go_enter Try.func27, Try.ntmps27
    go_wp2
    go_ret
    exact ⟨rfl, rfl⟩
  · have hd : decide (k ≤ 7) = false := by simpa using h
    go_enter Try.func27, Try.ntmps27
    go_wp2
    go_ret
    exact ⟨rfl, rfl⟩
/-- how many numbers have this width. -/
theorem values_calls (k p : Int) (h1 : 1 ≤ k) (h7 : k ≤ 7) (hp : ((256 ^ k.toNat : Nat) : Int) = p) (w : World) : Calls Try.prog 28 #[.int .i64 k] w fun e w' => e = .returned (.int .i64 p) ∧ w = w' := by
  subst hp
  have hk : k = 1 ∨ k = 2 ∨ k = 3 ∨ k = 4 ∨ k = 5 ∨ k = 6 ∨ k = 7 := by omega
  rcases hk with rfl | rfl | rfl | rfl | rfl | rfl | rfl
  all_goals
    clear h1 h7
    go_enter Try.func28, Try.ntmps28
    go_wp2
    go_ret
    exact ⟨rfl, rfl⟩
theorem pow_p {k : Int} (h1 : 1 ≤ k) (h7 : k ≤ 7) : ∃ p : Int, ((256 ^ k.toNat : Nat) : Int) = p ∧ 256 ≤ p ∧ p ≤ 72057594037927936 ∧ p % 2 = 0 := by
  have := pow_cases (k := k.toNat) (by omega)
  exact ⟨_, rfl, by omega, by omega, by omega⟩

/-- a byte behind a number. -/
theorem joined (N : Nat) (h : N < 281474976710656) (c : UInt8) : bits .or .i64 ((N : Int) * (256 : Int)) (c.toNat : Int) = ((N * 256 + c.toNat : Nat) : Int) := by
  have hc := c.toNat_lt
  have e : (N : Int) * (256 : Int) = ((N * 256 : Nat) : Int) := by omega
  rw [e]
  have hx : N * 256 ||| c.toNat = N * 256 + c.toNat := nat_join 8 _ _ (by omega) (by omega)
  show IntKind.i64.wrap ((BitVec.ofInt 64 ((N * 256 : Nat) : Int) ||| BitVec.ofInt 64 (c.toNat : Int)).toNat : Int) = _
  rw [BitVec.toNat_or, ofInt_u64 _ (by omega), ofInt_u64 _ (by omega), hx, IntKind.wrap_i64]
  omega
theorem num_lt6 {l : List UInt8} {k : Nat} (hk : k < 7) : num (l.take k) < 281474976710656 := by
  have h := num_lt (l.take k)
  have h1 : 256 ^ (l.take k).length ≤ 256 ^ 6 := Nat.pow_le_pow_right (by omega) (by rw [List.length_take]; omega)
  omega

theorem number_calls (a : Option Addr) (n c : Nat) (l : List UInt8) (B : Nat) (w : World) (hr : Row8 w B a n c l) :
    Calls Try.prog 12 #[.slice a n c] w fun e w' => e = .returned (.int .i64 (numI l)) ∧ w = w' := by
  have hn : n ≤ 9223372036854775807 := by have h1 := hr.room; have h2 := hr.cap; unfold maxLen at h2; omega
  have HR := hid hr
  have HN := hid hr.len
  clear hr
  by_cases hb : (n : Int) < 1 ∨ 7 < (n : Int)
  · go_enter Try.func12, Try.ntmps12
    go_wp2_with (go_at_call 27; refine (fits_no _ hb _).mono ?_; rintro e w' ⟨rfl, rfl⟩)
    go_ret
    refine ⟨ret_int ?_, rfl⟩
    unfold numI
    rw [HN.out]
    split
    · have e : l = [] := List.eq_nil_of_length_eq_zero (by rw [HN.out]; omega)
      rw [e]; rfl
    · rfl
  · have h1 : 1 ≤ (n : Int) := by omega
    have h7 : (n : Int) ≤ 7 := by omega
    clear hb
    go_enter Try.func12, Try.ntmps12
    go_wp2_with (go_at_call 27; refine (fits_yes _ h1 h7 _).mono ?_; rintro e w' ⟨rfl, rfl⟩)
    go_loop [3, 12] (fun t i => ∃ k : Nat, ∃ y : Int, k ≤ n ∧ 0 ≤ y ∧ i = .int .i64 k ∧ t = .int .i64 y ∧ Hid (y = (num (l.take k) : Int))) (fun _ i => n - (intOf i).toNat)
    case atStart => exact ⟨0, _, by omega, by omega, rfl, rfl, rfl⟩
    case round =>
      obtain ⟨k, y, hk, hy0, rfl, rfl, H⟩ := hrel
      by_cases hlt : k < n
      · obtain ⟨b, off, d, rfl, _, hl, hc⟩ := HR.out.at_ hlt
        have hd := d.toNat_lt
        have HL := hid hl
        clear hl
        have hy1 : y < 281474976710656 := by have := num_lt6 (l := l) (k := k) (by omega); have := H.out; omega
        go_wp2
        go_round
        case rel =>
          have e := joined (num (l.take k)) (num_lt6 (by omega)) d
          rw [← H.out, ← num_snoc l k d HL.out] at e
          exact ⟨k + 1, _, by omega, by rw [e]; omega, by go_num, rfl, e⟩
        case measure => simp [intOf]; omega
      · obtain rfl : k = n := by omega
        go_wp2
        go_ret
        refine ⟨ret_int ?_, rfl⟩
        unfold numI
        rw [H.out, ← HN.out, List.take_length, if_pos (by rw [HN.out]; omega)]

theorem numberR_calls (a : Option Addr) (n c : Nat) (l : List UInt8) (B : Nat) (w : World) (hr : Row8 w B a n c l) :
    Calls Try.prog 13 #[.slice a n c] w fun e w' => e = .returned (.int .i64 (numI l)) ∧ w = w' := by
  have hn : n ≤ 9223372036854775807 := by have h1 := hr.room; have h2 := hr.cap; unfold maxLen at h2; omega
  have HR := hid hr
  have HN := hid hr.len
  clear hr
  by_cases h7 : 7 < n
  · go_enter Try.func13, Try.ntmps13
    go_wp2
    go_ret
    refine ⟨ret_int ?_, rfl⟩
    unfold numI
    rw [HN.out, if_neg (by omega)]
  · go_enter Try.func13, Try.ntmps13
    go_wp2
    go_loop [3, 4] (fun t i => ∃ k : Nat, ∃ y : Int, k ≤ n ∧ 0 ≤ y ∧ i = .int .i64 k ∧ t = .int .i64 y ∧ Hid (y = (num (l.take k) : Int))) (fun _ i => n - (intOf i).toNat)
    case atStart => exact ⟨0, _, by omega, by omega, rfl, rfl, rfl⟩
    case round =>
      obtain ⟨k, y, hk, hy0, rfl, rfl, H⟩ := hrel
      by_cases hlt : k < n
      · obtain ⟨b, off, d, rfl, _, hl, hc⟩ := HR.out.at_ hlt
        have hd := d.toNat_lt
        have HL := hid hl
        clear hl
        have hy1 : y < 281474976710656 := by have := num_lt6 (l := l) (k := k) (by omega); have := H.out; omega
        go_wp2
        go_round
        case rel =>
          have e := joined (num (l.take k)) (num_lt6 (by omega)) d
          rw [← H.out, ← num_snoc l k d HL.out] at e
          exact ⟨k + 1, _, by omega, by rw [e]; omega, by go_num, rfl, e⟩
        case measure => simp [intOf]; omega
      · obtain rfl : k = n := by omega
        go_wp2
        go_ret
        refine ⟨ret_int ?_, rfl⟩
        unfold numI
        rw [H.out, ← HN.out, List.take_length, if_pos (by rw [HN.out]; omega)]

theorem offI_zero {l : List UInt8} (h : l.length < 1 ∨ 7 < l.length) : offI l = 0 := by
  unfold offI
  rw [if_neg (by omega)]
theorem offI_high {l : List UInt8} (h : 1 ≤ l.length ∧ l.length ≤ 7) (h2 : 256 ^ l.length / 2 ≤ num l) : offI l = numI l - ((256 ^ l.length : Nat) : Int) := by
  unfold offI numI
  rw [if_pos h, if_pos h2, if_pos h.2, pow_cast]
theorem offI_low {l : List UInt8} (h : 1 ≤ l.length ∧ l.length ≤ 7) (h2 : ¬ 256 ^ l.length / 2 ≤ num l) : offI l = numI l := by
  unfold offI numI
  rw [if_pos h, if_neg h2, if_pos h.2]
theorem numI_eq {l : List UInt8} (h : l.length ≤ 7) : numI l = (num l : Int) := by unfold numI; rw [if_pos h]

theorem offset_calls (a : Option Addr) (n c : Nat) (l : List UInt8) (B : Nat) (w : World) (hr : Row8 w B a n c l) :
    Calls Try.prog 16 #[.slice a n c] w fun e w' => e = .returned (.int .i64 (offI l)) ∧ w = w' := by
  have hn : n ≤ 9223372036854775807 := by have h1 := hr.room; have h2 := hr.cap; unfold maxLen at h2; omega
  have HR := hid hr
  have HN := hid hr.len
  clear hr
  by_cases hb : (n : Int) < 1 ∨ 7 < (n : Int)
  · go_enter Try.func16, Try.ntmps16
    go_wp2_with (go_at_call 27; refine (fits_no _ hb _).mono ?_; rintro e w' ⟨rfl, rfl⟩)
    go_ret
    exact ⟨ret_int (offI_zero (by rw [HN.out]; omega)).symm, rfl⟩
  · have h1 : 1 ≤ (n : Int) := by omega
    have h7 : (n : Int) ≤ 7 := by omega
    clear hb
    obtain ⟨p, hp, hp1, hp2, hp3⟩ := pow_p h1 h7
    have HP := hid hp
    obtain ⟨y, hy⟩ : ∃ y, numI l = y := ⟨_, rfl⟩
    have hlen : 1 ≤ l.length ∧ l.length ≤ 7 := by rw [HN.out]; omega
    have hyp : 0 ≤ y ∧ y < p := by
      rw [← hy, numI_eq hlen.2, ← hp, Int.toNat_natCast, ← HN.out]
      have := num_lt l
      omega
    obtain ⟨hy0, hy1⟩ := hyp
    have hcmp : 256 ^ l.length / 2 ≤ num l ↔ p / 2 ≤ y := by
      rw [← hy, numI_eq hlen.2, ← hp, Int.toNat_natCast, ← HN.out]
      omega
    have HY := hid hy
    have hpl : ((256 ^ l.length : Nat) : Int) = p := by rw [← hp, Int.toNat_natCast, ← HN.out]
    have HPL := hid hpl
    by_cases hh : p / 2 ≤ y
    · have HE := hid (offI_high hlen (hcmp.2 hh))
      clear hp hy hcmp hpl hlen
      go_enter Try.func16, Try.ntmps16
      go_wp2_with (first | (go_at_call 27; refine (fits_yes _ h1 h7 _).mono ?_; rintro e w' ⟨rfl, rfl⟩) | (go_at_call 12; refine (number_calls _ _ _ l _ _ HR.out).mono ?_; rw [HY.out]; rintro e w' ⟨rfl, rfl⟩) | (go_at_call 28; refine (values_calls _ p h1 h7 HP.out _).mono ?_; rintro e w' ⟨rfl, rfl⟩))
      go_ret
      exact ⟨ret_int (by rw [HE.out, HY.out, HPL.out]), rfl⟩
    · have HE := hid (offI_low hlen (fun h => hh (hcmp.1 h)))
      clear hp hy hcmp hpl hlen
      go_enter Try.func16, Try.ntmps16
      go_wp2_with (first | (go_at_call 27; refine (fits_yes _ h1 h7 _).mono ?_; rintro e w' ⟨rfl, rfl⟩) | (go_at_call 12; refine (number_calls _ _ _ l _ _ HR.out).mono ?_; rw [HY.out]; rintro e w' ⟨rfl, rfl⟩) | (go_at_call 28; refine (values_calls _ p h1 h7 HP.out _).mono ?_; rintro e w' ⟨rfl, rfl⟩))
      go_ret
      exact ⟨ret_int (by rw [HE.out, HY.out]), rfl⟩

set_option maxRecDepth 10000 in
theorem offsetR_calls (a : Option Addr) (n c : Nat) (l : List UInt8) (B : Nat) (w : World) (hr : Row8 w B a n c l) :
    Calls Try.prog 17 #[.slice a n c] w fun e w' => e = .returned (.int .i64 (offI l)) ∧ w = w' := by
  have hn : n ≤ 9223372036854775807 := by have h1 := hr.room; have h2 := hr.cap; unfold maxLen at h2; omega
  have HR := hid hr
  have HN := hid hr.len
  clear hr
  by_cases hz : n = 0
  · subst hz
    go_enter Try.func17, Try.ntmps17
    go_wp2
    go_ret
    exact ⟨ret_int (offI_zero (by rw [HN.out]; omega)).symm, rfl⟩
  have hz1 : ((n : Int) == 0) = false := by simp; omega
  by_cases h8 : 7 < n
  · go_enter Try.func17, Try.ntmps17
    go_wp2
    go_ret
    exact ⟨ret_int (offI_zero (by rw [HN.out]; omega)).symm, rfl⟩
  have hlen : 1 ≤ l.length ∧ l.length ≤ 7 := by rw [HN.out]; omega
  obtain ⟨y, hy⟩ : ∃ y, numI l = y := ⟨_, rfl⟩
  have hyb : 0 ≤ y ∧ y < 72057594037927936 := by
    rw [← hy, numI_eq hlen.2]
    have h1 := num_lt l
    have h2 := pow_le hlen.2
    omega
  obtain ⟨hy0, hy1⟩ := hyb
  have HY := hid hy
  obtain ⟨b, off, d, rfl, _, hl, hc⟩ := HR.out.at_ (k := 0) (by omega)
  rw [Nat.add_zero] at hc
  obtain ⟨l', rfl⟩ : ∃ l', l = d :: l' := by
    cases l with
    | nil => simp at hl
    | cons x l' => simp at hl; exact ⟨l', by rw [hl]⟩
  have hd := d.toNat_lt
  have hh := first_half (c := d) (l := l')
  clear hl hy
  by_cases h128 : 128 ≤ (d.toNat : Int)
  · have HE := hid (offI_high hlen (hh.2 (by omega)))
    clear hh hlen
    have hk : n = 1 ∨ n = 2 ∨ n = 3 ∨ n = 4 ∨ n = 5 ∨ n = 6 ∨ n = 7 := by omega
    rcases hk with rfl | rfl | rfl | rfl | rfl | rfl | rfl
    all_goals
      clear hn hz h8
      go_enter Try.func17, Try.ntmps17
      go_wp2_with (go_at_call 13; refine (numberR_calls _ _ _ (d :: l') _ _ HR.out).mono ?_; rw [HY.out]; rintro e w' ⟨rfl, rfl⟩)
      go_ret
      exact ⟨ret_int (by rw [HE.out, HY.out, HN.out]; rfl), rfl⟩
  · have HE := hid (offI_low hlen (fun h => h128 (by have := hh.1 h; omega)))
    clear hh hlen
    go_enter Try.func17, Try.ntmps17
    go_wp2_with (go_at_call 13; refine (numberR_calls _ _ _ (d :: l') _ _ HR.out).mono ?_; rw [HY.out]; rintro e w' ⟨rfl, rfl⟩)
    go_ret
    exact ⟨ret_int (by rw [HE.out, HY.out]), rfl⟩
end Go.Proofs.Ytceahjjffnfalaa.Wr
