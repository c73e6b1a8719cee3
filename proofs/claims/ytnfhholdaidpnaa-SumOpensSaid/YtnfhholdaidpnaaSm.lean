/- What chapter 2's calls that only read (sum.Of, sum.More, and the steps beneath them) and the document's own answers to them return, for all bytes; each leaves the world as it was. -/
import Derived.Test.YtnfhholdaidpnaaRows
import Derived.Test.YtnfhholdaidpnaaSmKit
namespace Go.Proofs.Ytnfhholdaidpnaa.Sm
open Go.ChangeShapes Go.WideShapes Go.ChangeAt Go.RowKit
set_option maxHeartbeats 400000

theorem steps_calls (x : Int) (s : BitVec 32) (hx : x = (s.toNat : Int)) (w : World) :
    Calls Try.prog 21 #[.int .u32 x] w fun e w' => e = .returned (.int .u32 ((steps 8 s).toNat : Int)) ∧ w = w' := by
  have H0 := hid hx
  have hb : 0 ≤ x ∧ x < 4294967296 := by rw [hx]; exact word_lt s
  obtain ⟨hb0, hb1⟩ := hb
  clear hx
  go_enter Try.func21, Try.ntmps21
  go_wp2
  go_loop [0, 4] (fun t i => ∃ k : Nat, ∃ y : Int, k ≤ 8 ∧ 0 ≤ y ∧ y < 4294967296 ∧ i = .int .i64 k ∧ t = .int .u32 y ∧ Hid (y = ((steps k s).toNat : Int))) (fun _ i => 8 - (intOf i).toNat)
  case atStart => exact ⟨0, x, by omega, hb0, hb1, rfl, rfl, H0⟩
  case round =>
    clear H0 hb0 hb1
    obtain ⟨k, y, hk, hy0, hy1, rfl, rfl, H⟩ := hrel
    by_cases hlt : k < 8
    · go_wp2
      all_goals go_round
      case rel =>
        have e := step_yes H.out ‹_›
        have b := word_lt (step (steps k s))
        exact ⟨k + 1, _, by omega, by rw [e]; exact b.1, by rw [e]; exact b.2, by go_num, rfl, by rw [steps_succ]; exact e⟩
      case measure => simp [intOf]; omega
      case rel =>
        have e := step_no H.out ‹_›
        have b := word_lt (step (steps k s))
        exact ⟨k + 1, _, by omega, by rw [e]; exact b.1, by rw [e]; exact b.2, by go_num, rfl, by rw [steps_succ]; exact e⟩
      case measure => simp [intOf]; omega
    · obtain rfl : k = 8 := by omega
      go_wp2
      go_ret
      exact ⟨ret_int H.out, rfl⟩

theorem eight_calls (x : Int) (s : BitVec 32) (hx : x = (s.toNat : Int)) (w : World) :
    Calls Try.prog 15 #[.int .u32 x] w fun e w' => e = .returned (.int .u32 ((steps 8 s).toNat : Int)) ∧ w = w' := by
  have H0 := hid hx
  have hb : 0 ≤ x ∧ x < 4294967296 := by rw [hx]; exact word_lt s
  obtain ⟨hb0, hb1⟩ := hb
  clear hx
  go_enter Try.func15, Try.ntmps15
  go_wp2
  go_loop [0, 3] (fun t i => ∃ k : Nat, ∃ y : Int, k ≤ 8 ∧ 0 ≤ y ∧ y < 4294967296 ∧ i = .int .i64 k ∧ t = .int .u32 y ∧ Hid (y = ((steps k s).toNat : Int))) (fun _ i => 8 - (intOf i).toNat)
  case atStart => exact ⟨0, x, by omega, hb0, hb1, rfl, rfl, H0⟩
  case round =>
    clear H0 hb0 hb1
    obtain ⟨k, y, hk, hy0, hy1, rfl, rfl, H⟩ := hrel
    by_cases hlt : k < 8
    · go_wp2
      all_goals go_round
      case rel =>
        have e := step_yes H.out ‹_›
        have b := word_lt (step (steps k s))
        exact ⟨k + 1, _, by omega, by rw [e]; exact b.1, by rw [e]; exact b.2, by go_num, rfl, by rw [steps_succ]; exact e⟩
      case measure => simp [intOf]; omega
      case rel =>
        have e := step_no H.out ‹_›
        have b := word_lt (step (steps k s))
        exact ⟨k + 1, _, by omega, by rw [e]; exact b.1, by rw [e]; exact b.2, by go_num, rfl, by rw [steps_succ]; exact e⟩
      case measure => simp [intOf]; omega
    · obtain rfl : k = 8 := by omega
      go_wp2
      go_ret
      exact ⟨ret_int H.out, rfl⟩

theorem reg_snoc (r : BitVec 32) (l : List UInt8) (k : Nat) (c : UInt8) (h : l[k]? = some c) : reg r (l.take (k + 1)) = one (reg r (l.take k)) c := by
  rw [List.take_add_one, h]; simp [reg]
/-- what a round hands to the steps. -/
theorem mixed {y : Int} {r : BitVec 32} {c : UInt8} (hy : y = (r.toNat : Int)) : bits .xor .u32 y ((c.toNat : Int) * (16777216 : Int)) = ((r ^^^ high c).toNat : Int) := by
  rw [hy, high_word, xor_words]

theorem not_max (s : BitVec 32) : bits .xor .u32 IntKind.u32.max (s.toNat : Int) = ((~~~ s).toNat : Int) := not_word s

theorem more_calls (x : Int) (s : BitVec 32) (hx : x = (s.toNat : Int)) (a : Option Addr) (n c : Nat) (l : List UInt8) (B : Nat) (w : World) (hr : Row8 w B a n c l) :
    Calls Try.prog 13 #[.int .u32 x, .slice a n c] w fun e w' => e = .returned (.int .u32 ((more s l).toNat : Int)) ∧ w = w' := by
  have hn : n ≤ 9223372036854775807 := by have h1 := hr.room; have h2 := hr.cap; unfold maxLen at h2; omega
  have H0 : Hid (bits .xor .u32 4294967295 x = ((~~~ s).toNat : Int)) := by show _ = _; rw [hx]; exact not_word s
  have HR := hid hr
  have HN := hid hr.len
  clear hx hr
  go_enter Try.func13, Try.ntmps13
  go_wp2
  go_loop [5, 12] (fun t i => ∃ k : Nat, ∃ y : Int, k ≤ n ∧ i = .int .i64 k ∧ t = .int .u32 y ∧ Hid (y = ((reg (~~~ s) (l.take k)).toNat : Int))) (fun _ i => n - (intOf i).toNat)
  case atStart => exact ⟨0, _, by omega, rfl, rfl, H0⟩
  case round =>
    obtain ⟨k, y, hk, rfl, rfl, H⟩ := hrel
    by_cases hlt : k < n
    · obtain ⟨b, off, d, rfl, _, hl, hc⟩ := HR.out.at_ hlt
      have hd := d.toNat_lt
      have HL := hid hl
      clear hl
      have hm := mixed (c := d) H.out
      have HM := hid hm
      clear hm
      go_wp2_with (go_at_call 21; refine (steps_calls _ (reg (~~~ s) (l.take k) ^^^ high d) HM.out _).mono ?_; rintro e w' ⟨rfl, rfl⟩)
      go_round
      case rel => exact ⟨k + 1, _, by omega, by go_num, rfl, by rw [reg_snoc _ _ _ _ HL.out]; rfl⟩
      case measure => simp [intOf]; omega
    · obtain rfl : k = n := by omega
      go_wp2
      go_ret
      refine ⟨ret_int ?_, rfl⟩
      rw [H.out, not_max, ← HN.out, List.take_length]
      rfl

theorem moreR_calls (x : Int) (s : BitVec 32) (hx : x = (s.toNat : Int)) (a : Option Addr) (n c : Nat) (l : List UInt8) (B : Nat) (w : World) (hr : Row8 w B a n c l) :
    Calls Try.prog 14 #[.int .u32 x, .slice a n c] w fun e w' => e = .returned (.int .u32 ((more s l).toNat : Int)) ∧ w = w' := by
  have hn : n ≤ 9223372036854775807 := by have h1 := hr.room; have h2 := hr.cap; unfold maxLen at h2; omega
  have H0 : Hid (bits .xor .u32 4294967295 x = ((~~~ s).toNat : Int)) := by show _ = _; rw [hx]; exact not_word s
  have HR := hid hr
  have HN := hid hr.len
  clear hx hr
  go_enter Try.func14, Try.ntmps14
  go_wp2
  go_loop [0, 5] (fun t i => ∃ k : Nat, ∃ y : Int, k ≤ n ∧ i = .int .i64 k ∧ t = .int .u32 y ∧ Hid (y = ((reg (~~~ s) (l.take k)).toNat : Int))) (fun _ i => n - (intOf i).toNat)
  case atStart => exact ⟨0, _, by omega, rfl, rfl, H0⟩
  case round =>
    obtain ⟨k, y, hk, rfl, rfl, H⟩ := hrel
    by_cases hlt : k < n
    · obtain ⟨b, off, d, rfl, _, hl, hc⟩ := HR.out.at_ hlt
      have hd := d.toNat_lt
      have HL := hid hl
      clear hl
      have hm := mixed (c := d) H.out
      have HM := hid hm
      clear hm
      go_wp2_with (go_at_call 15; refine (eight_calls _ (reg (~~~ s) (l.take k) ^^^ high d) HM.out _).mono ?_; rintro e w' ⟨rfl, rfl⟩)
      go_round
      case rel => exact ⟨k + 1, _, by omega, by go_num, rfl, by rw [reg_snoc _ _ _ _ HL.out]; rfl⟩
      case measure => simp [intOf]; omega
    · obtain rfl : k = n := by omega
      go_wp2
      go_ret
      refine ⟨ret_int ?_, rfl⟩
      rw [H.out, not_max, ← HN.out, List.take_length]
      rfl

theorem of_calls (a : Option Addr) (n c : Nat) (l : List UInt8) (B : Nat) (w : World) (hr : Row8 w B a n c l) :
    Calls Try.prog 12 #[.slice a n c] w fun e w' => e = .returned (.int .u32 ((of l).toNat : Int)) ∧ w = w' := by
  have HR := hid hr
  clear hr
  go_enter Try.func12, Try.ntmps12
  go_wp2_with (go_at_call 13; refine (more_calls 0 0#32 rfl a n c l B _ HR.out).mono ?_; rintro e w' ⟨rfl, rfl⟩)
  go_ret
  exact ⟨rfl, rfl⟩
theorem ofR_calls (a : Option Addr) (n c : Nat) (l : List UInt8) (B : Nat) (w : World) (hr : Row8 w B a n c l) :
    Calls Try.prog 10 #[.slice a n c] w fun e w' => e = .returned (.int .u32 ((of l).toNat : Int)) ∧ w = w' := by
  have HR := hid hr
  clear hr
  go_enter Try.func10, Try.ntmps10
  go_wp2_with (go_at_call 14; refine (moreR_calls 0 0#32 rfl a n c l B _ HR.out).mono ?_; rintro e w' ⟨rfl, rfl⟩)
  go_ret
  exact ⟨rfl, rfl⟩

theorem num4_snoc (l : List UInt8) (k : Nat) (c : UInt8) (h : l[k]? = some c) : num4 (l.take (k + 1)) = (num4 (l.take k) * 256 + c.toNat) % 4294967296 := by
  rw [List.take_add_one, h]; simp [num4]
theorem num4_lt (l : List UInt8) : num4 l < 4294967296 := by
  rcases List.eq_nil_or_concat l with rfl | ⟨m, c, rfl⟩
  · decide
  · simp [num4]; omega
theorem joined (N : Nat) (c : UInt8) : bits .or .u32 ((N : Int) * (256 : Int) % (4294967296 : Int)) (c.toNat : Int) = (((N * 256 + c.toNat) % 4294967296 : Nat) : Int) := by
  have hc := c.toNat_lt
  have e : (N : Int) * (256 : Int) % (4294967296 : Int) = ((N % 16777216 * 256 : Nat) : Int) := by omega
  rw [e, u32_or_nat _ _ (by omega) (by omega)]
  have h := Nat.two_pow_add_eq_or_of_lt (i := 8) (b := c.toNat) (by omega) (N % 16777216)
  have e2 : N % 16777216 * 256 = 2 ^ 8 * (N % 16777216) := by omega
  rw [e2, ← h]
  omega
theorem number_calls (a : Option Addr) (n c : Nat) (l : List UInt8) (B : Nat) (w : World) (hr : Row8 w B a n c l) :
    Calls Try.prog 22 #[.slice a n c] w fun e w' => e = .returned (.int .u32 (num4 l : Int)) ∧ w = w' := by
  have hn : n ≤ 9223372036854775807 := by have h1 := hr.room; have h2 := hr.cap; unfold maxLen at h2; omega
  have HR := hid hr
  have HN := hid hr.len
  clear hr
  go_enter Try.func22, Try.ntmps22
  go_wp2
  go_loop [3, 8] (fun t i => ∃ k : Nat, ∃ y : Int, k ≤ n ∧ 0 ≤ y ∧ y < 4294967296 ∧ i = .int .i64 k ∧ t = .int .u32 y ∧ Hid (y = (num4 (l.take k) : Int))) (fun _ i => n - (intOf i).toNat)
  case atStart => exact ⟨0, _, by omega, by omega, by omega, rfl, rfl, rfl⟩
  case round =>
    obtain ⟨k, y, hk, hy0, hy1, rfl, rfl, H⟩ := hrel
    by_cases hlt : k < n
    · obtain ⟨b, off, d, rfl, _, hl, hc⟩ := HR.out.at_ hlt
      have hd := d.toNat_lt
      have HL := hid hl
      clear hl
      go_wp2
      go_round
      case rel =>
        have e := joined (num4 (l.take k)) d
        rw [← H.out, ← num4_snoc l k d HL.out] at e
        have b := num4_lt (l.take (k + 1))
        exact ⟨k + 1, _, by omega, by rw [e]; omega, by rw [e]; omega, by go_num, rfl, e⟩
      case measure => simp [intOf]; omega
    · obtain rfl : k = n := by omega
      go_wp2
      go_ret
      refine ⟨ret_int ?_, rfl⟩
      rw [H.out, ← HN.out, List.take_length]
end Go.Proofs.Ytnfhholdaidpnaa.Sm
