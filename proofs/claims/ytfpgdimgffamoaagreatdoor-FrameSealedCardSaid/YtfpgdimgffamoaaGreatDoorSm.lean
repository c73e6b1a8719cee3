/- What chapter 2's calls that only read (sum.Of, sum.More, and the steps beneath them) return, for all bytes; each leaves the world as it was. -/
import Derived.Test.YtfpgdimgffamoaaGreatDoorSmBase
namespace Go.Proofs.YtfpgdimgffamoaaGreatDoor.Sm
open Go.ChangeShapes Go.WideShapes Go.ChangeAt Go.RowKit
set_option maxHeartbeats 400000

theorem steps_calls (x : Int) (s : BitVec 32) (hx : x = (s.toNat : Int)) (w : World) :
    Calls Tryz.prog 79 #[.int .u32 x] w fun e w' => e = .returned (.int .u32 ((steps 8 s).toNat : Int)) ∧ w = w' := by
  have H0 := hid hx
  have hb : 0 ≤ x ∧ x < 4294967296 := by rw [hx]; exact word_lt s
  obtain ⟨hb0, hb1⟩ := hb
  clear hx
  go_enter Tryz.func79, Tryz.ntmps79
  go_wp2
  go_loop [0, 4] (fun t i => ∃ k : Nat, ∃ y : Int, k ≤ 8 ∧ 0 ≤ y ∧ y < 4294967296 ∧ i = .int .i64 k ∧ t = .int .u32 y ∧ Hid (y = ((steps k s).toNat : Int))) (fun _ i => 8 - (intOf i).toNat)
  case atStart => exact ⟨0, x, by omega, hb0, hb1, rfl, rfl, H0⟩
  case round =>
    clear H0 hb0 hb1
    obtain ⟨k, y, hk, hy0, hy1, rfl, rfl, H⟩ := hrel
    by_cases hlt : k < 8
    · go_wp2
      all_goals go_round
      case rel =>
        have e := step_yes H.out ‹_›
        have b := word_lt (step (steps k s))
        exact ⟨k + 1, _, by omega, by rw [e]; exact b.1, by rw [e]; exact b.2, by go_num, rfl, by rw [steps_succ]; exact e⟩
      case measure => simp [intOf]; omega
      case rel =>
        have e := step_no H.out ‹_›
        have b := word_lt (step (steps k s))
        exact ⟨k + 1, _, by omega, by rw [e]; exact b.1, by rw [e]; exact b.2, by go_num, rfl, by rw [steps_succ]; exact e⟩
      case measure => simp [intOf]; omega
    · obtain rfl : k = 8 := by omega
      go_wp2
      go_ret
      exact ⟨ret_int H.out, rfl⟩
theorem more_calls (x : Int) (s : BitVec 32) (hx : x = (s.toNat : Int)) (a : Option Addr) (n c : Nat) (l : List UInt8) (B : Nat) (w : World) (hr : Row8 w B a n c l) :
    Calls Tryz.prog 64 #[.int .u32 x, .slice a n c] w fun e w' => e = .returned (.int .u32 ((more s l).toNat : Int)) ∧ w = w' := by
  have hn : n ≤ 9223372036854775807 := by have h1 := hr.room; have h2 := hr.cap; unfold maxLen at h2; omega
  have H0 : Hid (bits .xor .u32 4294967295 x = ((~~~ s).toNat : Int)) := by show _ = _; rw [hx]; exact not_word s
  have HR := hid hr
  have HN := hid hr.len
  clear hx hr
  go_enter Tryz.func64, Tryz.ntmps64
  go_wp2
  go_loop [5, 12] (fun t i => ∃ k : Nat, ∃ y : Int, k ≤ n ∧ i = .int .i64 k ∧ t = .int .u32 y ∧ Hid (y = ((reg (~~~ s) (l.take k)).toNat : Int))) (fun _ i => n - (intOf i).toNat)
  case atStart => exact ⟨0, _, by omega, rfl, rfl, H0⟩
  case round =>
    obtain ⟨k, y, hk, rfl, rfl, H⟩ := hrel
    by_cases hlt : k < n
    · obtain ⟨b, off, d, rfl, _, hl, hc⟩ := HR.out.at_ hlt
      have hd := d.toNat_lt
      have HL := hid hl
      clear hl
      have hm := mixed (c := d) H.out
      have HM := hid hm
      clear hm
      go_wp2_with (go_at_call 79; refine (steps_calls _ (reg (~~~ s) (l.take k) ^^^ high d) HM.out _).mono ?_; rintro e w' ⟨rfl, rfl⟩)
      go_round
      case rel => exact ⟨k + 1, _, by omega, by go_num, rfl, by rw [reg_snoc _ _ _ _ HL.out]; rfl⟩
      case measure => simp [intOf]; omega
    · obtain rfl : k = n := by omega
      go_wp2
      go_ret
      refine ⟨ret_int ?_, rfl⟩
      rw [H.out, not_max, ← HN.out, List.take_length]
      rfl
theorem of_calls (a : Option Addr) (n c : Nat) (l : List UInt8) (B : Nat) (w : World) (hr : Row8 w B a n c l) :
    Calls Tryz.prog 35 #[.slice a n c] w fun e w' => e = .returned (.int .u32 ((of l).toNat : Int)) ∧ w = w' := by
  have HR := hid hr
  clear hr
  go_enter Tryz.func35, Tryz.ntmps35
  go_wp2_with (go_at_call 64; refine (more_calls 0 0#32 rfl a n c l B _ HR.out).mono ?_; rintro e w' ⟨rfl, rfl⟩)
  go_ret
  exact ⟨rfl, rfl⟩
theorem number_calls (a : Option Addr) (n c : Nat) (l : List UInt8) (B : Nat) (w : World) (hr : Row8 w B a n c l) :
    Calls Tryz.prog 36 #[.slice a n c] w fun e w' => e = .returned (.int .u32 (num4 l : Int)) ∧ w = w' := by
  have hn : n ≤ 9223372036854775807 := by have h1 := hr.room; have h2 := hr.cap; unfold maxLen at h2; omega
  have HR := hid hr
  have HN := hid hr.len
  clear hr
  go_enter Tryz.func36, Tryz.ntmps36
  go_wp2
  go_loop [3, 8] (fun t i => ∃ k : Nat, ∃ y : Int, k ≤ n ∧ 0 ≤ y ∧ y < 4294967296 ∧ i = .int .i64 k ∧ t = .int .u32 y ∧ Hid (y = (num4 (l.take k) : Int))) (fun _ i => n - (intOf i).toNat)
  case atStart => exact ⟨0, _, by omega, by omega, by omega, rfl, rfl, rfl⟩
  case round =>
    obtain ⟨k, y, hk, hy0, hy1, rfl, rfl, H⟩ := hrel
    by_cases hlt : k < n
    · obtain ⟨b, off, d, rfl, _, hl, hc⟩ := HR.out.at_ hlt
      have hd := d.toNat_lt
      have HL := hid hl
      clear hl
      go_wp2
      go_round
      case rel =>
        have e := joined (num4 (l.take k)) d
        rw [← H.out, ← num4_snoc l k d HL.out] at e
        have b := num4_lt (l.take (k + 1))
        exact ⟨k + 1, _, by omega, by rw [e]; omega, by rw [e]; omega, by go_num, rfl, e⟩
      case measure => simp [intOf]; omega
    · obtain rfl : k = n := by omega
      go_wp2
      go_ret
      refine ⟨ret_int ?_, rfl⟩
      rw [H.out, ← HN.out, List.take_length]
end Go.Proofs.YtfpgdimgffamoaaGreatDoor.Sm
