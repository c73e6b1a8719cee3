/- What chapter 3's calls that only read (wire.Number, wire.Offset, and what lies beneath them) return, for all bytes; each leaves the world as it was. -/
import Derived.Test.YtfpgdimgffamoaaGreatDoorWrBase
namespace Go.Proofs.YtfpgdimgffamoaaGreatDoor.Wr
open Go.ChangeShapes Go.WideShapes Go.ChangeAt Go.RowKit Go.Proofs.YtfpgdimgffamoaaGreatDoor.Sm
set_option maxHeartbeats 400000

theorem fits_yes (k : Int) (h1 : 1 ≤ k) (h7 : k ≤ 7) (w : World) : Calls Tryz.prog 77 #[.int .i64 k] w fun e w' => e = .returned (.bool true) ∧ w = w' := by
  go_enter Tryz.func77, Tryz.ntmps77
  go_wp2
  go_ret
  exact ⟨rfl, rfl⟩
theorem fits_no (k : Int) (h : k < 1 ∨ 7 < k) (w : World) : Calls Tryz.prog 77 #[.int .i64 k] w fun e w' => e = .returned (.bool false) ∧ w = w' := by
  rcases h with h | h
  · go_enter Tryz.func77, Tryz.ntmps77
    go_wp2
    go_ret
    exact ⟨rfl, rfl⟩
  · have hd : decide (k ≤ 7) = false := by simpa using h
    go_enter Tryz.func77, Tryz.ntmps77
    go_wp2
    go_ret
    exact ⟨rfl, rfl⟩
/-- how many numbers have this width. -/
theorem values_calls (k p : Int) (h1 : 1 ≤ k) (h7 : k ≤ 7) (hp : ((256 ^ k.toNat : Nat) : Int) = p) (w : World) : Calls Tryz.prog 78 #[.int .i64 k] w fun e w' => e = .returned (.int .i64 p) ∧ w = w' := by
  subst hp
  have hk : k = 1 ∨ k = 2 ∨ k = 3 ∨ k = 4 ∨ k = 5 ∨ k = 6 ∨ k = 7 := by omega
  rcases hk with rfl | rfl | rfl | rfl | rfl | rfl | rfl
  all_goals
    clear h1 h7
    go_enter Tryz.func78, Tryz.ntmps78
    go_wp2
    go_ret
    exact ⟨rfl, rfl⟩
theorem number_calls (a : Option Addr) (n c : Nat) (l : List UInt8) (B : Nat) (w : World) (hr : Row8 w B a n c l) :
    Calls Tryz.prog 85 #[.slice a n c] w fun e w' => e = .returned (.int .i64 (numI l)) ∧ w = w' := by
  have hn : n ≤ 9223372036854775807 := by have h1 := hr.room; have h2 := hr.cap; unfold maxLen at h2; omega
  have HR := hid hr
  have HN := hid hr.len
  clear hr
  by_cases hb : (n : Int) < 1 ∨ 7 < (n : Int)
  · go_enter Tryz.func85, Tryz.ntmps85
    go_wp2_with (go_at_call 77; refine (fits_no _ hb _).mono ?_; rintro e w' ⟨rfl, rfl⟩)
    go_ret
    refine ⟨ret_int ?_, rfl⟩
    unfold numI
    rw [HN.out]
    split
    · have e : l = [] := List.eq_nil_of_length_eq_zero (by rw [HN.out]; omega)
      rw [e]; rfl
    · rfl
  · have h1 : 1 ≤ (n : Int) := by omega
    have h7 : (n : Int) ≤ 7 := by omega
    clear hb
    go_enter Tryz.func85, Tryz.ntmps85
    go_wp2_with (go_at_call 77; refine (fits_yes _ h1 h7 _).mono ?_; rintro e w' ⟨rfl, rfl⟩)
    go_loop [3, 12] (fun t i => ∃ k : Nat, ∃ y : Int, k ≤ n ∧ 0 ≤ y ∧ i = .int .i64 k ∧ t = .int .i64 y ∧ Hid (y = (num (l.take k) : Int))) (fun _ i => n - (intOf i).toNat)
    case atStart => exact ⟨0, _, by omega, by omega, rfl, rfl, rfl⟩
    case round =>
      obtain ⟨k, y, hk, hy0, rfl, rfl, H⟩ := hrel
      by_cases hlt : k < n
      · obtain ⟨b, off, d, rfl, _, hl, hc⟩ := HR.out.at_ hlt
        have hd := d.toNat_lt
        have HL := hid hl
        clear hl
        have hy1 : y < 281474976710656 := by have := num_lt6 (l := l) (k := k) (by omega); have := H.out; omega
        go_wp2
        go_round
        case rel =>
          have e := joined (num (l.take k)) (num_lt6 (by omega)) d
          rw [← H.out, ← num_snoc l k d HL.out] at e
          exact ⟨k + 1, _, by omega, by rw [e]; omega, by go_num, rfl, e⟩
        case measure => simp [intOf]; omega
      · obtain rfl : k = n := by omega
        go_wp2
        go_ret
        refine ⟨ret_int ?_, rfl⟩
        unfold numI
        rw [H.out, ← HN.out, List.take_length, if_pos (by rw [HN.out]; omega)]
theorem offset_calls (a : Option Addr) (n c : Nat) (l : List UInt8) (B : Nat) (w : World) (hr : Row8 w B a n c l) :
    Calls Tryz.prog 87 #[.slice a n c] w fun e w' => e = .returned (.int .i64 (offI l)) ∧ w = w' := by
  have hn : n ≤ 9223372036854775807 := by have h1 := hr.room; have h2 := hr.cap; unfold maxLen at h2; omega
  have HR := hid hr
  have HN := hid hr.len
  clear hr
  by_cases hb : (n : Int) < 1 ∨ 7 < (n : Int)
  · go_enter Tryz.func87, Tryz.ntmps87
    go_wp2_with (go_at_call 77; refine (fits_no _ hb _).mono ?_; rintro e w' ⟨rfl, rfl⟩)
    go_ret
    exact ⟨ret_int (offI_zero (by rw [HN.out]; omega)).symm, rfl⟩
  · have h1 : 1 ≤ (n : Int) := by omega
    have h7 : (n : Int) ≤ 7 := by omega
    clear hb
    obtain ⟨p, hp, hp1, hp2, hp3⟩ := pow_p h1 h7
    have HP := hid hp
    obtain ⟨y, hy⟩ : ∃ y, numI l = y := ⟨_, rfl⟩
    have hlen : 1 ≤ l.length ∧ l.length ≤ 7 := by rw [HN.out]; omega
    have hyp : 0 ≤ y ∧ y < p := by
      rw [← hy, numI_eq hlen.2, ← hp, Int.toNat_natCast, ← HN.out]
      have := num_lt l
      omega
    obtain ⟨hy0, hy1⟩ := hyp
    have hcmp : 256 ^ l.length / 2 ≤ num l ↔ p / 2 ≤ y := by
      rw [← hy, numI_eq hlen.2, ← hp, Int.toNat_natCast, ← HN.out]
      omega
    have HY := hid hy
    have hpl : ((256 ^ l.length : Nat) : Int) = p := by rw [← hp, Int.toNat_natCast, ← HN.out]
    have HPL := hid hpl
    by_cases hh : p / 2 ≤ y
    · have HE := hid (offI_high hlen (hcmp.2 hh))
      clear hp hy hcmp hpl hlen
      go_enter Tryz.func87, Tryz.ntmps87
      go_wp2_with (first | (go_at_call 77; refine (fits_yes _ h1 h7 _).mono ?_; rintro e w' ⟨rfl, rfl⟩) | (go_at_call 85; refine (number_calls _ _ _ l _ _ HR.out).mono ?_; rw [HY.out]; rintro e w' ⟨rfl, rfl⟩) | (go_at_call 78; refine (values_calls _ p h1 h7 HP.out _).mono ?_; rintro e w' ⟨rfl, rfl⟩))
      go_ret
      exact ⟨ret_int (by rw [HE.out, HY.out, HPL.out]), rfl⟩
    · have HE := hid (offI_low hlen (fun h => hh (hcmp.1 h)))
      clear hp hy hcmp hpl hlen
      go_enter Tryz.func87, Tryz.ntmps87
      go_wp2_with (first | (go_at_call 77; refine (fits_yes _ h1 h7 _).mono ?_; rintro e w' ⟨rfl, rfl⟩) | (go_at_call 85; refine (number_calls _ _ _ l _ _ HR.out).mono ?_; rw [HY.out]; rintro e w' ⟨rfl, rfl⟩) | (go_at_call 78; refine (values_calls _ p h1 h7 HP.out _).mono ?_; rintro e w' ⟨rfl, rfl⟩))
      go_ret
      exact ⟨ret_int (by rw [HE.out, HY.out]), rfl⟩
end Go.Proofs.YtfpgdimgffamoaaGreatDoor.Wr
