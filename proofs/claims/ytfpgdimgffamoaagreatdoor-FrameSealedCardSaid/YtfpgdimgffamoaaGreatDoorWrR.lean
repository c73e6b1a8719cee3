/- The document's own answers to chapter 3's calls that only read. -/
import Derived.Test.YtfpgdimgffamoaaGreatDoorWrBase
namespace Go.Proofs.YtfpgdimgffamoaaGreatDoor.Wr
open Go.ChangeShapes Go.WideShapes Go.ChangeAt Go.RowKit Go.Proofs.YtfpgdimgffamoaaGreatDoor.Sm
set_option maxHeartbeats 400000

theorem numberR_calls (a : Option Addr) (n c : Nat) (l : List UInt8) (B : Nat) (w : World) (hr : Row8 w B a n c l) :
    Calls Tryz.prog 71 #[.slice a n c] w fun e w' => e = .returned (.int .i64 (numI l)) ∧ w = w' := by
  have hn : n ≤ 9223372036854775807 := by have h1 := hr.room; have h2 := hr.cap; unfold maxLen at h2; omega
  have HR := hid hr
  have HN := hid hr.len
  clear hr
  by_cases h7 : 7 < n
  · go_enter Tryz.func71, Tryz.ntmps71
    go_wp2
    go_ret
    refine ⟨ret_int ?_, rfl⟩
    unfold numI
    rw [HN.out, if_neg (by omega)]
  · go_enter Tryz.func71, Tryz.ntmps71
    go_wp2
    go_loop [3, 4] (fun t i => ∃ k : Nat, ∃ y : Int, k ≤ n ∧ 0 ≤ y ∧ i = .int .i64 k ∧ t = .int .i64 y ∧ Hid (y = (num (l.take k) : Int))) (fun _ i => n - (intOf i).toNat)
    case atStart => exact ⟨0, _, by omega, by omega, rfl, rfl, rfl⟩
    case round =>
      obtain ⟨k, y, hk, hy0, rfl, rfl, H⟩ := hrel
      by_cases hlt : k < n
      · obtain ⟨b, off, d, rfl, _, hl, hc⟩ := HR.out.at_ hlt
        have hd := d.toNat_lt
        have HL := hid hl
        clear hl
        have hy1 : y < 281474976710656 := by have := num_lt6 (l := l) (k := k) (by omega); have := H.out; omega
        go_wp2
        go_round
        case rel =>
          have e := joined (num (l.take k)) (num_lt6 (by omega)) d
          rw [← H.out, ← num_snoc l k d HL.out] at e
          exact ⟨k + 1, _, by omega, by rw [e]; omega, by go_num, rfl, e⟩
        case measure => simp [intOf]; omega
      · obtain rfl : k = n := by omega
        go_wp2
        go_ret
        refine ⟨ret_int ?_, rfl⟩
        unfold numI
        rw [H.out, ← HN.out, List.take_length, if_pos (by rw [HN.out]; omega)]
set_option maxRecDepth 10000 in
theorem offsetR_calls (a : Option Addr) (n c : Nat) (l : List UInt8) (B : Nat) (w : World) (hr : Row8 w B a n c l) :
    Calls Tryz.prog 73 #[.slice a n c] w fun e w' => e = .returned (.int .i64 (offI l)) ∧ w = w' := by
  have hn : n ≤ 9223372036854775807 := by have h1 := hr.room; have h2 := hr.cap; unfold maxLen at h2; omega
  have HR := hid hr
  have HN := hid hr.len
  clear hr
  by_cases hz : n = 0
  · subst hz
    go_enter Tryz.func73, Tryz.ntmps73
    go_wp2
    go_ret
    exact ⟨ret_int (offI_zero (by rw [HN.out]; omega)).symm, rfl⟩
  have hz1 : ((n : Int) == 0) = false := by simp; omega
  by_cases h8 : 7 < n
  · go_enter Tryz.func73, Tryz.ntmps73
    go_wp2
    go_ret
    exact ⟨ret_int (offI_zero (by rw [HN.out]; omega)).symm, rfl⟩
  have hlen : 1 ≤ l.length ∧ l.length ≤ 7 := by rw [HN.out]; omega
  obtain ⟨y, hy⟩ : ∃ y, numI l = y := ⟨_, rfl⟩
  have hyb : 0 ≤ y ∧ y < 72057594037927936 := by
    rw [← hy, numI_eq hlen.2]
    have h1 := num_lt l
    have h2 := pow_le hlen.2
    omega
  obtain ⟨hy0, hy1⟩ := hyb
  have HY := hid hy
  obtain ⟨b, off, d, rfl, _, hl, hc⟩ := HR.out.at_ (k := 0) (by omega)
  rw [Nat.add_zero] at hc
  obtain ⟨l', rfl⟩ : ∃ l', l = d :: l' := by
    cases l with
    | nil => simp at hl
    | cons x l' => simp at hl; exact ⟨l', by rw [hl]⟩
  have hd := d.toNat_lt
  have hh := first_half (c := d) (l := l')
  clear hl hy
  by_cases h128 : 128 ≤ (d.toNat : Int)
  · have HE := hid (offI_high hlen (hh.2 (by omega)))
    clear hh hlen
    have hk : n = 1 ∨ n = 2 ∨ n = 3 ∨ n = 4 ∨ n = 5 ∨ n = 6 ∨ n = 7 := by omega
    rcases hk with rfl | rfl | rfl | rfl | rfl | rfl | rfl
    all_goals
      clear hn hz h8
      go_enter Tryz.func73, Tryz.ntmps73
      go_wp2_with (go_at_call 71; refine (numberR_calls _ _ _ (d :: l') _ _ HR.out).mono ?_; rw [HY.out]; rintro e w' ⟨rfl, rfl⟩)
      go_ret
      exact ⟨ret_int (by rw [HE.out, HY.out, HN.out]; rfl), rfl⟩
  · have HE := hid (offI_low hlen (fun h => h128 (by have := hh.1 h; omega)))
    clear hh hlen
    go_enter Tryz.func73, Tryz.ntmps73
    go_wp2_with (go_at_call 71; refine (numberR_calls _ _ _ (d :: l') _ _ HR.out).mono ?_; rw [HY.out]; rintro e w' ⟨rfl, rfl⟩)
    go_ret
    exact ⟨ret_int (by rw [HE.out, HY.out]), rfl⟩
end Go.Proofs.YtfpgdimgffamoaaGreatDoor.Wr
