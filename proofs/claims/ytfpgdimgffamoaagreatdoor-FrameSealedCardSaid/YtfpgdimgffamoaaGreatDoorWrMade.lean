/- What chapter 3's calls that write numbers as bytes (wire.Plain, wire.Signed) return, for all numbers and widths. -/
import Derived.Test.YtfpgdimgffamoaaGreatDoorWr
namespace Go.Proofs.YtfpgdimgffamoaaGreatDoor.Wr
open Go.ChangeShapes Go.WideShapes Go.ChangeAt Go.RowKit Go.Proofs.YtfpgdimgffamoaaGreatDoor.Sm
set_option maxHeartbeats 400000
set_option maxRecDepth 100000

theorem plain_yes (N m : Nat) (h1 : 1 ≤ (m : Int)) (h7 : (m : Int) ≤ 7) (hN : N < 256 ^ m) (w : World) :
    Calls Tryz.prog 76 #[.int .i64 N, .int .i64 m] w fun e w' => RetPair w 5 (be N m) true e w' := by
  obtain ⟨i0, hi0, hz0, hz1, hz2⟩ := info_parts byte_info
  obtain ⟨p, hp, hp1, hp2, hp3⟩ := pow_p h1 h7
  have hnp : (N : Int) < p := by rw [← hp, Int.toNat_natCast]; omega
  have HP := hid hp
  clear hp hN
  go_enter Tryz.func76, Tryz.ntmps76
  go_wp2_with (first | (go_at_call 77; refine (fits_yes _ h1 h7 _).mono ?_; rintro e w' ⟨rfl, rfl⟩) | (go_at_call 78; refine (values_calls _ p h1 h7 HP.out _).mono ?_; rintro e w' ⟨rfl, rfl⟩) | (at_make; refine wpList_make_full _ rfl _ _ _ rfl w.heap.size 5 i0 _ 1 Tryz.underlying22 hi0 hz0 hz1 _ _ _ _ m rfl rfl rfl rfl (by rw [hz2]; omega) (by unfold maxLen; omega) (Nat.le_refl _) ?_; intro w1 hown1 hgrow1; have hb1 : Below w.heap.size w w1 := (Below.refl _ _).grown hgrow1 (Nat.le_refl _) (fun k hk => by cases hk)))
  rw [Nat.mul_one, show (Value.int IntKind.u8 0).cells = #[.int .u8 0] from rfl, toList_madeCells_one, zeros_cells] at hown1
  have HO1 := hid hown1
  have hgb : w.heap.size < w1.heap.size := (hown1.lt _ rfl).2
  clear hown1 hgrow1
  go_loopw [25] (fun i wr => ∃ j : Nat, j ≤ m ∧ i = .int .i64 j ∧ Hid (wr.ownsRow w.heap.size 5 1 (.slice (some ⟨w.heap.size, 0, none⟩) m m) m (cells8 (List.replicate (m - j) 0 ++ be N j))) ∧ Below w.heap.size w wr) (fun i _ => m - (intOf i).toNat)
  case atStart => exact ⟨0, by omega, rfl, HO1, hb1⟩
  case round =>
    clear HO1 hb1
    obtain ⟨j, hj, rfl, HO, hb⟩ := hrel
    by_cases hlt : j < m
    · obtain ⟨q, rfl⟩ : ∃ q, m = q + 1 + j := ⟨m - 1 - j, by omega⟩
      have hl : (List.replicate (q + 1 + j - j) (0 : UInt8) ++ be N j).length = q + 1 + j := by rw [List.length_append, be_length, List.length_replicate]; omega
      have hc : ∃ v, wr.cell? ⟨w.heap.size, q, none⟩ = some v := by
        rw [HO.out.cellAt _ (by omega), cells8_get]
        exact ⟨_, by rw [List.getElem?_eq_getElem (by rw [hl]; omega)]; rfl⟩
      obtain ⟨v, hc⟩ := hc
      have hf := HO.out.frozenAt q
      have hq : ((q + 1 + j : Nat) : Int) - 1 - (j : Int) = (q : Int) := by omega
      clear hl
      go_wp2
      go_roundw
      case rel =>
        refine ⟨j + 1, by omega, by go_num, ?_, hb.setCell (by exact Nat.le_refl _) _⟩
        have h := (HO.out.stored q (.int .u8 ((N / 256 ^ j % 256 : Nat) : Int))).1
        rw [show q + 1 + j - j = q + 1 by omega, put_byte] at h
        rw [show q + 1 + j - (j + 1) = q by omega, ← shr_byte] at *
        exact h
      case measure => simp [intOf]; omega
    · obtain rfl : j = m := by omega
      go_wp2
      go_ret2
      refine ⟨_, rfl, ?_, hb⟩
      rw [be_length]
      have := HO.out
      rw [Nat.sub_self] at this
      exact this
theorem plain_no (n k : Int) (h : plainB n k = false) (w : World) :
    Calls Tryz.prog 76 #[.int .i64 n, .int .i64 k] w fun e w' => RetPair w 5 [] false e w' := by
  have h' : ¬ ((1 ≤ k ∧ k ≤ 7) ∧ 0 ≤ n ∧ n < 256 ^ k.toNat) := by unfold plainB at h; exact of_decide_eq_false h
  clear h
  by_cases hb : k < 1 ∨ 7 < k
  · clear h'
    go_enter Tryz.func76, Tryz.ntmps76
    go_wp2_with (go_at_call 77; refine (fits_no _ hb _).mono ?_; rintro e w' ⟨rfl, rfl⟩)
    go_ret2
    exact ⟨_, rfl, made_nil _ _⟩
  have h1 : 1 ≤ k := by omega
  have h7 : k ≤ 7 := by omega
  by_cases hn : n < 0
  · clear h' hb
    go_enter Tryz.func76, Tryz.ntmps76
    go_wp2_with (go_at_call 77; refine (fits_yes _ h1 h7 _).mono ?_; rintro e w' ⟨rfl, rfl⟩)
    go_ret2
    exact ⟨_, rfl, made_nil _ _⟩
  obtain ⟨p, hp, hp1, hp2, hp3⟩ := pow_p h1 h7
  have hnp : p ≤ n := by
    rw [pow_cast, hp] at h'
    omega
  have HP := hid hp
  clear hp h' hb
  go_enter Tryz.func76, Tryz.ntmps76
  go_wp2_with (first | (go_at_call 77; refine (fits_yes _ h1 h7 _).mono ?_; rintro e w' ⟨rfl, rfl⟩) | (go_at_call 78; refine (values_calls _ p h1 h7 HP.out _).mono ?_; rintro e w' ⟨rfl, rfl⟩))
  go_ret2
  exact ⟨_, rfl, made_nil _ _⟩
/-- P301, both ways. -/
theorem plain_calls (n k : Int) (w : World) :
    Calls Tryz.prog 76 #[.int .i64 n, .int .i64 k] w fun e w' => RetPair w 5 (plainL n k) (plainB n k) e w' := by
  cases h : plainB n k with
  | false =>
    have e : plainL n k = [] := by unfold plainL; rw [h]; rfl
    rw [e]
    exact plain_no n k h w
  | true =>
    have e : plainL n k = be n.toNat k.toNat := by unfold plainL; rw [if_pos h]
    rw [e]
    have h' := of_decide_eq_true (show decide _ = true from h)
    obtain ⟨⟨h1, h7⟩, h0, hp⟩ := h'
    obtain ⟨N, rfl⟩ := Int.eq_ofNat_of_zero_le h0
    obtain ⟨m, rfl⟩ := Int.eq_ofNat_of_zero_le (show 0 ≤ k by omega)
    rw [Int.toNat_natCast, Int.toNat_natCast]
    exact plain_yes N m h1 h7 (by rw [Int.toNat_natCast, pow_cast] at hp; omega) w
theorem signed_yes (n k : Int) (h : signedB n k = true) (w : World) :
    Calls Tryz.prog 60 #[.int .i64 n, .int .i64 k] w fun e w' => RetPair w 5 (signedL n k) true e w' := by
  have h' := of_decide_eq_true (show decide _ = true from h)
  have hc := plain_calls (lifted n k) k w
  rw [(signed_plain h).1, (signed_plain h).2] at hc
  unfold lifted at hc
  obtain ⟨⟨h1, h7⟩, hl, hu⟩ := h'
  obtain ⟨p, hp, hp1, hp2, hp3⟩ := pow_p h1 h7
  rw [pow_cast, hp] at hl hu hc
  have HP := hid hp
  clear hp h
  by_cases hn : n < 0
  · rw [if_pos hn] at hc
    have HC := hid hc
    clear hc
    go_enter Tryz.func60, Tryz.ntmps60
    go_wp2_with (first | (go_at_call 77; refine (fits_yes _ h1 h7 _).mono ?_; rintro e w' ⟨rfl, rfl⟩) | (go_at_call 78; refine (values_calls _ p h1 h7 HP.out _).mono ?_; rintro e w' ⟨rfl, rfl⟩) | (go_at_call 76; refine (HC.out).mono ?_; rintro e w' ⟨v, rfl, hm⟩))
    go_ret2
    exact ⟨_, rfl, hm⟩
  · rw [if_neg hn] at hc
    have HC := hid hc
    clear hc
    go_enter Tryz.func60, Tryz.ntmps60
    go_wp2_with (first | (go_at_call 77; refine (fits_yes _ h1 h7 _).mono ?_; rintro e w' ⟨rfl, rfl⟩) | (go_at_call 78; refine (values_calls _ p h1 h7 HP.out _).mono ?_; rintro e w' ⟨rfl, rfl⟩) | (go_at_call 76; refine (HC.out).mono ?_; rintro e w' ⟨v, rfl, hm⟩))
    go_ret2
    exact ⟨_, rfl, hm⟩
theorem signed_no (n k : Int) (h : signedB n k = false) (w : World) :
    Calls Tryz.prog 60 #[.int .i64 n, .int .i64 k] w fun e w' => RetPair w 5 [] false e w' := by
  have h' : ¬ ((1 ≤ k ∧ k ≤ 7) ∧ -(256 ^ k.toNat / 2) ≤ n ∧ n < 256 ^ k.toNat / 2) := by unfold signedB at h; exact of_decide_eq_false h
  clear h
  by_cases hb : k < 1 ∨ 7 < k
  · clear h'
    go_enter Tryz.func60, Tryz.ntmps60
    go_wp2_with (go_at_call 77; refine (fits_no _ hb _).mono ?_; rintro e w' ⟨rfl, rfl⟩)
    go_ret2
    exact ⟨_, rfl, made_nil _ _⟩
  have h1 : 1 ≤ k := by omega
  have h7 : k ≤ 7 := by omega
  obtain ⟨p, hp, hp1, hp2, hp3⟩ := pow_p h1 h7
  rw [pow_cast, hp] at h'
  have HP := hid hp
  clear hp hb
  by_cases hn : n < -(p / 2)
  · clear h'
    go_enter Tryz.func60, Tryz.ntmps60
    go_wp2_with (first | (go_at_call 77; refine (fits_yes _ h1 h7 _).mono ?_; rintro e w' ⟨rfl, rfl⟩) | (go_at_call 78; refine (values_calls _ p h1 h7 HP.out _).mono ?_; rintro e w' ⟨rfl, rfl⟩))
    go_ret2
    exact ⟨_, rfl, made_nil _ _⟩
  · have hu : p / 2 ≤ n := by omega
    clear h'
    go_enter Tryz.func60, Tryz.ntmps60
    go_wp2_with (first | (go_at_call 77; refine (fits_yes _ h1 h7 _).mono ?_; rintro e w' ⟨rfl, rfl⟩) | (go_at_call 78; refine (values_calls _ p h1 h7 HP.out _).mono ?_; rintro e w' ⟨rfl, rfl⟩))
    go_ret2
    exact ⟨_, rfl, made_nil _ _⟩
theorem signed_calls (n k : Int) (w : World) :
    Calls Tryz.prog 60 #[.int .i64 n, .int .i64 k] w fun e w' => RetPair w 5 (signedL n k) (signedB n k) e w' := by
  cases h : signedB n k with
  | false =>
    have e : signedL n k = [] := by unfold signedL; rw [h]; rfl
    rw [e]
    exact signed_no n k h w
  | true => exact signed_yes n k h w
end Go.Proofs.YtfpgdimgffamoaaGreatDoor.Wr
