/- The document's own answers to chapter 3's calls that write numbers as bytes. -/
import Derived.Test.YtliejllegabdnaaDoorWrBase
namespace Go.Proofs.YtliejllegabdnaaDoor.Wr
open Go.ChangeShapes Go.WideShapes Go.ChangeAt Go.RowKit Go.Proofs.YtliejllegabdnaaDoor.Sm
set_option maxHeartbeats 400000
set_option maxRecDepth 100000

theorem plainR_yes (N m : Nat) (h1 : 1 ≤ (m : Int)) (h7 : (m : Int) ≤ 7) (hN : N < 256 ^ m) (w : World) :
    Calls Tryd.prog 41 #[.int .i64 N, .int .i64 m] w fun e w' => RetPair w 5 (be N m) true e w' := by
  obtain ⟨i0, hi0, hz0, hz1, hz2⟩ := info_parts byte_info
  obtain ⟨p, hp, hp1, hp2, hp3⟩ := pow_p h1 h7
  have hnp : (N : Int) < p := by rw [← hp, Int.toNat_natCast]; omega
  have hs := shl_p h7 hp
  clear hp hN
  go_enter Tryd.func41, Tryd.ntmps41
  go_wp2
  clear hs
  go_loopw [6, 7] (fun v i wr => ∃ q : Nat, q ≤ m ∧ i = .int .i64 ((q : Int) - 1) ∧ Hid (wr.ownsRow w.heap.size 5 1 v ((be N m).take (m - q)).length (cells8 ((be N m).take (m - q)))) ∧ Below w.heap.size w wr) (fun _ i _ => (intOf i + 1).toNat)
  case atStart => exact ⟨m, by omega, rfl, by rw [Nat.sub_self]; exact World.ownsRow_nil _ _ _ _, Below.refl _ _⟩
  case round =>
    obtain ⟨q, hq, rfl, HO, hb⟩ := hrel
    by_cases hlt : 1 ≤ q
    · obtain ⟨r, rfl⟩ : ∃ r, q = r + 1 := ⟨q - 1, by omega⟩
      rw [show (((r + 1 : Nat) : Int) - 1) = (r : Int) by omega]
      go_wp2_with (at_builtin; refine stop ?_)
      unfold Stop
      refine wpList_append_row _ rfl _ _ _ rfl w.heap.size 5 i0 _ Tryd.underlying23 hi0 hz0 hz1 hz2 rfl _ ((be N m).take (m - (r + 1))) rfl (HO.out.alloc _) _ _ 1 1 [UInt8.ofNat (N / 256 ^ r)] rfl (Row8.lit wr _ _ _ 1 rfl (by decide) (byte_cells N r).symm) (by rw [List.length_take, be_length]; omega) (by have := hb.size; simp; omega) ?_
      intro v2 w2 hown hgrow hltb
      have hs := be_take_succ N m (m - (r + 1)) (by omega)
      rw [show m - 1 - (m - (r + 1)) = r by omega, show m - (r + 1) + 1 = m - r by omega] at hs
      rw [← hs] at hown
      have HO2 := hid hown
      have hb2 := (hb.alloc hb.size _).grown hgrow (by have := hb.size; simp; omega) hltb
      clear hs hown hgrow hltb
      go_wp2
      go_roundw
      case rel => exact ⟨r, by omega, rfl, HO2, hb2⟩
      case measure => simp [intOf]
    · obtain rfl : q = 0 := by omega
      go_wp2
      go_ret2
      refine ⟨_, rfl, ?_, hb⟩
      have := HO.out
      rw [Nat.sub_zero, List.take_of_length_le (by rw [be_length]; omega)] at this
      exact this
theorem plainR_no (n k : Int) (h : plainB n k = false) (w : World) :
    Calls Tryd.prog 41 #[.int .i64 n, .int .i64 k] w fun e w' => RetPair w 5 [] false e w' := by
  have h' : ¬ ((1 ≤ k ∧ k ≤ 7) ∧ 0 ≤ n ∧ n < 256 ^ k.toNat) := by unfold plainB at h; exact of_decide_eq_false h
  clear h
  by_cases hb : k < 1
  · clear h'
    go_enter Tryd.func41, Tryd.ntmps41
    go_wp2
    go_ret2
    exact ⟨_, rfl, made_nil _ _⟩
  by_cases hb8 : 7 < k
  · clear h'
    go_enter Tryd.func41, Tryd.ntmps41
    go_wp2
    go_ret2
    exact ⟨_, rfl, made_nil _ _⟩
  have h1 : 1 ≤ k := by omega
  have h7 : k ≤ 7 := by omega
  by_cases hn : n < 0
  · clear h' hb hb8
    go_enter Tryd.func41, Tryd.ntmps41
    go_wp2
    go_ret2
    exact ⟨_, rfl, made_nil _ _⟩
  obtain ⟨m, rfl⟩ := Int.eq_ofNat_of_zero_le (show 0 ≤ k by omega)
  obtain ⟨p, hp, hp1, hp2, hp3⟩ := pow_p h1 h7
  have hnp : p ≤ n := by
    rw [pow_cast, hp] at h'
    omega
  have hs := shl_p h7 hp
  clear hp h' hb hb8
  go_enter Tryd.func41, Tryd.ntmps41
  go_wp2
  go_ret2
  exact ⟨_, rfl, made_nil _ _⟩
theorem plainR_calls (n k : Int) (w : World) :
    Calls Tryd.prog 41 #[.int .i64 n, .int .i64 k] w fun e w' => RetPair w 5 (plainL n k) (plainB n k) e w' := by
  cases h : plainB n k with
  | false =>
    have e : plainL n k = [] := by unfold plainL; rw [h]; rfl
    rw [e]
    exact plainR_no n k h w
  | true =>
    have e : plainL n k = be n.toNat k.toNat := by unfold plainL; rw [if_pos h]
    rw [e]
    have h' := of_decide_eq_true (show decide _ = true from h)
    obtain ⟨⟨h1, h7⟩, h0, hp⟩ := h'
    obtain ⟨N, rfl⟩ := Int.eq_ofNat_of_zero_le h0
    obtain ⟨m, rfl⟩ := Int.eq_ofNat_of_zero_le (show 0 ≤ k by omega)
    rw [Int.toNat_natCast, Int.toNat_natCast]
    exact plainR_yes N m h1 h7 (by rw [Int.toNat_natCast, pow_cast] at hp; omega) w
theorem signedR_no (n k : Int) (h : signedB n k = false) (w : World) :
    Calls Tryd.prog 25 #[.int .i64 n, .int .i64 k] w fun e w' => RetPair w 5 [] false e w' := by
  have h' : ¬ ((1 ≤ k ∧ k ≤ 7) ∧ -(256 ^ k.toNat / 2) ≤ n ∧ n < 256 ^ k.toNat / 2) := by unfold signedB at h; exact of_decide_eq_false h
  clear h
  by_cases hb : k < 1
  · clear h'
    go_enter Tryd.func25, Tryd.ntmps25
    go_wp2
    go_ret2
    exact ⟨_, rfl, made_nil _ _⟩
  by_cases hb8 : 7 < k
  · clear h'
    go_enter Tryd.func25, Tryd.ntmps25
    go_wp2
    go_ret2
    exact ⟨_, rfl, made_nil _ _⟩
  have h1 : 1 ≤ k := by omega
  have h7 : k ≤ 7 := by omega
  obtain ⟨m, rfl⟩ := Int.eq_ofNat_of_zero_le (show 0 ≤ k by omega)
  obtain ⟨p, hp, hp1, hp2, hp3⟩ := pow_p h1 h7
  rw [pow_cast, hp] at h'
  have hs := shl_half h1 h7 hp
  clear hp hb hb8
  by_cases hn : n < -(p / 2)
  · clear h'
    go_enter Tryd.func25, Tryd.ntmps25
    go_wp2
    go_ret2
    exact ⟨_, rfl, made_nil _ _⟩
  · have hu : p / 2 ≤ n := by omega
    clear h'
    go_enter Tryd.func25, Tryd.ntmps25
    go_wp2
    go_ret2
    exact ⟨_, rfl, made_nil _ _⟩
theorem signedR_yes (n k : Int) (h : signedB n k = true) (w : World) :
    Calls Tryd.prog 25 #[.int .i64 n, .int .i64 k] w fun e w' => RetPair w 5 (signedL n k) true e w' := by
  have h' := of_decide_eq_true (show decide _ = true from h)
  have hc := plainR_calls (lifted n k) k w
  rw [(signed_plain h).1, (signed_plain h).2] at hc
  unfold lifted at hc
  obtain ⟨⟨h1, h7⟩, hl, hu⟩ := h'
  obtain ⟨m, rfl⟩ := Int.eq_ofNat_of_zero_le (show 0 ≤ k by omega)
  obtain ⟨p, hp, hp1, hp2, hp3⟩ := pow_p h1 h7
  rw [pow_cast, hp] at hl hu hc
  have hs := shl_half h1 h7 hp
  have hs2 := shl_p h7 hp
  clear hp h
  by_cases hn : n < 0
  · rw [if_pos hn] at hc
    have HC := hid hc
    clear hc
    go_enter Tryd.func25, Tryd.ntmps25
    go_wp2_with (go_at_call 41; refine (HC.out).mono ?_; rintro e w' ⟨v, rfl, hm⟩)
    go_ret2
    exact ⟨_, rfl, hm⟩
  · rw [if_neg hn] at hc
    have HC := hid hc
    clear hc
    go_enter Tryd.func25, Tryd.ntmps25
    go_wp2_with (go_at_call 41; refine (HC.out).mono ?_; rintro e w' ⟨v, rfl, hm⟩)
    go_ret2
    exact ⟨_, rfl, hm⟩
theorem signedR_calls (n k : Int) (w : World) :
    Calls Tryd.prog 25 #[.int .i64 n, .int .i64 k] w fun e w' => RetPair w 5 (signedL n k) (signedB n k) e w' := by
  cases h : signedB n k with
  | false =>
    have e : signedL n k = [] := by unfold signedL; rw [h]; rfl
    rw [e]
    exact signedR_no n k h w
  | true => exact signedR_yes n k h w
end Go.Proofs.YtliejllegabdnaaDoor.Wr
