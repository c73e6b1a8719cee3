/- What chapter 3's calls that write numbers as bytes (wire.Plain, wire.Signed) and the document's own answers to them return, for all numbers and widths. -/
import Derived.Test.YtceahjjffnfalaaWr
import Derived.Test.YtceahjjffnfalaaSmCopy
namespace Go.Proofs.Ytceahjjffnfalaa.Wr
open Go.ChangeShapes Go.WideShapes Go.ChangeAt Go.RowKit Go.Proofs.Ytceahjjffnfalaa.Sm
set_option maxHeartbeats 400000

/-- bytes of the call's own, and whether. -/
def RetPair (w : World) (E : TypeId) (l : List UInt8) (ok : Bool) (e : Ending) (w' : World) : Prop := ∃ v, e = .returned (.tuple #[v, .bool ok]) ∧ Made w E l v w'

theorem made_nil (w : World) (E : TypeId) : Made w E [] (.slice none 0 0) w := ⟨World.ownsRow_nil _ _ _ _, Below.refl _ _⟩

theorem zeros_cells (n : Nat) : List.replicate n (Value.int .u8 0) = cells8 (List.replicate n 0 ++ be 0 0) := by
  simp [cells8, be]
theorem put_byte (q j N : Nat) : (cells8 (List.replicate (q + 1) 0 ++ be N j)).set q (.int .u8 ((N / 256 ^ j % 256 : Nat) : Int)) = cells8 (List.replicate q 0 ++ be N (j + 1)) := by
  have e : List.replicate (q + 1) (0 : UInt8) = List.replicate q 0 ++ [0] := List.replicate_succ'
  rw [e]
  simp only [cells8, List.map_append, List.map_replicate, List.append_assoc, List.map_cons, List.map_nil, be]
  rw [List.set_append_right _ _ (by simp)]
  simp [UInt8.toNat_ofNat']
theorem shr_byte (N j : Nat) : (N : Int) / 2 ^ (8 * j) % 256 = ((N / 256 ^ j % 256 : Nat) : Int) := by
  have e : (2 : Int) ^ (8 * j) = ((256 ^ j : Nat) : Int) := by
    rw [Int.pow_mul]; simp
  rw [e]; simp

theorem plain_yes (N m : Nat) (h1 : 1 ≤ (m : Int)) (h7 : (m : Int) ≤ 7) (hN : N < 256 ^ m) (w : World) :
    Calls Try.prog 10 #[.int .i64 N, .int .i64 m] w fun e w' => RetPair w 5 (be N m) true e w' := by
  obtain ⟨i0, hi0, hz0, hz1, hz2⟩ := info_parts byte_info
  obtain ⟨p, hp, hp1, hp2, hp3⟩ := pow_p h1 h7
  have hnp : (N : Int) < p := by rw [← hp, Int.toNat_natCast]; omega
  have HP := hid hp
  clear hp hN
  go_enter Try.func10, Try.ntmps10
  go_wp2_with (first | (go_at_call 27; refine (fits_yes _ h1 h7 _).mono ?_; rintro e w' ⟨rfl, rfl⟩) | (go_at_call 28; refine (values_calls _ p h1 h7 HP.out _).mono ?_; rintro e w' ⟨rfl, rfl⟩) | (at_make; refine wpList_make_full _ rfl _ _ _ rfl w.heap.size 5 i0 _ 1 Try.underlying22 hi0 hz0 hz1 _ _ _ _ m rfl rfl rfl rfl (by rw [hz2]; omega) (by unfold maxLen; omega) (Nat.le_refl _) ?_; intro w1 hown1 hgrow1; have hb1 : Below w.heap.size w w1 := (Below.refl _ _).grown hgrow1 (Nat.le_refl _) (fun k hk => by cases hk)))
  rw [Nat.mul_one, show (Value.int IntKind.u8 0).cells = #[.int .u8 0] from rfl, toList_madeCells_one, zeros_cells] at hown1
  have HO1 := hid hown1
  have hgb : w.heap.size < w1.heap.size := (hown1.lt _ rfl).2
  clear hown1 hgrow1
  go_loopw [25] (fun i wr => ∃ j : Nat, j ≤ m ∧ i = .int .i64 j ∧ Hid (wr.ownsRow w.heap.size 5 1 (.slice (some ⟨w.heap.size, 0, none⟩) m m) m (cells8 (List.replicate (m - j) 0 ++ be N j))) ∧ Below w.heap.size w wr) (fun i _ => m - (intOf i).toNat)
  case atStart => exact ⟨0, by omega, rfl, HO1, hb1⟩
  case round =>
    clear HO1 hb1
    obtain ⟨j, hj, rfl, HO, hb⟩ := hrel
    by_cases hlt : j < m
    · obtain ⟨q, rfl⟩ : ∃ q, m = q + 1 + j := ⟨m - 1 - j, by omega⟩
      have hl : (List.replicate (q + 1 + j - j) (0 : UInt8) ++ be N j).length = q + 1 + j := by rw [List.length_append, be_length, List.length_replicate]; omega
      have hc : ∃ v, wr.cell? ⟨w.heap.size, q, none⟩ = some v := by
        rw [HO.out.cellAt _ (by omega), cells8_get]
        exact ⟨_, by rw [List.getElem?_eq_getElem (by rw [hl]; omega)]; rfl⟩
      obtain ⟨v, hc⟩ := hc
      have hf := HO.out.frozenAt q
      have hq : ((q + 1 + j : Nat) : Int) - 1 - (j : Int) = (q : Int) := by omega
      clear hl
      go_wp2
      go_roundw
      case rel =>
        refine ⟨j + 1, by omega, by go_num, ?_, hb.setCell (by exact Nat.le_refl _) _⟩
        have h := (HO.out.stored q (.int .u8 ((N / 256 ^ j % 256 : Nat) : Int))).1
        rw [show q + 1 + j - j = q + 1 by omega, put_byte] at h
        rw [show q + 1 + j - (j + 1) = q by omega, ← shr_byte] at *
        exact h
      case measure => simp [intOf]; omega
    · obtain rfl : j = m := by omega
      go_wp2
      go_ret2
      refine ⟨_, rfl, ?_, hb⟩
      rw [be_length]
      have := HO.out
      rw [Nat.sub_self] at this
      exact this

theorem plain_no (n k : Int) (h : plainB n k = false) (w : World) :
    Calls Try.prog 10 #[.int .i64 n, .int .i64 k] w fun e w' => RetPair w 5 [] false e w' := by
  have h' : ¬ ((1 ≤ k ∧ k ≤ 7) ∧ 0 ≤ n ∧ n < 256 ^ k.toNat) := by unfold plainB at h; exact of_decide_eq_false h
  clear h
  by_cases hb : k < 1 ∨ 7 < k
  · clear h'
    go_enter Try.func10, Try.ntmps10
    go_wp2_with (go_at_call 27; refine (fits_no _ hb _).mono ?_; rintro e w' ⟨rfl, rfl⟩)
    go_ret2
    exact ⟨_, rfl, made_nil _ _⟩
  have h1 : 1 ≤ k := by omega
  have h7 : k ≤ 7 := by omega
  by_cases hn : n < 0
  · clear h' hb
    go_enter Try.func10, Try.ntmps10
    go_wp2_with (go_at_call 27; refine (fits_yes _ h1 h7 _).mono ?_; rintro e w' ⟨rfl, rfl⟩)
    go_ret2
    exact ⟨_, rfl, made_nil _ _⟩
  obtain ⟨p, hp, hp1, hp2, hp3⟩ := pow_p h1 h7
  have hnp : p ≤ n := by
    rw [pow_cast, hp] at h'
    omega
  have HP := hid hp
  clear hp h' hb
  go_enter Try.func10, Try.ntmps10
  go_wp2_with (first | (go_at_call 27; refine (fits_yes _ h1 h7 _).mono ?_; rintro e w' ⟨rfl, rfl⟩) | (go_at_call 28; refine (values_calls _ p h1 h7 HP.out _).mono ?_; rintro e w' ⟨rfl, rfl⟩))
  go_ret2
  exact ⟨_, rfl, made_nil _ _⟩

/-- P301, both ways. -/
theorem plain_calls (n k : Int) (w : World) :
    Calls Try.prog 10 #[.int .i64 n, .int .i64 k] w fun e w' => RetPair w 5 (plainL n k) (plainB n k) e w' := by
  cases h : plainB n k with
  | false =>
    have e : plainL n k = [] := by unfold plainL; rw [h]; rfl
    rw [e]
    exact plain_no n k h w
  | true =>
    have e : plainL n k = be n.toNat k.toNat := by unfold plainL; rw [if_pos h]
    rw [e]
    have h' := of_decide_eq_true (show decide _ = true from h)
    obtain ⟨⟨h1, h7⟩, h0, hp⟩ := h'
    obtain ⟨N, rfl⟩ := Int.eq_ofNat_of_zero_le h0
    obtain ⟨m, rfl⟩ := Int.eq_ofNat_of_zero_le (show 0 ≤ k by omega)
    rw [Int.toNat_natCast, Int.toNat_natCast]
    exact plain_yes N m h1 h7 (by rw [Int.toNat_natCast, pow_cast] at hp; omega) w

theorem shl_p {m : Nat} {p : Int} (h7 : (m : Int) ≤ 7) (hp : ((256 ^ (m : Int).toNat : Nat) : Int) = p) : wrap64 (2 ^ (8 * m)) = p := by
  have e : (2 : Int) ^ (8 * m) = ((256 ^ m : Nat) : Int) := by rw [Int.pow_mul]; simp
  rw [Int.toNat_natCast] at hp
  have h1 := pow_le (k := m) (by omega)
  rw [e]
  generalize (256 ^ m : Nat) = q at *
  unfold wrap64
  omega
theorem byte_cells (N r : Nat) : cells8 [UInt8.ofNat (N / 256 ^ r)] = [.int .u8 ((N : Int) / 2 ^ (8 * r) % 256)] := by
  rw [shr_byte]
  simp [cells8, UInt8.toNat_ofNat']

theorem plainR_yes (N m : Nat) (h1 : 1 ≤ (m : Int)) (h7 : (m : Int) ≤ 7) (hN : N < 256 ^ m) (w : World) :
    Calls Try.prog 11 #[.int .i64 N, .int .i64 m] w fun e w' => RetPair w 5 (be N m) true e w' := by
  obtain ⟨i0, hi0, hz0, hz1, hz2⟩ := info_parts byte_info
  obtain ⟨p, hp, hp1, hp2, hp3⟩ := pow_p h1 h7
  have hnp : (N : Int) < p := by rw [← hp, Int.toNat_natCast]; omega
  have hs := shl_p h7 hp
  clear hp hN
  go_enter Try.func11, Try.ntmps11
  go_wp2
  clear hs
  go_loopw [6, 7] (fun v i wr => ∃ q : Nat, q ≤ m ∧ i = .int .i64 ((q : Int) - 1) ∧ Hid (wr.ownsRow w.heap.size 5 1 v ((be N m).take (m - q)).length (cells8 ((be N m).take (m - q)))) ∧ Below w.heap.size w wr) (fun _ i _ => (intOf i + 1).toNat)
  case atStart => exact ⟨m, by omega, rfl, by rw [Nat.sub_self]; exact World.ownsRow_nil _ _ _ _, Below.refl _ _⟩
  case round =>
    obtain ⟨q, hq, rfl, HO, hb⟩ := hrel
    by_cases hlt : 1 ≤ q
    · obtain ⟨r, rfl⟩ : ∃ r, q = r + 1 := ⟨q - 1, by omega⟩
      rw [show (((r + 1 : Nat) : Int) - 1) = (r : Int) by omega]
      go_wp2_with (at_builtin; refine stop ?_)
      unfold Stop
      refine wpList_append_row _ rfl _ _ _ rfl w.heap.size 5 i0 _ Try.underlying22 hi0 hz0 hz1 hz2 rfl _ ((be N m).take (m - (r + 1))) rfl (HO.out.alloc _) _ _ 1 1 [UInt8.ofNat (N / 256 ^ r)] rfl (Row8.lit wr _ _ _ 1 rfl (by decide) (byte_cells N r).symm) (by rw [List.length_take, be_length]; omega) (by have := hb.size; simp; omega) ?_
      intro v2 w2 hown hgrow hltb
      have hs := be_take_succ N m (m - (r + 1)) (by omega)
      rw [show m - 1 - (m - (r + 1)) = r by omega, show m - (r + 1) + 1 = m - r by omega] at hs
      rw [← hs] at hown
      have HO2 := hid hown
      have hb2 := (hb.alloc hb.size _).grown hgrow (by have := hb.size; simp; omega) hltb
      clear hs hown hgrow hltb
      go_wp2
      go_roundw
      case rel => exact ⟨r, by omega, rfl, HO2, hb2⟩
      case measure => simp [intOf]
    · obtain rfl : q = 0 := by omega
      go_wp2
      go_ret2
      refine ⟨_, rfl, ?_, hb⟩
      have := HO.out
      rw [Nat.sub_zero, List.take_of_length_le (by rw [be_length]; omega)] at this
      exact this

theorem plainR_no (n k : Int) (h : plainB n k = false) (w : World) :
    Calls Try.prog 11 #[.int .i64 n, .int .i64 k] w fun e w' => RetPair w 5 [] false e w' := by
  have h' : ¬ ((1 ≤ k ∧ k ≤ 7) ∧ 0 ≤ n ∧ n < 256 ^ k.toNat) := by unfold plainB at h; exact of_decide_eq_false h
  clear h
  by_cases hb : k < 1
  · clear h'
    go_enter Try.func11, Try.ntmps11
    go_wp2
    go_ret2
    exact ⟨_, rfl, made_nil _ _⟩
  by_cases hb8 : 7 < k
  · clear h'
    go_enter Try.func11, Try.ntmps11
    go_wp2
    go_ret2
    exact ⟨_, rfl, made_nil _ _⟩
  have h1 : 1 ≤ k := by omega
  have h7 : k ≤ 7 := by omega
  by_cases hn : n < 0
  · clear h' hb hb8
    go_enter Try.func11, Try.ntmps11
    go_wp2
    go_ret2
    exact ⟨_, rfl, made_nil _ _⟩
  obtain ⟨m, rfl⟩ := Int.eq_ofNat_of_zero_le (show 0 ≤ k by omega)
  obtain ⟨p, hp, hp1, hp2, hp3⟩ := pow_p h1 h7
  have hnp : p ≤ n := by
    rw [pow_cast, hp] at h'
    omega
  have hs := shl_p h7 hp
  clear hp h' hb hb8
  go_enter Try.func11, Try.ntmps11
  go_wp2
  go_ret2
  exact ⟨_, rfl, made_nil _ _⟩

theorem plainR_calls (n k : Int) (w : World) :
    Calls Try.prog 11 #[.int .i64 n, .int .i64 k] w fun e w' => RetPair w 5 (plainL n k) (plainB n k) e w' := by
  cases h : plainB n k with
  | false =>
    have e : plainL n k = [] := by unfold plainL; rw [h]; rfl
    rw [e]
    exact plainR_no n k h w
  | true =>
    have e : plainL n k = be n.toNat k.toNat := by unfold plainL; rw [if_pos h]
    rw [e]
    have h' := of_decide_eq_true (show decide _ = true from h)
    obtain ⟨⟨h1, h7⟩, h0, hp⟩ := h'
    obtain ⟨N, rfl⟩ := Int.eq_ofNat_of_zero_le h0
    obtain ⟨m, rfl⟩ := Int.eq_ofNat_of_zero_le (show 0 ≤ k by omega)
    rw [Int.toNat_natCast, Int.toNat_natCast]
    exact plainR_yes N m h1 h7 (by rw [Int.toNat_natCast, pow_cast] at hp; omega) w

/-! ### numbers below 0, too -/
/-- the number that is written for n. -/
def lifted (n k : Int) : Int := if n < 0 then n + 256 ^ k.toNat else n
theorem signed_plain {n k : Int} (h : signedB n k = true) : plainB (lifted n k) k = true ∧ plainL (lifted n k) k = signedL n k := by
  have h' := of_decide_eq_true (show decide _ = true from h)
  rw [pow_cast] at h'
  have hp := pow_cases (k := k.toNat) (by omega)
  have hb : plainB (lifted n k) k = true := by
    unfold plainB lifted
    rw [pow_cast]
    refine decide_eq_true ⟨h'.1, ?_⟩
    generalize (256 ^ k.toNat : Nat) = p at *
    split <;> omega
  refine ⟨hb, ?_⟩
  unfold plainL signedL
  rw [if_pos hb, if_pos h]
  unfold lifted
  split <;> rfl

theorem signed_yes (n k : Int) (h : signedB n k = true) (w : World) :
    Calls Try.prog 14 #[.int .i64 n, .int .i64 k] w fun e w' => RetPair w 5 (signedL n k) true e w' := by
  have h' := of_decide_eq_true (show decide _ = true from h)
  have hc := plain_calls (lifted n k) k w
  rw [(signed_plain h).1, (signed_plain h).2] at hc
  unfold lifted at hc
  obtain ⟨⟨h1, h7⟩, hl, hu⟩ := h'
  obtain ⟨p, hp, hp1, hp2, hp3⟩ := pow_p h1 h7
  rw [pow_cast, hp] at hl hu hc
  have HP := hid hp
  clear hp h
  by_cases hn : n < 0
  · rw [if_pos hn] at hc
    have HC := hid hc
    clear hc
    go_enter Try.func14, Try.ntmps14
    go_wp2_with (first | (go_at_call 27; refine (fits_yes _ h1 h7 _).mono ?_; rintro e w' ⟨rfl, rfl⟩) | (go_at_call 28; refine (values_calls _ p h1 h7 HP.out _).mono ?_; rintro e w' ⟨rfl, rfl⟩) | (go_at_call 10; refine (HC.out).mono ?_; rintro e w' ⟨v, rfl, hm⟩))
    go_ret2
    exact ⟨_, rfl, hm⟩
  · rw [if_neg hn] at hc
    have HC := hid hc
    clear hc
    go_enter Try.func14, Try.ntmps14
    go_wp2_with (first | (go_at_call 27; refine (fits_yes _ h1 h7 _).mono ?_; rintro e w' ⟨rfl, rfl⟩) | (go_at_call 28; refine (values_calls _ p h1 h7 HP.out _).mono ?_; rintro e w' ⟨rfl, rfl⟩) | (go_at_call 10; refine (HC.out).mono ?_; rintro e w' ⟨v, rfl, hm⟩))
    go_ret2
    exact ⟨_, rfl, hm⟩
theorem signed_no (n k : Int) (h : signedB n k = false) (w : World) :
    Calls Try.prog 14 #[.int .i64 n, .int .i64 k] w fun e w' => RetPair w 5 [] false e w' := by
  have h' : ¬ ((1 ≤ k ∧ k ≤ 7) ∧ -(256 ^ k.toNat / 2) ≤ n ∧ n < 256 ^ k.toNat / 2) := by unfold signedB at h; exact of_decide_eq_false h
  clear h
  by_cases hb : k < 1 ∨ 7 < k
  · clear h'
    go_enter Try.func14, Try.ntmps14
    go_wp2_with (go_at_call 27; refine (fits_no _ hb _).mono ?_; rintro e w' ⟨rfl, rfl⟩)
    go_ret2
    exact ⟨_, rfl, made_nil _ _⟩
  have h1 : 1 ≤ k := by omega
  have h7 : k ≤ 7 := by omega
  obtain ⟨p, hp, hp1, hp2, hp3⟩ := pow_p h1 h7
  rw [pow_cast, hp] at h'
  have HP := hid hp
  clear hp hb
  by_cases hn : n < -(p / 2)
  · clear h'
    go_enter Try.func14, Try.ntmps14
    go_wp2_with (first | (go_at_call 27; refine (fits_yes _ h1 h7 _).mono ?_; rintro e w' ⟨rfl, rfl⟩) | (go_at_call 28; refine (values_calls _ p h1 h7 HP.out _).mono ?_; rintro e w' ⟨rfl, rfl⟩))
    go_ret2
    exact ⟨_, rfl, made_nil _ _⟩
  · have hu : p / 2 ≤ n := by omega
    clear h'
    go_enter Try.func14, Try.ntmps14
    go_wp2_with (first | (go_at_call 27; refine (fits_yes _ h1 h7 _).mono ?_; rintro e w' ⟨rfl, rfl⟩) | (go_at_call 28; refine (values_calls _ p h1 h7 HP.out _).mono ?_; rintro e w' ⟨rfl, rfl⟩))
    go_ret2
    exact ⟨_, rfl, made_nil _ _⟩
theorem shl_half {m : Nat} {p : Int} (h1 : 1 ≤ (m : Int)) (h7 : (m : Int) ≤ 7) (hp : ((256 ^ (m : Int).toNat : Nat) : Int) = p) : wrap64 (2 ^ (8 * m - 1)) = p / 2 := by
  have hk : m = 1 ∨ m = 2 ∨ m = 3 ∨ m = 4 ∨ m = 5 ∨ m = 6 ∨ m = 7 := by omega
  rcases hk with rfl | rfl | rfl | rfl | rfl | rfl | rfl <;> (simp at hp; subst hp; decide +kernel)
theorem signedR_no (n k : Int) (h : signedB n k = false) (w : World) :
    Calls Try.prog 15 #[.int .i64 n, .int .i64 k] w fun e w' => RetPair w 5 [] false e w' := by
  have h' : ¬ ((1 ≤ k ∧ k ≤ 7) ∧ -(256 ^ k.toNat / 2) ≤ n ∧ n < 256 ^ k.toNat / 2) := by unfold signedB at h; exact of_decide_eq_false h
  clear h
  by_cases hb : k < 1
  · clear h'
    go_enter Try.func15, Try.ntmps15
    go_wp2
    go_ret2
    exact ⟨_, rfl, made_nil _ _⟩
  by_cases hb8 : 7 < k
  · clear h'
    go_enter Try.func15, Try.ntmps15
    go_wp2
    go_ret2
    exact ⟨_, rfl, made_nil _ _⟩
  have h1 : 1 ≤ k := by omega
  have h7 : k ≤ 7 := by omega
  obtain ⟨m, rfl⟩ := Int.eq_ofNat_of_zero_le (show 0 ≤ k by omega)
  obtain ⟨p, hp, hp1, hp2, hp3⟩ := pow_p h1 h7
  rw [pow_cast, hp] at h'
  have hs := shl_half h1 h7 hp
  clear hp hb hb8
  by_cases hn : n < -(p / 2)
  · clear h'
    go_enter Try.func15, Try.ntmps15
    go_wp2
    go_ret2
    exact ⟨_, rfl, made_nil _ _⟩
  · have hu : p / 2 ≤ n := by omega
    clear h'
    go_enter Try.func15, Try.ntmps15
    go_wp2
    go_ret2
    exact ⟨_, rfl, made_nil _ _⟩
theorem signedR_yes (n k : Int) (h : signedB n k = true) (w : World) :
    Calls Try.prog 15 #[.int .i64 n, .int .i64 k] w fun e w' => RetPair w 5 (signedL n k) true e w' := by
  have h' := of_decide_eq_true (show decide _ = true from h)
  have hc := plainR_calls (lifted n k) k w
  rw [(signed_plain h).1, (signed_plain h).2] at hc
  unfold lifted at hc
  obtain ⟨⟨h1, h7⟩, hl, hu⟩ := h'
  obtain ⟨m, rfl⟩ := Int.eq_ofNat_of_zero_le (show 0 ≤ k by omega)
  obtain ⟨p, hp, hp1, hp2, hp3⟩ := pow_p h1 h7
  rw [pow_cast, hp] at hl hu hc
  have hs := shl_half h1 h7 hp
  have hs2 := shl_p h7 hp
  clear hp h
  by_cases hn : n < 0
  · rw [if_pos hn] at hc
    have HC := hid hc
    clear hc
    go_enter Try.func15, Try.ntmps15
    go_wp2_with (go_at_call 11; refine (HC.out).mono ?_; rintro e w' ⟨v, rfl, hm⟩)
    go_ret2
    exact ⟨_, rfl, hm⟩
  · rw [if_neg hn] at hc
    have HC := hid hc
    clear hc
    go_enter Try.func15, Try.ntmps15
    go_wp2_with (go_at_call 11; refine (HC.out).mono ?_; rintro e w' ⟨v, rfl, hm⟩)
    go_ret2
    exact ⟨_, rfl, hm⟩
theorem signedR_calls (n k : Int) (w : World) :
    Calls Try.prog 15 #[.int .i64 n, .int .i64 k] w fun e w' => RetPair w 5 (signedL n k) (signedB n k) e w' := by
  cases h : signedB n k with
  | false =>
    have e : signedL n k = [] := by unfold signedL; rw [h]; rfl
    rw [e]
    exact signedR_no n k h w
  | true => exact signedR_yes n k h w
theorem signed_calls (n k : Int) (w : World) :
    Calls Try.prog 14 #[.int .i64 n, .int .i64 k] w fun e w' => RetPair w 5 (signedL n k) (signedB n k) e w' := by
  cases h : signedB n k with
  | false =>
    have e : signedL n k = [] := by unfold signedL; rw [h]; rfl
    rw [e]
    exact signed_no n k h w
  | true => exact signed_yes n k h w
end Go.Proofs.Ytceahjjffnfalaa.Wr
