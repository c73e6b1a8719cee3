/- The document's own writing of fields: put. -/
import Derived.Test.YtliejllegabdnaaDoorFrWrite
import Derived.Test.YtliejllegabdnaaDoorWrMadeR
namespace Go.Proofs.YtliejllegabdnaaDoor.Fr
open Go.ChangeShapes Go.WideShapes Go.ChangeAt Go.RowKit Go.Proofs.YtliejllegabdnaaDoor.Sm Go.Proofs.YtliejllegabdnaaDoor.Wr
set_option maxHeartbeats 4000000
set_option maxRecDepth 100000

/-- what a call that adds to bytes returns: the bytes l, in a row that lies from block 'base' on. -/
def RetPut (base : Nat) (l : List UInt8) (w : World) (e : Ending) (w' : World) : Prop :=
  ∃ v, e = .returned v ∧ w'.ownsRow base 5 1 v l.length (cells8 l) ∧ Below base w w'
theorem putR_calls (base : Nat) (v : Value) (l : List UInt8) (n k : Int) (hk : k ≤ 7) (w : World) (hown : w.ownsRow base 5 1 v l.length (cells8 l)) (hb : base ≤ w.heap.size) (hl : l.length ≤ 4000) :
    Calls Tryd.prog 22 #[v, .int .i64 n, .int .i64 k] w fun e w' => RetPut base (l ++ plainL n k) w e w' := by
  obtain ⟨i0, hi0, hz0, hz1, hz2⟩ := info_parts byte_info
  have HW := hid hown
  clear hown
  go_enter Tryd.func22, Tryd.ntmps22
  go_wp2_with (go_at_call 41; refine stop ?_)
  unfold Stop
  refine (plainR_calls n k w).mono ?_
  rintro e w1 ⟨v1, rfl, hm⟩
  obtain ⟨a, c, rfl, hr, hbl⟩ := hm.slice
  have HR := hid hr
  have HB := hid hbl
  have hs := hbl.size
  have hp := plainL_le n k hk
  clear hm hr hbl
  go_wp2_with (at_builtin; refine stop ?_)
  unfold Stop
  refine wpList_append_row _ rfl _ _ _ rfl base 5 i0 _ Tryd.underlying23 hi0 hz0 hz1 hz2 rfl _ l rfl (owns_below HW.out HB.out) _ _ _ c (plainL n k) rfl HR.out (by omega) (by omega) ?_
  intro v2 w2 hown hgrow hltb
  have HO := hid hown
  have HG := hid (((HB.out.mono hb)).grown hgrow (by omega) hltb)
  clear hown hgrow hltb
  go_wp2
  go_ret
  exact ⟨_, rfl, HO.out, HG.out⟩
theorem putAgesR_calls (base : Nat) (v : Value) (l : List UInt8) (a : Option Addr) (n c : Nat) (g : List Int) (B : Nat) (w : World) (hown : w.ownsRow base 5 1 v l.length (cells8 l)) (hr : RowI w B a n c g) (hB : B ≤ base) (hb : base ≤ w.heap.size) (hl : l.length ≤ 1000) (hn6 : n ≤ 6) :
    Calls Tryd.prog 23 #[v, .slice a n c] w fun e w' => RetPut base (l ++ (plainL g.length 1 ++ agesL g)) w e w' := by
  have hlen := hr.len
  have HR := hid hr
  have HW := hid hown
  have HN := hid hlen
  clear hr hown hlen
  go_enter Tryd.func23, Tryd.ntmps23
  go_wp2_with (go_at_call 22; refine stop ?_)
  unfold Stop
  refine (putR_calls base v l n 1 (by omega) w HW.out hb (by omega)).mono ?_
  rintro e w1 ⟨v1, rfl, ho1, hb1⟩
  have HL1 := hid (plainL_le (n : Int) 1 (by omega))
  have HO1 := hid ho1
  have HB1 := hid hb1
  clear ho1 hb1 HW
  go_wp2
  go_loopw [0, 5] (fun b i wr => ∃ k : Nat, k ≤ n ∧ i = .int .i64 k ∧ Hid (wr.ownsRow base 5 1 b (l ++ (plainL n 1 ++ agesL (g.take k))).length (cells8 (l ++ (plainL n 1 ++ agesL (g.take k))))) ∧ Hid ((agesL (g.take k)).length ≤ 7 * k) ∧ Hid (Below base w wr)) (fun _ i _ => n - (intOf i).toNat)
  case atStart =>
    refine ⟨0, by omega, rfl, ?_, by simp [agesL, hid], HB1⟩
    exact hid (by simpa [agesL] using HO1.out)
  case round =>
    clear HO1 HB1
    obtain ⟨k, hk, rfl, HO, HA, HB⟩ := hrel
    by_cases hlt : k < n
    · obtain ⟨b, off, d, rfl, _, hl1, hc, hd, hd'⟩ := (HR.out.below (HB.out.mono hB)).at_ hlt
      have HL := hid hl1
      clear hl1
      go_wp2_with (go_at_call 22; refine stop ?_)
      unfold Stop
      refine (putR_calls base _ _ d 1 (by omega) _ HO.out (by have := HB.out.size; omega) (by have := HL1.out; have := HA.out; rw [List.length_append, List.length_append]; omega)).mono ?_
      rintro e w2 ⟨v2, rfl, ho2, hb2⟩
      have hg : agesL (g.take (k + 1)) = agesL (g.take k) ++ plainL d 1 := by
        rw [List.take_add_one, HL.out]
        simp [agesL]
      have HO2 : Hid (w2.ownsRow base 5 1 v2 (l ++ (plainL n 1 ++ agesL (g.take (k + 1)))).length (cells8 (l ++ (plainL n 1 ++ agesL (g.take (k + 1)))))) := by
        rw [hg]
        exact hid (by simpa only [List.append_assoc] using ho2)
      have HA2 : Hid ((agesL (g.take (k + 1))).length ≤ 7 * (k + 1)) := by
        rw [hg]
        have := HA.out
        have := plainL_le d 1 (by omega)
        exact (show _ ≤ _ by rw [List.length_append]; omega)
      have HB2 := hid (HB.out.trans hb2)
      clear ho2 hb2 hg HO HA HB
      go_wp2
      go_roundw
      case rel => exact ⟨k + 1, by omega, by go_num, HO2, HA2, HB2⟩
      case measure => simp [intOf]; omega
    · obtain rfl : k = n := by omega
      go_wp2
      go_ret
      refine ⟨_, rfl, ?_, HB.out⟩
      have := HO.out
      rw [List.take_of_length_le (by rw [HN.out]; exact Nat.le_refl _)] at this
      rw [HN.out]
      exact this
end Go.Proofs.YtliejllegabdnaaDoor.Fr
