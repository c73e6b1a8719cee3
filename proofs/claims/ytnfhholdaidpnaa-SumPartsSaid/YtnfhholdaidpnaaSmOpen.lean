/- What sum.Open and the document's own answer to it return: the bytes ahead of the last four, and true, where these are their sum; else nothing, and false. -/
import Derived.Test.YtnfhholdaidpnaaSmMade
import Derived.RegionTactic
import Derived.ChangeAlike
import Derived.Deep.QuietTactic
import Derived.BigQuiet
import Derived.Deep.Draws
import Derived.Deep.RegionWith
namespace Go.Proofs.Ytnfhholdaidpnaa.Sm
open Go.ChangeShapes Go.WideShapes Go.ChangeAt Go.RowKit
set_option maxHeartbeats 400000

/-- are bytes sealed? -/
def isSealed (l : List UInt8) : Bool := decide (4 ≤ l.length ∧ l.drop (l.length - 4) = tail4 (of (l.take (l.length - 4))))
/-- what was sealed. -/
def inner (l : List UInt8) : List UInt8 := if isSealed l = true then l.take (l.length - 4) else []
def RetOpen (w : World) (E : TypeId) (l : List UInt8) (e : Ending) (w' : World) : Prop := ∃ v, e = .returned (.tuple #[v, .bool (isSealed l)]) ∧ Made w E (inner l) v w'

theorem isSealed_short {l : List UInt8} (h : l.length < 4) : isSealed l = false := by unfold isSealed; simp; omega
theorem inner_no {l : List UInt8} (h : isSealed l = false) : inner l = [] := by simp [inner, h]
theorem inner_yes {l : List UInt8} (h : isSealed l = true) : inner l = l.take (l.length - 4) := by simp [inner, h]
theorem isSealed_num {l : List UInt8} {k : Nat} (h : l.length = k + 4) : isSealed l = decide ((of (l.take k)).toNat = num4 (l.drop k)) := by
  unfold isSealed
  have e : l.length - 4 = k := by omega
  rw [e]
  have h4 := tail4_num4 (l.drop k) (by simp; omega) (of (l.take k))
  rw [decide_eq_decide]
  constructor
  · rintro ⟨_, h2⟩; exact (h4.2 h2).symm
  · intro h2; exact ⟨by omega, h4.1 h2.symm⟩

theorem open_calls (a : Option Addr) (n c : Nat) (l : List UInt8) (w : World) (hr : Row8 w w.heap.size a n c l) (hn : n ≤ 1000000) :
    Calls Try.prog 16 #[.slice a n c] w fun e w' => RetOpen w 5 l e w' := by
  have HR := hid hr
  have hc := hr.cap
  have hnc := hr.room
  unfold maxLen at hc
  have HL := hid hr.len
  clear hr
  by_cases h4 : n < 4
  · go_enter Try.func16, Try.ntmps16
    go_wp2
    go_ret2
    have hs : isSealed l = false := isSealed_short (by rw [HL.out]; exact h4)
    refine ⟨.slice none 0 0, by rw [hs]; rfl, ?_⟩
    rw [inner_no hs]
    exact ⟨World.ownsRow_nil _ _ _ _, Below.refl _ _⟩
  · obtain ⟨b, off, rfl, hb, hcell⟩ := HR.out.cells (by omega)
    have HC := hid hcell
    clear hcell
    obtain ⟨k, rfl⟩ : ∃ k, n = k + 4 := ⟨n - 4, by omega⟩
    have HI := hid (HR.out.take (k := k) (by omega))
    have HT : Hid (Row8 w w.heap.size (some ⟨b, off + k, none⟩) 4 (c - k) (l.drop k)) := by
      have h := HR.out.drop (k := k) (by omega)
      rw [Nat.add_sub_cancel_left] at h
      exact h
    have hs := isSealed_num HL.out
    by_cases hd : (of (l.take k)).toNat = num4 (l.drop k)
    · have hs' := hid (hs.trans (by simp [hd]) : isSealed l = true)
      clear hs
      have ht : (((of (l.take k)).toNat : Int) != (num4 (l.drop k) : Int)) = false := by rw [hd]; simp
      clear hd
      go_enter Try.func16, Try.ntmps16
      go_wp2
      go_quiet (fail)
      go_wp2_with (first | (go_at_call 12; refine (of_calls _ k c (l.take k) _ _ (HI.out.drewN _)).mono ?_; rintro e w' ⟨rfl, rfl⟩) | (go_at_call 22; refine (number_calls _ 4 (c - k) (l.drop k) _ _ (HT.out.drewN _)).mono ?_; rintro e w' ⟨rfl, rfl⟩) | (go_at_call 23; refine (clone_calls _ k c (l.take k) _ (HI.out.drewN _) (by omega)).mono ?_; rintro e w' ⟨v, rfl, hown, hbel⟩))
      go_ret2
      refine ⟨v, by rw [hs'.out]; rfl, ?_⟩
      rw [inner_yes hs'.out, HL.out, Nat.add_sub_cancel]
      exact ⟨hown, below_from hbel⟩
    · have hs' := hid (hs.trans (by simp [hd]) : isSealed l = false)
      clear hs
      have ht : (((of (l.take k)).toNat : Int) != (num4 (l.drop k) : Int)) = true := by simp; omega
      clear hd
      go_enter Try.func16, Try.ntmps16
      go_wp2
      go_quiet (fail)
      go_wp2_with (first | (go_at_call 12; refine (of_calls _ k c (l.take k) _ _ (HI.out.drewN _)).mono ?_; rintro e w' ⟨rfl, rfl⟩) | (go_at_call 22; refine (number_calls _ 4 (c - k) (l.drop k) _ _ (HT.out.drewN _)).mono ?_; rintro e w' ⟨rfl, rfl⟩))
      go_ret2
      refine ⟨.slice none 0 0, by rw [hs'.out]; rfl, ?_⟩
      rw [inner_no hs'.out]
      exact ⟨World.ownsRow_nil _ _ _ _, below_drewN (Below.refl _ _) _⟩

theorem isSealed_whole {l : List UInt8} {k : Nat} (h : l.length = k + 4) : isSealed l = decide (sealB (l.take k) = l) := by
  unfold isSealed
  have e : l.length - 4 = k := by omega
  rw [e, decide_eq_decide]
  unfold sealB
  constructor
  · rintro ⟨_, h2⟩; rw [← h2, List.take_append_drop]
  · intro h2
    refine ⟨by omega, ?_⟩
    have h3 : l.take k ++ tail4 (of (l.take k)) = l.take k ++ l.drop k := by rw [h2, List.take_append_drop]
    exact (List.append_cancel_left h3).symm

theorem openR_calls (a : Option Addr) (n c : Nat) (l : List UInt8) (w : World) (hr : Row8 w w.heap.size a n c l) (hn : n ≤ 1000000) :
    Calls Try.prog 17 #[.slice a n c] w fun e w' => RetOpen w 5 l e w' := by
  have HR := hid hr
  have hc := hr.cap
  have hnc := hr.room
  unfold maxLen at hc
  have HL := hid hr.len
  clear hr
  by_cases h4 : n < 4
  · go_enter Try.func17, Try.ntmps17
    go_wp2
    go_ret2
    have hs : isSealed l = false := isSealed_short (by rw [HL.out]; exact h4)
    refine ⟨.slice none 0 0, by rw [hs]; rfl, ?_⟩
    rw [inner_no hs]
    exact ⟨World.ownsRow_nil _ _ _ _, Below.refl _ _⟩
  · obtain ⟨b, off, rfl, hb, hcell⟩ := HR.out.cells (by omega)
    clear hcell
    obtain ⟨k, rfl⟩ : ∃ k, n = k + 4 := ⟨n - 4, by omega⟩
    have HI := hid (HR.out.take (k := k) (by omega))
    have hs := isSealed_whole HL.out
    have hv0 := conv_str (HR.out.drew) Try.underlying22 Try.underlying5 Try.underlying9
    by_cases hd : sealB (l.take k) = l
    · have hs' := hid (hs.trans (by simp [hd]) : isSealed l = true)
      clear hs
      have ht : ((str (sealB (l.take k))).toList == (str l).toList) = true := by rw [str_eq]; simp [hd]
      clear hd
      go_enter Try.func17, Try.ntmps17
      go_wp2
      go_region_with (go_at_call 19; refine (sealR_calls _ k c (l.take k) _ (HI.out.drew) (by omega)).mono ?_; rintro e w1 ⟨v1, rfl, hm1⟩; obtain ⟨a1, c1, rfl, hr1, hb1⟩ := hm1.slice; have hv1 := conv_str hr1 Try.underlying22 Try.underlying5 Try.underlying9; have hv2 := conv_str (HR.out.drew.below hb1) Try.underlying22 Try.underlying5 Try.underlying9)
      all_goals
        clear hv0 hv1 hv2
        go_wp2_with (go_at_call 24; refine (copyR_calls _ k c (l.take k) _ (HI.out.drew.later hb1) (by omega)).mono ?_; rintro e w2 ⟨v, rfl, hown, hbel⟩)
        go_ret2
        refine ⟨v, by rw [hs'.out]; rfl, ?_⟩
        rw [inner_yes hs'.out, HL.out, Nat.add_sub_cancel]
        exact made_later (below_dr hb1) ⟨hown, hbel⟩
    · have hs' := hid (hs.trans (by simp [hd]) : isSealed l = false)
      clear hs
      have ht : ((str (sealB (l.take k))).toList == (str l).toList) = false := by rw [str_eq]; simp [hd]
      clear hd
      go_enter Try.func17, Try.ntmps17
      go_wp2
      go_region_with (go_at_call 19; refine (sealR_calls _ k c (l.take k) _ (HI.out.drew) (by omega)).mono ?_; rintro e w1 ⟨v1, rfl, hm1⟩; obtain ⟨a1, c1, rfl, hr1, hb1⟩ := hm1.slice; have hv1 := conv_str hr1 Try.underlying22 Try.underlying5 Try.underlying9; have hv2 := conv_str (HR.out.drew.below hb1) Try.underlying22 Try.underlying5 Try.underlying9)
      all_goals
        clear hv0 hv1 hv2
        go_wp2
        go_ret2
        refine ⟨.slice none 0 0, by rw [hs'.out]; rfl, ?_⟩
        rw [inner_no hs'.out]
        exact ⟨World.ownsRow_nil _ _ _ _, below_dr hb1⟩
end Go.Proofs.Ytnfhholdaidpnaa.Sm
