/- The document's examples of chapter 3 hold: what the law's own check of them returns. -/
import Derived.Test.YtceahjjffnfalaaWrReadR
import Derived.Lib.SlBytesConst
namespace Go.Proofs.Ytceahjjffnfalaa.Wr
open Go.ChangeShapes Go.WideShapes Go.ChangeAt Go.RowKit Go.Proofs.Ytceahjjffnfalaa.Sm
set_option maxHeartbeats 400000

theorem str_list (l : List UInt8) : (str l).toList = l := by simp [str, ByteArray.toList_eq]
theorem less_lt : ∀ (x y : List UInt8), Op.bytesLess x y = decide (x < y)
  | _, [] => by simp [Op.bytesLess]
  | [], _ :: _ => by simp [Op.bytesLess]
  | a :: x, b :: y => by
    rw [Op.bytesLess, less_lt x y, Bool.eq_iff_iff]
    simp [List.cons_lt_cons_iff]
/-- what the order of two numbers' bytes is. -/
theorem order_str {a b k : Int} (ha : plainB a k = true) (hb : plainB b k = true) : Op.bytesLess (str (plainL a k)).toList (str (plainL b k)).toList = decide (a < b) ∧ ((str (plainL a k)).toList == (str (plainL b k)).toList) = (a == b) ∧ ((plainL a k).length : Int) = k ∧ ((plainL b k).length : Int) = k := by
  have ha' := of_decide_eq_true (show decide _ = true from ha)
  have hb' := of_decide_eq_true (show decide _ = true from hb)
  rw [pow_cast] at ha' hb'
  have e1 : plainL a k = be a.toNat k.toNat := by unfold plainL; rw [if_pos ha]
  have e2 : plainL b k = be b.toNat k.toNat := by unfold plainL; rw [if_pos hb]
  rw [str_list, str_list, e1, e2, less_lt, be_length, be_length]
  have ha2 : a.toNat < 256 ^ k.toNat := by omega
  have hb2 : b.toNat < 256 ^ k.toNat := by omega
  refine ⟨?_, ?_, by omega, by omega⟩
  · rw [decide_eq_decide, be_lt ha2 hb2]; omega
  · rw [Bool.eq_iff_iff]
    simp only [beq_iff_eq]
    constructor
    · intro h
      have := be_inj ha2 hb2 h
      omega
    · intro h; rw [h]
/-- true, and nothing that was there has turned. -/
def RetTrue (w : World) (e : Ending) (w' : World) : Prop := e = .returned (.bool true) ∧ Below w.heap.size w w'

theorem alive_calls (w : World) : Calls Try.prog 9 #[] w fun e w' => RetTrue w e w' := by
  have hs1 := str_list [1, 2]
  have hs2 := str_list [255, 255]
  go_enter Try.func9, Try.ntmps9
  go_wp2_with (go_at_call 10; refine stop ?_)
  unfold Stop
  refine (plain_calls 258 2 _).mono ?_
  rintro e w1 ⟨v1, rfl, hm1⟩
  rw [show plainL 258 2 = [1, 2] by decide +kernel] at hm1
  rw [show plainB 258 2 = true by decide +kernel]
  obtain ⟨a1, c1, rfl, hr1, hb1⟩ := hm1.slice
  have HR1 : Hid (Row8 w1 w1.heap.size a1 2 c1 [1, 2]) := hr1
  clear hr1 hm1
  go_wp2_with (go_at_call 14; refine stop ?_)
  unfold Stop
  refine (signed_calls (-1) 2 _).mono ?_
  rintro e w2 ⟨v2, rfl, hm2⟩
  rw [show signedL (-1) 2 = [255, 255] by decide +kernel] at hm2
  rw [show signedB (-1) 2 = true by decide +kernel]
  obtain ⟨a2, c2, rfl, hr2, hb2⟩ := hm2.slice
  have HR2 : Hid (Row8 w2 w2.heap.size a2 2 c2 [255, 255]) := hr2
  have HR1' := hid (HR1.out.later hb2)
  have hB2 : Below w.heap.size w w2 := hb1.trans (hb2.mono hb1.size)
  clear hr2 hm2 HR1 hb1 hb2
  go_wp2_with (go_at_call 18; refine stop ?_)
  unfold Stop
  have hb3 : Below w2.heap.size w2 (w2.alloc (.cells #[.int .u8 1, .int .u8 2, .int .u8 3] 5)) := (Below.refl _ _).alloc (Nat.le_refl _) _
  refine (new_calls _ 3 3 [1, 2, 3] _ (by simpa using Row8.lit w2 5 #[.int .u8 1, .int .u8 2, .int .u8 3] [1, 2, 3] 3 rfl (by decide) rfl) (by decide)).mono ?_
  rintro e w3 ⟨g, rfl, hg, hrd, hb4⟩
  have hB3 : Below w2.heap.size w2 w3 := hb3.trans (hb4.mono (by simp))
  have hg2 : w2.heap.size ≤ g := by simp at hg; omega
  have HD := hid hrd
  clear hrd hb3 hb4 hg
  go_wp2_with (go_at_call 21; refine stop ?_)
  unfold Stop
  refine (rnumber_calls g [1, 2, 3] 0 false 2 _ HD.out).mono ?_
  rintro e w4 ⟨rfl, hrd4, hbs4⟩
  rw [show numI (gotL [1, 2, 3] 0 false (wid 2)) = 258 by decide +kernel]
  rw [show atN [1, 2, 3] 0 false (wid 2) = 2 by decide +kernel, show badN [1, 2, 3] 0 false (wid 2) = false by decide +kernel] at hrd4
  have hB4 : Below w2.heap.size w3 w4 := hbs4.below hg2 hB3.size
  have HD4 := hid hrd4
  clear hrd4 hbs4 HD
  go_wp2_with (go_at_call 19; refine stop ?_)
  unfold Stop
  refine (take_calls g [1, 2, 3] 2 false 2 _ HD4.out).mono ?_
  intro e w5 h5
  obtain ⟨a5, n5, c5, rfl, hr5, _, hrd5, hbs5⟩ := h5.slice
  rw [show atN [1, 2, 3] 2 false 2 = 2 by decide +kernel, show badN [1, 2, 3] 2 false 2 = true by decide +kernel] at hrd5
  rw [show gotL [1, 2, 3] 2 false 2 = [] by decide +kernel] at hr5
  obtain rfl : n5 = 0 := hr5.len.symm
  have hB5 : Below w2.heap.size w4 w5 := hbs5.below hg2 (Nat.le_trans hB3.size hB4.size)
  have hB : Below w2.heap.size w2 w5 := (hB3.trans hB4).trans hB5
  have HD5 := hid hrd5
  have hv1 := conv_str (HR1'.out.below hB) Try.underlying22 Try.underlying5 Try.underlying9
  have hv2 := conv_str (HR2.out.below hB) Try.underlying22 Try.underlying5 Try.underlying9
  clear hrd5 hr5 hbs5 HD4 HR1' HR2 hB5 hB4 hB3
  go_wp2_with (first | (go_at_call 26; refine (bad_calls g [1, 2, 3] 2 true _ HD5.out).mono ?_; rintro e w' ⟨rfl, rfl⟩) | (go_at_call 25; refine (at_calls g [1, 2, 3] 2 true _ HD5.out).mono ?_; rintro e w' ⟨rfl, rfl⟩))
  go_ret
  exact ⟨rfl, hB2.trans (hB.mono hB2.size)⟩
end Go.Proofs.Ytceahjjffnfalaa.Wr
