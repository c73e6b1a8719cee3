/- The laws' own test of a frame's lists (small), and the document's own within, Time and flag. -/
import Derived.Test.YtliejllegabdnaaDoorFrVal
import Derived.Test.YtliejllegabdnaaDoorSmA
import Derived.Test.YtliejllegabdnaaDoorSmE
namespace Go.Proofs.YtliejllegabdnaaDoor.Fr
open Go.ChangeShapes Go.WideShapes Go.ChangeAt Go.RowKit Go.Proofs.YtliejllegabdnaaDoor.Sm Go.Proofs.YtliejllegabdnaaDoor.Wr
set_option maxHeartbeats 4000000
set_option maxRecDepth 100000

theorem small_calls (f : Frame) (v : Value) (B : Nat) (w : World) (hf : FrV w B v f) :
    Calls Tryd.prog 9 #[v] w fun e w' => e = .returned (.bool (decide (f.ages.length ≤ 40 ∧ f.body.length ≤ 100))) ∧ Below w.heap.size w w' := by
  obtain ⟨a, n, c, a', n', c', ev, ra, rb, _⟩ := hf
  have h1 := ra.len
  have h2 := rb.len
  have hs1 := ra.row.small
  have hs2 : n' ≤ 9223372036854775807 := by have h1 := rb.room; have h2 := rb.cap; unfold maxLen at h2; omega
  rw [h1, h2]
  have HV := hid ev
  clear ev ra rb h1 h2
  obtain ⟨z, hz⟩ : ∃ z, decide (n ≤ 40 ∧ n' ≤ 100) = z := ⟨_, rfl⟩
  rw [hz]
  by_cases hn : n ≤ 40
  · by_cases hn' : n' ≤ 100
    · obtain rfl : z = true := hz.symm.trans (decide_eq_true ⟨hn, hn'⟩)
      clear hz
      go_enter Tryd.func9, Tryd.ntmps9
      iterate 3 go_step
      refine wpList_box_any rfl _ _ rfl _ HV.out ?_
      intro p W n0
      have k9 := n0.ob.cell (i := 9) (v := .slice a n c) rfl
      have k13 := n0.ob.cell (i := 13) (v := .slice a' n' c') rfl
      have HB := hid n0.below
      clear n0
      go_wp2
      go_ret
      exact ⟨by first | rfl | (congr 2; simp; omega) | (congr 1; simp; omega) | (simp; omega), HB.out⟩
    · obtain rfl : z = false := hz.symm.trans (decide_eq_false fun h => hn' h.2)
      clear hz
      go_enter Tryd.func9, Tryd.ntmps9
      iterate 3 go_step
      refine wpList_box_any rfl _ _ rfl _ HV.out ?_
      intro p W n0
      have k9 := n0.ob.cell (i := 9) (v := .slice a n c) rfl
      have k13 := n0.ob.cell (i := 13) (v := .slice a' n' c') rfl
      have HB := hid n0.below
      clear n0
      go_wp2
      go_ret
      exact ⟨by first | rfl | (congr 2; simp; omega) | (congr 1; simp; omega) | (simp; omega), HB.out⟩
  · obtain rfl : z = false := hz.symm.trans (decide_eq_false fun h => hn h.1)
    clear hz
    go_enter Tryd.func9, Tryd.ntmps9
    iterate 3 go_step
    refine wpList_box_any rfl _ _ rfl _ HV.out ?_
    intro p W n0
    have k9 := n0.ob.cell (i := 9) (v := .slice a n c) rfl
    have k13 := n0.ob.cell (i := 13) (v := .slice a' n' c') rfl
    have HB := hid n0.below
    clear n0
    go_wp2
    go_ret
    exact ⟨rfl, HB.out⟩
theorem within_calls (n lo hi : Int) (w : World) : Calls Tryd.prog 28 #[.int .i64 n, .int .i64 lo, .int .i64 hi] w fun e w' => e = .returned (.bool (decide (lo ≤ n ∧ n ≤ hi))) ∧ w = w' := by
  by_cases h1 : lo ≤ n
  · by_cases h2 : n ≤ hi
    · rw [decide_eq_true ⟨h1, h2⟩]
      go_enter Tryd.func28, Tryd.ntmps28
      go_wp2
      go_ret
      exact ⟨rfl, rfl⟩
    · rw [decide_eq_false fun h => h2 h.2]
      go_enter Tryd.func28, Tryd.ntmps28
      go_wp2
      go_ret
      exact ⟨rfl, rfl⟩
  · rw [decide_eq_false fun h => h1 h.1]
    go_enter Tryd.func28, Tryd.ntmps28
    go_wp2
    go_ret
    exact ⟨rfl, rfl⟩
theorem time_calls (n : Int) (w : World) : Calls Tryd.prog 29 #[.int .i64 n] w fun e w' => e = .returned (.bool (decide (-1099511627776 ≤ n ∧ n ≤ 1099511627776))) ∧ w = w' := by
  by_cases h1 : -1099511627776 ≤ n
  · by_cases h2 : n ≤ 1099511627776
    · rw [decide_eq_true ⟨h1, h2⟩]
      go_enter Tryd.func29, Tryd.ntmps29
      go_wp2
      go_ret
      exact ⟨rfl, rfl⟩
    · rw [decide_eq_false fun h => h2 h.2]
      go_enter Tryd.func29, Tryd.ntmps29
      go_wp2
      go_ret
      exact ⟨rfl, rfl⟩
  · rw [decide_eq_false fun h => h1 h.1]
    go_enter Tryd.func29, Tryd.ntmps29
    go_wp2
    go_ret
    exact ⟨rfl, rfl⟩
end Go.Proofs.YtliejllegabdnaaDoor.Fr
