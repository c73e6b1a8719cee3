/- The document's examples of chapter 2 hold: what the law's own check of them returns. -/
import Derived.Test.YtnfhholdaidpnaaSmOpen
import Derived.Lib.SlBytesConst
namespace Go.Proofs.Ytnfhholdaidpnaa.Sm
open Go.ChangeShapes Go.WideShapes Go.ChangeAt Go.RowKit
set_option maxHeartbeats 400000

theorem isSealed_seal (l : List UInt8) : isSealed (sealB l) = true := by
  unfold isSealed sealB
  simp [tail4_length]
theorem inner_seal (l : List UInt8) : inner (sealB l) = l := by
  rw [inner_yes (isSealed_seal l)]
  unfold sealB
  simp [tail4_length]
theorem sealB_length (l : List UInt8) : (sealB l).length = l.length + 4 := by simp [sealB, tail4_length]
theorem of_nine : ((of [49, 50, 51, 52, 53, 54, 55, 56, 57]).toNat : Int) = 4236843288 := by decide +kernel

/-- true, and nothing that was there has turned. -/
def RetTrue (w : World) (e : Ending) (w' : World) : Prop := e = .returned (.bool true) ∧ Below w.heap.size w w'

theorem alive_calls (w : World) : Calls Try.prog 9 #[] w fun e w' => RetTrue w e w' := by
  have h5 := isSealed_seal [5]
  have h123 : isSealed [1, 2, 3] = false := by decide
  have kc := fun (w : World) (C : Array Value) (n c : Nat) => Lib.run_convert_bytes_const (P := Try.prog) w 22 5 C n c Try.underlying22 Try.underlying5
  go_enter Try.func9, Try.ntmps9
  go_wp2_with (first | (go_at_call 18; refine stop ?_) | (go_at_call 16; refine stop ?_) | (go_at_call 12; refine stop ?_))
  unfold Stop
  have hb0 : Below w.heap.size w (w.alloc (.cells #[.int .u8 5] 5)) := (Below.refl _ _).alloc (Nat.le_refl _) _
  refine (seal_calls _ 1 1 [5] _ (by simpa using Row8.lit w 5 #[.int .u8 5] [5] 1 rfl (by decide) rfl) (by decide)).mono ?_
  rintro e w1 ⟨v1, rfl, hm1⟩
  obtain ⟨a1, c1, rfl, hr1, hb1⟩ := hm1.slice
  rw [sealB_length] at hr1 ⊢
  have HR1 := hid hr1
  clear hr1 hm1
  go_wp2_with (first | (go_at_call 16; refine stop ?_))
  unfold Stop
  refine (open_calls a1 5 c1 (sealB [5]) w1 HR1.out (by decide)).mono ?_
  rintro e w2 ⟨v2, rfl, hm2⟩
  rw [inner_seal] at hm2
  obtain ⟨a2, c2, rfl, hr2, hb2⟩ := hm2.slice
  obtain ⟨g, off, rfl, hg, hcell⟩ := hr2.cells (by decide)
  have hc5 : w2.cell? ⟨g, off, none⟩ = some (.int .u8 5) := hcell 0 5 rfl
  have hB2 : Below w.heap.size w w2 := (hb0.trans (hb1.mono (by simp))).trans (hb2.mono (by have := hb1.size; simp at this; omega))
  clear hcell hr2 hm2 HR1 hb0 hb1 hb2
  go_wp2_with (first | (go_at_call 16; refine stop ?_))
  unfold Stop
  have hb3 : Below w2.heap.size w2 (w2.alloc (.cells #[.int .u8 1, .int .u8 2, .int .u8 3] 5)) := (Below.refl _ _).alloc (Nat.le_refl _) _
  refine (open_calls _ 3 3 [1, 2, 3] _ (by simpa using Row8.lit w2 5 #[.int .u8 1, .int .u8 2, .int .u8 3] [1, 2, 3] 3 rfl (by decide) rfl) (by decide)).mono ?_
  rintro e w3 ⟨v3, rfl, hm3⟩
  have hB3 : Below w2.heap.size w2 w3 := hb3.trans (hm3.2.mono (by simp))
  have hc5' : w3.cell? ⟨g, off, none⟩ = some (.int .u8 5) := (hB3.cell (p := ⟨g, off, none⟩) hg).trans hc5
  have hg3 : g < w3.heap.size := Nat.lt_of_lt_of_le hg hB3.size
  have hB : Below w.heap.size w w3 := hB2.trans (hB3.mono hB2.size)
  clear hm3 hb3 hB3 hB2 hc5 hg
  go_wp2_with (first | (go_at_call 12; refine stop ?_))
  unfold Stop
  refine (of_calls _ 9 9 [49, 50, 51, 52, 53, 54, 55, 56, 57] _ _ (Row8.lit w3 5 #[.int .u8 49, .int .u8 50, .int .u8 51, .int .u8 52, .int .u8 53, .int .u8 54, .int .u8 55, .int .u8 56, .int .u8 57] [49, 50, 51, 52, 53, 54, 55, 56, 57] 9 rfl (by decide) rfl)).mono ?_
  rintro e w4 ⟨rfl, rfl⟩
  rw [of_nine]
  go_wp2
  go_ret
  exact ⟨rfl, hB.alloc hB.size _⟩
end Go.Proofs.Ytnfhholdaidpnaa.Sm
