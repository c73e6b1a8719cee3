/- What is read of bytes, one by one: what a reader answers, and what becomes of it. -/
import Derived.Test.YtfpgdimgffamoaaGreatDoorWrBase
import Derived.Test.YtfpgdimgffamoaaGreatDoorSmA
namespace Go.Proofs.YtfpgdimgffamoaaGreatDoor.Wr
open Go.ChangeShapes Go.WideShapes Go.ChangeAt Go.RowKit Go.Proofs.YtfpgdimgffamoaaGreatDoor.Sm
set_option maxHeartbeats 400000
set_option maxRecDepth 100000

/-! ### what is read -/
/-- can k bytes be read? -/
def okB (l : List UInt8) (at_ : Nat) (bad : Bool) (k : Int) : Bool := decide (bad = false ∧ 0 ≤ k ∧ k ≤ (l.length : Int) - (at_ : Int))
def gotL (l : List UInt8) (at_ : Nat) (bad : Bool) (k : Int) : List UInt8 := if okB l at_ bad k = true then (l.take (at_ + k.toNat)).drop at_ else []
def atN (l : List UInt8) (at_ : Nat) (bad : Bool) (k : Int) : Nat := if okB l at_ bad k = true then at_ + k.toNat else at_
def badN (l : List UInt8) (at_ : Nat) (bad : Bool) (k : Int) : Bool := !okB l at_ bad k
/-- how many bytes a number of this width asks for: fewer than none, where there is no such number. -/
def wid (k : Int) : Int := if 1 ≤ k ∧ k ≤ 7 then k else -1
theorem ok_bad (l : List UInt8) (at_ : Nat) (k : Int) : okB l at_ true k = false := by simp [okB]
theorem ok_neg (l : List UInt8) (at_ : Nat) (bad : Bool) {k : Int} (h : k < 0) : okB l at_ bad k = false := by unfold okB; refine decide_eq_false ?_; omega
theorem ok_less (l : List UInt8) (at_ : Nat) (bad : Bool) {k : Int} (h : (l.length : Int) - (at_ : Int) < k) : okB l at_ bad k = false := by unfold okB; refine decide_eq_false ?_; omega
theorem ok_yes (l : List UInt8) (at_ : Nat) {k : Int} (h0 : 0 ≤ k) (h : k ≤ (l.length : Int) - (at_ : Int)) : okB l at_ false k = true := by unfold okB; exact decide_eq_true ⟨rfl, h0, h⟩
theorem got_no {l : List UInt8} {at_ : Nat} {bad : Bool} {k : Int} (h : okB l at_ bad k = false) : gotL l at_ bad k = [] ∧ atN l at_ bad k = at_ ∧ badN l at_ bad k = true := by
  unfold gotL atN badN; rw [h]; exact ⟨rfl, rfl, rfl⟩
theorem got_yes {l : List UInt8} {at_ : Nat} {bad : Bool} {k : Int} (h : okB l at_ bad k = true) : gotL l at_ bad k = (l.take (at_ + k.toNat)).drop at_ ∧ atN l at_ bad k = at_ + k.toNat ∧ badN l at_ bad k = false := by
  unfold gotL atN badN; rw [h]; exact ⟨rfl, rfl, rfl⟩
theorem atN_le {l : List UInt8} {at_ : Nat} {bad : Bool} {k : Int} (h : at_ ≤ l.length) : atN l at_ bad k ≤ l.length := by
  unfold atN
  split
  · rename_i ho
    have := of_decide_eq_true (show decide _ = true from ho)
    omega
  · exact h
/-- new bytes, and what became of the reader. -/
def RetTake (R : World → Nat → List UInt8 → Nat → Bool → Prop) (w : World) (g : Nat) (l : List UInt8) (at_ : Nat) (bad : Bool) (k : Int) (e : Ending) (w' : World) : Prop :=
  ∃ v, e = .returned v ∧ w'.ownsRow w.heap.size 5 1 v (gotL l at_ bad k).length (cells8 (gotL l at_ bad k)) ∧ R w' g l (atN l at_ bad k) (badN l at_ bad k) ∧ Beside g w w'
theorem RetTake.slice {R : World → Nat → List UInt8 → Nat → Bool → Prop} {w : World} {g : Nat} {l : List UInt8} {at_ : Nat} {bad : Bool} {k : Int} {e : Ending} {w' : World} (h : RetTake R w g l at_ bad k e w') :
    ∃ a n c, e = .returned (.slice a n c) ∧ Row8 w' w'.heap.size a n c (gotL l at_ bad k) ∧ w'.ownsRow w.heap.size 5 1 (.slice a n c) n (cells8 (gotL l at_ bad k)) ∧ R w' g l (atN l at_ bad k) (badN l at_ bad k) ∧ Beside g w w' := by
  obtain ⟨v, rfl, ho, hr, hb⟩ := h
  obtain ⟨a, c, rfl, h8⟩ := owns_slice ho
  exact ⟨a, _, c, rfl, h8, ho, hr, hb⟩
def RetNum (R : World → Nat → List UInt8 → Nat → Bool → Prop) (f : List UInt8 → Int) (w : World) (g : Nat) (l : List UInt8) (at_ : Nat) (bad : Bool) (k : Int) (e : Ending) (w' : World) : Prop :=
  e = .returned (.int .i64 (f (gotL l at_ bad k))) ∧ R w' g l (atN l at_ bad k) (badN l at_ bad k) ∧ Beside g w w'
theorem got_le (l : List UInt8) (at_ : Nat) (bad : Bool) (k : Int) : (gotL l at_ bad k).length ≤ l.length := by
  unfold gotL
  split
  · rw [List.length_drop, List.length_take]; omega
  · simp
end Go.Proofs.YtfpgdimgffamoaaGreatDoor.Wr
