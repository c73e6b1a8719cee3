/- The insertion sort of ports. -/
import Derived.Test.YtagdeldgpkjjjaaDoorPlSort
import Derived.Test.YtagdeldgpkjjjaaDoorDpC
namespace Go.Proofs.YtagdeldgpkjjjaaDoor.Pl
open Go.RowKit Go.Proofs.YtagdeldgpkjjjaaDoor.Sm Go.Proofs.YtagdeldgpkjjjaaDoor.Dp
set_option maxHeartbeats 4000000
set_option maxRecDepth 100000
set_option linter.unusedVariables false
set_option linter.unusedSimpArgs false
/-- the first k stand by rising nodes. -/
def Srt (ys : List Port) (k : Nat) : Prop := ∀ a b, a < b → b < k → (ys.getD a default).node ≤ (ys.getD b default).node
/-- but for the one at j, which is less than all behind it. -/
def But (ys : List Port) (i j : Nat) : Prop := (∀ a b, a < b → b ≤ i → a ≠ j → b ≠ j → (ys.getD a default).node ≤ (ys.getD b default).node) ∧ ∀ b, j < b → b ≤ i → (ys.getD j default).node ≤ (ys.getD b default).node
theorem but_first {ys : List Port} {i : Nat} (h : Srt ys i) : But ys i i := ⟨fun a b hab hb ha hbi => h a b hab (by omega), fun b h1 h2 => by omega⟩
theorem but_last {ys : List Port} {i j : Nat} (h : But ys i j) (hj : ¬ (0 < j ∧ (ys.getD j default).node < (ys.getD (j - 1) default).node)) : Srt ys (i + 1) := by
  intro a b hab hb
  by_cases h1 : a = j
  · subst h1; exact h.2 b hab (by omega)
  · by_cases h2 : b = j
    · subst h2
      have h3 : ¬ (ys.getD b default).node < (ys.getD (b - 1) default).node := fun h => hj ⟨by omega, h⟩
      by_cases h4 : a = b - 1
      · subst h4; omega
      · have := h.1 a (b - 1) (by omega) (by omega) h1 (by omega)
        omega
    · exact h.1 a b hab (by omega) h1 h2
theorem but_step {ys : List Port} {i j : Nat} (hj : 0 < j) (hji : j ≤ i) (hi : i < ys.length) (h : But ys i j) (hlt : (ys.getD j default).node < (ys.getD (j - 1) default).node) : But ((ys.set j (ys.getD (j - 1) default)).set (j - 1) (ys.getD j default)) i (j - 1) := by
  have g : ∀ k, ((ys.set j (ys.getD (j - 1) default)).set (j - 1) (ys.getD j default)).getD k default = if k = j - 1 then ys.getD j default else if k = j then ys.getD (j - 1) default else ys.getD k default := fun k => by
    rw [getD_set (hi := by rw [List.length_set]; omega), getD_set (hi := by omega)]
  refine ⟨fun a b hab hb ha hbj => ?_, fun b h1 h2 => ?_⟩
  · rw [g, g, if_neg ha, if_neg hbj]
    by_cases h1 : a = j
    · rw [if_pos h1, if_neg (by omega)]; exact h.1 _ b (by omega) hb (by omega) (by omega)
    · rw [if_neg h1]
      by_cases h2 : b = j
      · rw [if_pos h2]; exact h.1 a _ (by omega) (by omega) h1 (by omega)
      · rw [if_neg h2]; exact h.1 a b hab hb h1 h2
  · rw [g, g, if_pos rfl, if_neg (by omega)]
    by_cases h3 : b = j
    · rw [if_pos h3]; omega
    · rw [if_neg h3]; exact h.2 b (by omega) h2
theorem swap_perm {ys : List Port} {j : Nat} (hj : 0 < j) (hi : j < ys.length) : ((ys.set j (ys.getD (j - 1) default)).set (j - 1) (ys.getD j default)).Perm ys := by
  have e1 : ys.getD (j - 1) default = ys[j - 1]'(by omega) := by simp [List.getD_eq_getElem?_getD, List.getElem?_eq_getElem (show j - 1 < ys.length by omega)]
  have e2 : ys.getD j default = ys[j]'hi := by simp [List.getD_eq_getElem?_getD, List.getElem?_eq_getElem hi]
  rw [e1, e2]
  exact List.set_set_perm hi (by omega)
theorem wrapm (j : Nat) (h : 0 < j) (hb : j < 4611686018427387904) : IntKind.i64.wrap ((j : Int) - 1) = ((j - 1 : Nat) : Int) := by rw [Ev.wrap_i64 (by omega) (by omega)]; omega
theorem but_exit {zs : List Port} {q : Nat} (hz : ¬ ((q : Int) > 0) ∨ ¬ (zs.getD q default).node < (zs.getD (IntKind.i64.wrap ((q : Int) - 1)).toNat default).node) (hj : 0 < q → IntKind.i64.wrap ((q : Int) - 1) = ((q - 1 : Nat) : Int)) : ¬ (0 < q ∧ (zs.getD q default).node < (zs.getD (q - 1) default).node) := by
  rintro ⟨h1, h2⟩
  rcases hz with h | h
  · omega
  · rw [hj h1] at h; exact h h2
end Go.Proofs.YtagdeldgpkjjjaaDoor.Pl
