/- The sixteen nets of Made, looked at one by one: each is right. -/
import Derived.Test.YtagdeldgpkjjjaaDoorMdFour
import Derived.ProofKit
namespace Go.Proofs.YtagdeldgpkjjjaaDoor.Pl
open Go.RowKit Go.Proofs.YtagdeldgpkjjjaaDoor.Sm Go.Proofs.YtagdeldgpkjjjaaDoor.Dp
set_option maxHeartbeats 4000000
set_option maxRecDepth 100000
set_option linter.unusedVariables false
/-- what holds of the sixteen nets, whatever the other numbers are, holds of what Made makes. -/
theorem made_ind {Q : Config → Prop} (h : ∀ (p sh : Nat), 1 ≤ p → p ≤ 4 → sh < 4 → ∀ cy dr ag lo li ca : Int, Q (cfg1 (netOf p sh).1 (netOf p sh).2 cy dr ag lo li ca)) (n : Int) : Q (madeC n) := by
  have h2 := h (1 + n % 65536 % 4).toNat (n % 65536 / 4 % 4).toNat (by omega) (by omega) (by omega)
  rw [Int.toNat_of_nonneg (Int.emod_nonneg _ (by decide))] at h2
  exact h2 _ _ _ _ _ _
theorem nets16 {Q : Nat → Nat → Prop} (h : Q 1 0 ∧ Q 1 1 ∧ Q 1 2 ∧ Q 1 3 ∧ Q 2 0 ∧ Q 2 1 ∧ Q 2 2 ∧ Q 2 3 ∧ Q 3 0 ∧ Q 3 1 ∧ Q 3 2 ∧ Q 3 3 ∧ Q 4 0 ∧ Q 4 1 ∧ Q 4 2 ∧ Q 4 3) (p sh : Nat) (h1 : 1 ≤ p) (h4 : p ≤ 4) (hs : sh < 4) : Q p sh := by
  obtain ⟨a, b, c, d, e, f, g, i, j, k, l, m, n, o, q, r⟩ := h
  match p, sh, h1, h4, hs with
  | 1, 0, _, _, _ => exact a
  | 1, 1, _, _, _ => exact b
  | 1, 2, _, _, _ => exact c
  | 1, 3, _, _, _ => exact d
  | 2, 0, _, _, _ => exact e
  | 2, 1, _, _, _ => exact f
  | 2, 2, _, _, _ => exact g
  | 2, 3, _, _, _ => exact i
  | 3, 0, _, _, _ => exact j
  | 3, 1, _, _, _ => exact k
  | 3, 2, _, _, _ => exact l
  | 3, 3, _, _, _ => exact m
  | 4, 0, _, _, _ => exact n
  | 4, 1, _, _, _ => exact o
  | 4, 2, _, _, _ => exact q
  | 4, 3, _, _, _ => exact r
  | p + 5, _, _, h, _ => omega
  | _, s + 4, _, _, h => omega
theorem made_right (n : Int) : checkP (madeC n) = (0, 0) :=
  made_ind (Q := fun c => checkP c = (0, 0)) (fun p sh h1 h4 hs => nets16 (Q := fun p sh => ∀ cy dr ag lo li ca : Int, checkP (cfg1 (netOf p sh).1 (netOf p sh).2 cy dr ag lo li ca) = (0, 0))
    (by refine ⟨?_, ?_, ?_, ?_, ?_, ?_, ?_, ?_, ?_, ?_, ?_, ?_, ?_, ?_, ?_, ?_⟩ <;> (intros; kernel_rfl)) p sh h1 h4 hs) n
end Go.Proofs.YtagdeldgpkjjjaaDoor.Pl
