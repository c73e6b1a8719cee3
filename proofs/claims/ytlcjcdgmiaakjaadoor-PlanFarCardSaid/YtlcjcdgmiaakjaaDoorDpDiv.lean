/- Deep reckoning, more rules: quotients and remainders by a letter. No function of the program in it. -/
import Derived.Test.YtlcjcdgmiaakjaaDoorDpInl
namespace Go.Proofs.YtlcjcdgmiaakjaaDoor.Dp
open Go.RowKit Go.Proofs.YtlcjcdgmiaakjaaDoor.Sm
open Go.Proofs.YtlcjcdgmiaakjaaDoor.Ev (Obl opnds dstB PT nx pt_put undef_bool pickB isRow_false seenL seenR seen_all resRun)
set_option maxHeartbeats 1000000
set_option linter.unusedVariables false
section
variable {κ : Nat → Prop} {B : Base} {N : Nat} {ρ : Own} {s s' : St} {a : Act} {w : World} {ops : Array Oper} {rest : List Oper} {o : Oper} {Q : Exit → St → Prop} {A : List (Nat × Bool)} {P : Program}
/-! ### ways that meet again -/
def JoinR {α : Type} (st : α → St) (I : α → Prop) (ds : List Nat) (m : Nat) (s' : St) : Prop := ∃ x' s1, s'.sel ds m = s1 ∧ s1.underB m = true ∧ Rem s1 (st x') ∧ I x'
theorem JoinR.of {α : Type} {st : α → St} {I : α → Prop} {ds : List Nat} {m : Nat} {s1 : St} (x' : α) (h : s'.sel ds m = s1) (hu : s1.underB m = true) (hs : Rem s1 (st x')) (hI : I x') : JoinR st I ds m s' := ⟨x', s1, h, hu, hs, hI⟩
theorem PW.join {α : Type} {x y : Code} (st : α → St) (I : α → Prop) (ds : List Nat) (m : Nat) (hy : ∀ z, I z → PW P N y Q (st z)) (hx : PW P N x (thenD (JoinR st I ds m) Q) s) : PW P N (.seq x y) Q s := by
  refine PW.seq (PW.mono hx fun e s1 h => ?_)
  cases e with
  | normal =>
    obtain ⟨z, s2, h1, h2, h3, h4⟩ := h
    exact PW.sel ds m h1 h2 (PW.rem h3 (hy z h4))
  | _ => exact h
/-! ### what a variable holds, forgotten -/
theorem PI.more {G : List (Nat × List D)} {f : FuncId} {ds : List D} {mem : List Obj} {R : D → List Obj → Prop} (h : PI P [] f ds mem R) : PI P G f ds mem R := fun κ w ρ vs h1 h2 _ h4 h5 => h κ w ρ vs h1 h2 (fun x hx => (nomatch hx)) h4 h5
/-! ### what is lent to be read alone, with a result of several plain values -/
end
end Go.Proofs.YtlcjcdgmiaakjaaDoor.Dp
