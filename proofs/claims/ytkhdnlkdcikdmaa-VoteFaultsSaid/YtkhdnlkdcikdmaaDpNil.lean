/- Deep reckoning: nil slices handed over where lists of nothing are asked for. No function of the program in it. -/
import Derived.Test.YtkhdnlkdcikdmaaDpC
namespace Go.Proofs.Ytkhdnlkdcikdmaa.Dp
open Go.RowKit Go.Proofs.Ytkhdnlkdcikdmaa.Sm
set_option maxHeartbeats 1000000
set_option linter.unusedVariables false
theorem PC.arg {P:Program} {G:List (Nat×List D)} {f:FuncId} {ds:List D} {R:D→Prop} (k:Nat) (d':D) {d0:D} (hk:ds[k]? = some d0) (hd:∀ w ok v,RepC w ok d0 v→RepC w ok d' v) (h:PC P G f (ds.set k d') R):PC P G f ds R:=fun κ w vs h1 h2 h3 h4=>h κ w vs h1 h2 (by rw [List.length_set]; exact h3) fun j d v e1 e2=>by
 have hlt:k<ds.length:=(List.getElem?_eq_some_iff.1 hk).1
 by_cases hj:k=j
 ·subst hj
  rw [List.getElem?_set_self hlt] at e1
  injection e1 with e1
  subst e1
  exact hd _ _ _ (h4 k d0 v hk e2)
 ·rw [List.getElem?_set_ne hj] at e1
  exact h4 j d v e1 e2
theorem PC.argnil {P:Program} {G:List (Nat×List D)} {f:FuncId} {ds cs:List D} {R:D→Prop} (k i z:Nat) (g:Nat→List D) (hk:ds[k]? = some (.r cs)) (hi:cs[i]? = some (.v (.slice none 0 0))) (h:PC P G f (ds.set k (.r (cs.set i (.s 0 z g)))) R):PC P G f ds R :=
 PC.arg k _ hk (fun w ok v hv=>hv.renil hi) h
theorem PC.argnil1 {P:Program} {G:List (Nat×List D)} {f:FuncId} {ds:List D} {R:D→Prop} (k z:Nat) (g:Nat→List D) (hk:ds[k]? = some (.v (.slice none 0 0))) (h:PC P G f (ds.set k (.s 0 z g)) R):PC P G f ds R :=
 PC.arg k _ hk (fun w ok v hv=>by cases hv; exact .s0 z g none 0 (fun _=>rfl) (Nat.zero_le _)) h
end Go.Proofs.Ytkhdnlkdcikdmaa.Dp
