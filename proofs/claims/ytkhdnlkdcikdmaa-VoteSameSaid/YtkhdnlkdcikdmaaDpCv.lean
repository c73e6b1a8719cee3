/- Deep reckoning, more rules: bytes made a string. No function of the program in it. -/
import Derived.Test.YtkhdnlkdcikdmaaDpC
namespace Go.Proofs.Ytkhdnlkdcikdmaa.Dp
open Go.RowKit Go.Proofs.Ytkhdnlkdcikdmaa.Sm
open Go.Proofs.Ytkhdnlkdcikdmaa.Ev (Obl opnds dstB PT nx pt_put undef_bool pickB isRow_false seenL seenR seen_all resRun)
set_option maxHeartbeats 1000000
set_option linter.unusedVariables false
section
variable {κ : Nat→Prop} {B:Base} {N:Nat} {ρ : Own} {s s':St} {a:Act} {w:World} {ops:Array Oper} {rest:List Oper} {o:Oper} {Q:Exit→St→Prop} {A:List (Nat×Bool)} {P:Program}
theorem cv_run (hI:Inv κ B ρ s N a w) {l:List UInt8} {x:Operand} {t e u:TypeId} (hop:o.op = .convert t u x) (hs:P.underlying t=some (.slice e)) (he:P.underlying e=some (.int .u8)) (hu:P.underlying u=some .string) (hx:s.look A x=some (bytesD l)) (hpt:PT a A):∃ v,(execOp a.eval o).run P w = .ok (.value v) w∧RepO w (okW κ w ρ) ρ (.v (.string (str l))) v:=by
 have hr:=look_rep hI hx hpt
 generalize hv:a.eval x=vx at hr
 have hrc:RepC w (okW κ w ρ) (bytesD l) vx:=by
  cases hr with
  | one hr=>cases hr with
   | c hr=>exact hr
 obtain ⟨a1,c,rfl,h8⟩:=rep_bytes hrc (B:=w.heap.size) fun g hg=>hg.1.2
 refine ⟨.string (str l),?_,.one (.c (.v _))⟩
 unfold execOp
 simp only [hop,Sem.run_bind,hv,conv_str h8 hs he hu,Result.andThen_ok,Sem.run_pure]
theorem PL.cv (l:List UInt8) {x:Operand} {t e u:TypeId} (hop:o.op = .convert t u x) (hs:P.underlying t=some (.slice e)) (he:P.underlying e=some (.int .u8)) (hu:P.underlying u=some .string) (hA:gpath ops s o=some A) (hd:dstB N A o.dst=true) (hx:s.look A x=some (bytesD l)) (h:PL P N ops rest Q (s.put o.dst A (.v (.string (str l))))):PL P N ops (o::rest) Q s:=fun κ B ρ a w0 w hI hb0 =>
 val_step hI hA hd _ (fun hpt=>cv_run hI hop hs he hu hx hpt) fun a' hI'=>h κ B ρ a' w0 w hI' hb0
theorem PO1.cv {hs:List Nat} {n i:Nat} {listed:Array Bool} (l:List UInt8) {x:Operand} {t e u:TypeId} (ho:ops[i]? = some o) (hop:o.op = .convert t u x) (hs':P.underlying t=some (.slice e)) (he:P.underlying e=some (.int .u8)) (hu:P.underlying u=some .string) (hA:gpath ops s o=some A) (hd:dstB N A o.dst=true) (hx:s.look A x=some (bytesD l)) (h:PO P N ops hs n (listed.setIfInBounds i true) Q (s.put o.dst A (.v (.string (str l))))):PO1 P N ops hs n listed Q s i:=fun κ B ρ a w0 w hI hb0=>by
 refine wpOp_of ho (val_step hI hA hd _ (fun hpt=>cv_run hI hop hs' he hu hx hpt) fun a' hI' => ?_)
 exact ⟨Agree.refl _ _ _,h κ B ρ a' w0 w hI' hb0⟩
end
end Go.Proofs.Ytkhdnlkdcikdmaa.Dp
