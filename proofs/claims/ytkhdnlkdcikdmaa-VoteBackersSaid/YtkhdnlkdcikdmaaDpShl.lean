/- Deep reckoning, more rules: shifts by a letter. No function of the program in it. -/
import Derived.Test.YtkhdnlkdcikdmaaDpC
namespace Go.Proofs.Ytkhdnlkdcikdmaa.Dp
open Go.RowKit Go.Proofs.Ytkhdnlkdcikdmaa.Sm
open Go.Proofs.Ytkhdnlkdcikdmaa.Ev (Obl opnds dstB PT nx pt_put undef_bool pickB isRow_false seenL seenR seen_all resRun)
set_option maxHeartbeats 1000000
set_option linter.unusedVariables false
section
variable {κ : Nat→Prop} {B:Base} {N:Nat} {ρ : Own} {s s':St} {a:Act} {w:World} {ops:Array Oper} {rest:List Oper} {o:Oper} {Q:Exit→St→Prop} {A:List (Nat×Bool)} {P:Program}
theorem shl_run (hI:Inv κ B ρ s N a w) {k yk:IntKind} {m n r:Int} {x y:Operand} {t ty:TypeId} (hb:r=k.wrap (m*2^min n.toNat k.bits)) (hop:o.op = .binOp .shl t x y ty) (hx:s.look A x=some (.v (.int k m))) (hy:s.look A y=some (.v (.int yk n))) (hn:¬ n<0) (hpt:PT a A):∃ v,(execOp a.eval o).run P w = .ok (.value v) w∧RepO w (okW κ w ρ) ρ (.v (.int k r)) v:=by
 have ex:=repO_v (look_rep hI hx hpt)
 have ey:=repO_v (look_rep hI hy hpt)
 refine ⟨.int k r,?_,.one (.c (.v _))⟩
 subst hb
 unfold execOp
 simp only [hop,Sem.run_bind,ex,ey]
 have hg:(eqGuard .shl t x y (.int k m) (.int yk n)).run P w = .ok () w:=rfl
 have h2:(binOp .shl t (.int k m) (.int yk n)).run P w = .ok (.int k (k.wrap (m*2^min n.toNat k.bits))) w:=by
  simp only [binOp,Op.shift,if_neg hn]
  rfl
 rw [hg,Result.andThen_ok,h2,Result.andThen_ok,Sem.run_pure]
theorem PL.shl {k yk:IntKind} (m n r:Int) {x y:Operand} {t ty:TypeId} (hop:o.op = .binOp .shl t x y ty) (hb:r=k.wrap (m*2^min n.toNat k.bits)) (hA:gpath ops s o=some A) (hcl:closedB s A=true) (hd:dstB N A o.dst=true) (hx:s.look A x=some (.v (.int k m))) (hy:s.look A y=some (.v (.int yk n))) (hn:pathP s A→¬ n<0) (h:PL P N ops rest Q (s.put o.dst A (.v (.int k r)))):PL P N ops (o::rest) Q s:=fun κ B ρ a w0 w hI hb0 =>
 val_step hI hA hd _ (fun hpt=>shl_run hI hb hop hx hy (hn (path_of hI (closedB_of hcl) hpt)) hpt) fun a' hI'=>h κ B ρ a' w0 w hI' hb0
theorem PO1.shl {hs:List Nat} {u i:Nat} {listed:Array Bool} {k yk:IntKind} (m n r:Int) {x y:Operand} {t ty:TypeId} (ho:ops[i]? = some o) (hop:o.op = .binOp .shl t x y ty) (hb:r=k.wrap (m*2^min n.toNat k.bits)) (hA:gpath ops s o=some A) (hcl:closedB s A=true) (hd:dstB N A o.dst=true) (hx:s.look A x=some (.v (.int k m))) (hy:s.look A y=some (.v (.int yk n))) (hn:pathP s A→¬ n<0) (h:PO P N ops hs u (listed.setIfInBounds i true) Q (s.put o.dst A (.v (.int k r)))):PO1 P N ops hs u listed Q s i:=fun κ B ρ a w0 w hI hb0=>by
 refine wpOp_of ho (val_step hI hA hd _ (fun hpt=>shl_run hI hb hop hx hy (hn (path_of hI (closedB_of hcl) hpt)) hpt) fun a' hI' => ?_)
 exact ⟨Agree.refl _ _ _,h κ B ρ a' w0 w hI' hb0⟩
end
end Go.Proofs.Ytkhdnlkdcikdmaa.Dp
