/- Deep reckoning, more rules: a guard that is known to hold is left out. No function of the program in it. -/
import Derived.Test.YtkhdnlkdcikdmaaDpC
namespace Go.Proofs.Ytkhdnlkdcikdmaa.Dp
open Go.RowKit Go.Proofs.Ytkhdnlkdcikdmaa.Sm
open Go.Proofs.Ytkhdnlkdcikdmaa.Ev (Obl opnds dstB PT nx pt_put undef_bool pickB isRow_false seenL seenR seen_all resRun)
set_option maxHeartbeats 1000000
set_option linter.unusedVariables false
section
variable {κ : Nat→Prop} {B:Base} {N:Nat} {ρ : Own} {s s':St} {a:Act} {w:World} {ops:Array Oper} {rest:List Oper} {o:Oper} {Q:Exit→St→Prop} {A:List (Nat×Bool)} {P:Program}
def St.strip (A:List (Nat×Bool)) (s:St):St:={ s with tab:=s.tab.map fun e=>{ e with path:=e.path.filter fun x => !A.contains x } }
theorem Inv.strip (hI:Inv κ B ρ s N a w) (hp:PT a A):Inv κ B ρ (s.strip A) N a w:=by
 refine ⟨hI.size,hI.dfr,fun e he => ?_,hI.len,hI.own,hI.nd,hI.mem,hI.gl,hI.big,hI.hκ,hI.fx,hI.fix⟩
 obtain ⟨e0,h0,rfl⟩:=List.mem_map.1 he
 have hk:=hI.tab e0 h0
 have h1:PT a (e0.path.filter fun x => !A.contains x)→PT a e0.path:=fun h x hx=>by
  by_cases hm:x ∈ A
  ·exact hp x hm
  ·exact h x (List.mem_filter.2 ⟨hx,by simpa using hm⟩)
 exact ⟨fun h=>hk.yes (h1 h),fun h=>hk.no fun h2=>h fun x hx=>h2 x (List.mem_filter.1 hx).1,hk.lt⟩
theorem PL.ung (A:List (Nat×Bool)) (hA:gpath ops s o=some A) (hk:A.map (fun x=>s.look [] (.tmp x.1))=A.map fun x=>some (.v (.bool x.2))) (h:PL P N ops ({ o with guard:=none }::rest) Q (s.strip A)):PL P N ops (o::rest) Q s:=fun κ B ρ a w0 w hI hb=>by
 have hp:PT a A:=fun x hx=>repO_v (look_rep hI ((List.map_inj_left.1 hk) x hx) (fun _ h=>nomatch h))
 have hw:=(wanted_iff hI hA).2 hp
 have h2:=h κ B ρ a w0 w (hI.strip hp) hb
 unfold wpList at h2 ⊢
 rw [if_pos hw]
 rw [if_pos (by rfl)] at h2
 exact h2
end
end Go.Proofs.Ytkhdnlkdcikdmaa.Dp
