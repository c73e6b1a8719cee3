/- Deep reckoning, more rules: pieces with three indexes of slices that nobody writes; a nil slice told as a list of nothing. No function of the program in it. -/
import Derived.Test.YtkhdnlkdcikdmaaDpOb
namespace Go.Proofs.Ytkhdnlkdcikdmaa.Dp
open Go.RowKit Go.Proofs.Ytkhdnlkdcikdmaa.Sm
open Go.Proofs.Ytkhdnlkdcikdmaa.Ev (Obl opnds dstB PT nx pt_put undef_bool pickB isRow_false seenL seenR seen_all resRun)
set_option maxHeartbeats 1000000
set_option linter.unusedVariables false
set_option linter.unusedSimpArgs false
section
variable {κ : Nat→Prop} {B:Base} {N:Nat} {ρ : Own} {s s':St} {a:Act} {w:World} {A:List (Nat×Bool)} {o:Oper} {ops:Array Oper} {P:Program} {rest:List Oper} {Q:Exit→St→Prop} {c:Code}
theorem s3_run (hI:Inv κ B ρ s N a w) {x lo hi mx:Operand} {t e:TypeId} {n z:Nat} {f:Nat→List D} {l h:Int} (hop:o.op = .slice t x (some lo) (some hi) (some mx)) (hu:P.underlying t=some (.slice e)) (hz:szOf P e=some z) (hx:s.look A x=some (.s n z f)) (hl:s.look A lo=some (.v (.int .i64 l))) (hh:s.look A hi=some (.v (.int .i64 h))) (hm:s.look A mx=some (.v (.int .i64 h))) (hn:0≤l∧l≤h∧h≤(n:Int)) (hpt:PT a A):∃ v,(execOp a.eval o).run P w = .ok (.value v) w∧RepO w (okW κ w ρ) ρ (.s (h.toNat-l.toNat) z fun k=>f (l.toNat+k)) v:=by
 have he:P.elem t=e:=by unfold Program.elem; rw [hu]
 have hu':P.underlying t=some (.slice (P.elem t)):=by rw [he]; exact hu
 obtain ⟨ti,h1,h2⟩:=Option.map_eq_some_iff.1 hz
 have hr:=look_rep hI hx hpt
 have el:=repO_v (look_rep hI hl hpt)
 have eh:=repO_v (look_rep hI hh hpt)
 have em:=repO_v (look_rep hI hm hpt)
 have run:∀ a1 c1,n≤c1→a.eval x = .slice a1 n c1→(execOp a.eval o).run P w = .ok (.value (.slice (cutB a1 h.toNat l.toNat z) (h.toNat-l.toNat) (h.toNat-l.toNat))) w:=by
  intro a1 c1 hc hv
  unfold execOp
  rw [hop]
  simp only [Option.map_some,hv,el,eh,em,Sem.run_bind]
  rw [run_sliceAt_slice (P:=P) (w:=w) t _ _ _ _ hu',run_slice_lhm w t a1 n c1 hu' _ _ _ _ _ _ hn.1 hn.2.1 (Int.le_refl _) oM,he]
  simp [sizeOf,typeInfo,h1,h2,Result.andThen,sliced,cutB]
 generalize hv:a.eval x=vx at hr
 have hrc:RepC w (okW κ w ρ) (.s n z f) vx:=by
  cases hr with
  | one hr=>cases hr with
   | c hr=>exact hr
 obtain ⟨a1,c1,rfl,hc⟩:∃ a1 c1,vx = .slice a1 n c1∧n≤c1:=by
  cases hrc with
  | s0 z f a c ha hc=>exact ⟨a,c,rfl,Nat.zero_le _⟩
  | s vals hb hn hc hz hv hd=>exact ⟨_,_,rfl,hn⟩
 refine ⟨_,run _ _ hc hv,.one (.c ?_)⟩
 have hlh:l.toNat≤h.toNat:=by omega
 have hhn:h.toNat≤n:=by omega
 have e1:=cut_s hrc hlh hhn
 unfold cutB at e1 ⊢
 generalize hq:h.toNat-l.toNat=q at e1 ⊢
 rcases Nat.eq_zero_or_pos q with h0|h0
 ·subst h0
  exact .s0 _ _ _ _ (fun _=>rfl) (Nat.zero_le _)
 ·have c1l:c1≠l.toNat:=by omega
  have hll:h.toNat≠l.toNat:=by omega
  rw [if_neg c1l] at e1
  rw [if_neg hll]
  generalize a1.map (·.add (l.toNat*z))=a2 at e1 ⊢
  cases e1 with
  | s0 z f a c ha hc=>omega
  | s vals hb hn hc hz hv hd=>exact .s vals hb (Nat.le_refl _) oM hz hv hd
theorem PL.s3 (n:Nat) (f:Nat→List D) (l h:Int) {x lo hi mx:Operand} {t e:TypeId} {z:Nat} (hop:o.op = .slice t x (some lo) (some hi) (some mx)) (hu:P.underlying t=some (.slice e)) (hz:szOf P e=some z) (hn:0≤l∧l≤h∧h≤(n:Int)) (hk:(gpath ops s o,dstB N A o.dst,s.look A x,s.look A lo,s.look A hi,s.look A mx)=(some A,true,some (.s n z f),some (.v (.int .i64 l)),some (.v (.int .i64 h)),some (.v (.int .i64 h))):=by kernel_rfl) (hq:PL P N ops rest Q (s.put o.dst A (.s (h.toNat-l.toNat) z fun k=>f (l.toNat+k)))):PL P N ops (o::rest) Q s:=fun κ B ρ a w0 w hI hb0=>by
 simp only [Prod.mk.injEq] at hk
 exact val_step hI hk.1 hk.2.1 _ (fun hpt=>s3_run hI hop hu hz hk.2.2.1 hk.2.2.2.1 hk.2.2.2.2.1 hk.2.2.2.2.2 hn hpt) (fun a' hI'=>hq κ B ρ a' w0 w hI' hb0)
theorem PW.nilS (k z:Nat) (f:Nat→List D) (hk:s.find k=some ⟨k,[],.v (.slice none 0 0)⟩) (h:PW P N c Q { s with tab:=⟨k,[],.s 0 z f⟩::s.tab.filter fun e=>e.d != k }):PW P N c Q s:=fun κ B ρ a w hI=>by
 obtain ⟨hm,_⟩:=find_mem hk
 refine h κ B ρ a w ⟨hI.size,hI.dfr,fun e he => ?_,hI.len,hI.own,hI.nd,hI.mem,hI.gl,hI.big,hI.hκ,hI.fx,hI.fix⟩
 rcases List.mem_cons.1 he with rfl|he
 ·have h1:=hI.tab _ hm
  refine ⟨fun hp => ?_,h1.no,h1.lt⟩
  have h2:=repO_v (h1.yes hp)
  show RepO _ _ _ _ (sl a k)
  rw [show sl a k = .slice none 0 0 from h2]
  exact .one (.c (.s0 _ _ _ _ (fun _=>rfl) (Nat.zero_le _)))
 ·exact hI.tab e (List.mem_filter.1 he).1
end
end Go.Proofs.Ytkhdnlkdcikdmaa.Dp
