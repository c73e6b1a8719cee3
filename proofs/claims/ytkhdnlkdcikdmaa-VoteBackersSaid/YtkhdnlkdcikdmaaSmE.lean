/- Several texts in one: SmBox SmChain SmHeld. -/
import Derived.Test.YtkhdnlkdcikdmaaSmA
import Derived.Deep.MidRow
import Derived.BigCall
namespace Go.Proofs.Ytkhdnlkdcikdmaa.Sm
open Go.RowKit Go.ChangeShapes Go.WideShapes
set_option maxHeartbeats 400000
def Ob (w:World) (p:Nat) (t:TypeId) (cs:List Value):Prop:=w.heap[p]? = some (.cells cs.toArray t (0,0))
section
variable {w w':World} {p B:Nat} {t:TypeId} {cs:List Value}
theorem Ob.lt (h:Ob w p t cs):p<w.heap.size:=(Array.getElem?_eq_some_iff.1 h).1
theorem Ob.cell (h:Ob w p t cs) {i:Nat} {v:Value} (hi:cs[i]? = some v):w.cell? ⟨p,i,none⟩=some v:=by
 have:=cell_of_row w p i cs.toArray t (0,0) h
 rw [this]
 simpa using hi
theorem Ob.frozen (h:Ob w p t cs) (i:Nat):w.frozen? ⟨p,i,none⟩=false:=frozen_of_row _ _ _ _ _ h
theorem Ob.below (h:Ob w p t cs) (hb:Below B w w') (hp:p<B):Ob w' p t cs:=(hb.block p hp).trans h
theorem Ob.beside {g:Nat} (h:Ob w p t cs) (hb:Beside g w w') (hp:p≠g):Ob w' p t cs:=(hb.block p h.lt hp).trans h
theorem Ob.drewN (h:Ob w p t cs) (n:Nat):Ob (w.drewN n) p t cs:=h
theorem Ob.range (h:Ob w p t cs):w.rangeAt p 0 cs:=fun j v hv=>by rw [Nat.zero_add]; exact h.cell hv
theorem Ob.there (h:Ob w p t cs):w.there p 0 cs.length:=fun j hj=>by
 rw [Nat.zero_add]
 exact ⟨by rw [h.cell (List.getElem?_eq_getElem hj)]; rfl,h.frozen j⟩
theorem Ob.set (h:Ob w p t cs) (i:Nat) (v:Value):Ob (w.setCell ⟨p,i,none⟩ v) p t (cs.set i v):=by
 have:=heap_setCell_same w p i cs.toArray t v h
 unfold Ob
 rw [this]
 simp
theorem Ob.other {q i:Nat} {v:Value} (h:Ob w p t cs) (hq:p≠q):Ob (w.setCell ⟨q,i,none⟩ v) p t cs:=(Below.heap_setCell w ⟨q,i,none⟩ v p hq).trans h
end
structure NewB (w W:World) (p:Nat) (t:TypeId) (cs:List Value):Prop where
 is_:p=w.heap.size
 below:Below w.heap.size w W
 size:W.heap.size=p+1
 ob:Ob W p t cs
theorem NewB.of_alloc (w:World) (t:TypeId) (cs:List Value):NewB w (w.alloc (.cells cs.toArray t)) w.heap.size t cs :=
 ⟨rfl,(Below.refl _ _).alloc (Nat.le_refl _) _,by simp,heap_alloc_new w _⟩
theorem setCells_same (w:World) (p o:Nat) (t:TypeId):∀ (vs cs:List Value),Ob w p t cs→o+vs.length≤cs.length→Ob (w.setCells p o vs) p t (cs.take o++vs++cs.drop (o+vs.length)):=by
 intro vs
 induction vs generalizing w o with
 | nil =>
  intro cs h _
  show Ob w p t (cs.take o++[]++cs.drop (o+0))
  simpa using h
 | cons v vs ih =>
  intro cs h hl
  rw [List.length_cons] at hl
  have h1:=ih (w.setCell ⟨p,o,none⟩ v) (o+1) (cs.set o v) (h.set o v) (by rw [List.length_set]; omega)
  have e:(cs.set o v).take (o+1)=cs.take o++[v]:=by
   rw [List.take_add_one,List.take_set_of_le (Nat.le_refl _),List.getElem?_set_self oM]
   rfl
  have e2:(cs.set o v).drop (o+1+vs.length)=cs.drop (o+(v::vs).length):=by
   rw [List.drop_set_of_lt oM,List.length_cons]
   congr 1
   omega
  rw [e,e2] at h1
  simpa [World.setCells] using h1
theorem beside_setCells {g:Nat} {a:World}:∀ (vs:List Value) (o:Nat) (w:World),Beside g a w→Beside g a (w.setCells g o vs)
 | [],_,_,h=>h
 | x::r,o,_,h=>beside_setCells r (o+1) _ (h.setCell o x)
theorem size_setCells (g:Nat):∀ (vs:List Value) (o:Nat) (w:World),(w.setCells g o vs).heap.size=w.heap.size
 | [],_,_=>rfl
 | x::r,o,w=>(size_setCells g r (o+1) (w.setCell ⟨g,o,none⟩ x)).trans (by simp)
section
variable {P:Program} {ops:Array Oper} {rest:List Oper} {o:Oper} {a:Act} {w:World} {Q:Exit→Act→World→Prop}
theorem at_box {t:TypeId} {x:Operand} (_:o.op = .box t x) (h:Stop (wpList P ops Q (o::rest) a w)):wpList P ops Q (o::rest) a w:=h
theorem at_alloc {t:TypeId} (_:o.op = .alloc t) (h:Stop (wpList P ops Q (o::rest) a w)):wpList P ops Q (o::rest) a w:=h
theorem at_store {t:TypeId} {x y:Operand} (_:o.op = .store t x y) (h:Stop (wpList P ops Q (o::rest) a w)):wpList P ops Q (o::rest) a w:=h
theorem at_load {t:TypeId} {x:Operand} (_:o.op = .load t x) (h:Stop (wpList P ops Q (o::rest) a w)):wpList P ops Q (o::rest) a w:=h
theorem wpList_box_any (hg:o.guard=none) (t:TypeId) (x:Operand) (ho:o.op = .box t x) (cs:List Value) (hx:a.eval x = .agg cs.toArray)
  (h:∀ p W,NewB w W p t cs→wpList P ops Q rest (a.put o.dst (.pointer (some ⟨p,0,none⟩))) W):wpList P ops Q (o::rest) a w:=by
 refine wpList_plain hg fun K hK => ?_
 unfold Oper.wp execOp
 simp only [ho,hx,Sem.run_bind,Instr.box,newVar,newRow,run_newObj_alloc,Sem.run_pure,Result.andThen_ok,Value.cells]
 exact hK _ _ (h _ _ (NewB.of_alloc w t cs))
theorem wpList_alloc_any (hg:o.guard=none) (t:TypeId) (ho:o.op = .alloc t) (cs:List Value) (hz:∀ u,(zeroValue t).run P u = .ok (.agg cs.toArray) u)
  (h:∀ p W,NewB w W p t cs→wpList P ops Q rest (a.put o.dst (.pointer (some ⟨p,0,none⟩))) W):wpList P ops Q (o::rest) a w:=by
 refine wpList_plain hg fun K hK => ?_
 unfold Oper.wp execOp
 simp only [ho,Sem.run_bind,Instr.alloc,hz,newVar,newRow,run_newObj_alloc,Sem.run_pure,Result.andThen_ok,Value.cells]
 exact hK _ _ (h _ _ (NewB.of_alloc w t cs))
theorem wpList_load_ob (hg:o.guard=none) (t:TypeId) (x:Operand) (ho:o.op = .load t x) (p:Nat) (cs:List Value) (hp:Ob w p t cs) (hx:a.eval x = .pointer (some ⟨p,0,none⟩)) {d:TypeDesc}
  (hu:P.underlying t=some d) (hd:d.isRow=true) (hi:(P.info? t).map (·.size)=some cs.length)
  (h:wpList P ops Q rest (a.put o.dst (.agg cs.toArray)) w):wpList P ops Q (o::rest) a w :=
 wpList_load_mid hg t x ho p 0 hx cs d hp.range hu hd hi h
theorem wpList_store_ob (hg:o.guard=none) (t:TypeId) (x y:Operand) (ho:o.op = .store t x y) (p:Nat) (cs vs:List Value) (hp:Ob w p t cs) (hx:a.eval x = .pointer (some ⟨p,0,none⟩)) (hy:a.eval y = .agg vs.toArray)
  (hl:vs.length=cs.length) (hi:(P.info? t).map (·.size)=some cs.length) (h1:∀ v ∈ vs,v.oneCell'=true)
  (h:∀ W,Beside p w W→W.heap.size=w.heap.size→Ob W p t vs→wpList P ops Q rest (a.put o.dst undef) W):wpList P ops Q (o::rest) a w:=by
 refine wpList_store_mid hg t x y ho p 0 vs.toArray hx hy (by rw [List.size_toArray,hl]; exact hp.there) (by rw [List.size_toArray,hl]; exact hi) (all_oneCell_toArray h1) ?_
 refine h _ (beside_setCells _ _ _ (Beside.refl _ _)) ?_ ?_
 ·exact size_setCells _ _ _ _
 ·have:=setCells_same w p 0 t vs cs hp oM
  simpa [hl] using this
end
theorem results_cell_ob {P:Program} {fn:Func} {p:Tmp} {ty:TypeId} (h:fn.results = #[.cell p ty]) (tmps:Array Value) (w:World) (g:Nat) (cs:List Value) {d:TypeDesc}
  (hp:tmps.getD p undef = .pointer (some ⟨g,0,none⟩)) (hc:Ob w g ty cs) (hu:P.underlying ty=some d) (hd:d.isRow=true) (hi:(P.info? ty).map (·.size)=some cs.length) :
  (results fn tmps).run P w = .ok (.agg cs.toArray) w:=by
 have hp':tmps[p]?.getD undef = .pointer (some ⟨g,0,none⟩):=by simpa using hp
 simp [results,h,hp',asAddr,run_loadVar_mid w g 0 ty cs d hc.range hu hd hi]
theorem results_cell_two {P:Program} {fn:Func} {p t:Tmp} {ty:TypeId} (h:fn.results = #[.cell p ty,.tmp t]) (tmps:Array Value) (w:World) (g:Nat) (cs:List Value) {d:TypeDesc}
  (hp:tmps.getD p undef = .pointer (some ⟨g,0,none⟩)) (hc:Ob w g ty cs) (hu:P.underlying ty=some d) (hd:d.isRow=true) (hi:(P.info? ty).map (·.size)=some cs.length) :
  (results fn tmps).run P w = .ok (.tuple #[.agg cs.toArray,tmps.getD t undef]) w:=by
 have hp':tmps[p]?.getD undef = .pointer (some ⟨g,0,none⟩):=by simpa using hp
 simp [results,h,hp',asAddr,run_loadVar_mid w g 0 ty cs d hc.range hu hd hi]
end Go.Proofs.Ytkhdnlkdcikdmaa.Sm
namespace Go.Proofs.Ytkhdnlkdcikdmaa.Sm
open Go.RowKit Go.ChangeShapes Go.WideShapes
set_option maxHeartbeats 400000
def sl (a:Act) (i:Nat):Value:=a.tmps.getD i undef
section
variable {a:Act} {d i:Nat} {v:Value}
theorem put_size:(a.put (some d) v).tmps.size=a.tmps.size:=by simp [Act.put]
theorem sl_put_same (h:d<a.tmps.size):sl (a.put (some d) v) d=v:=by simp [sl,Act.put,h]
theorem sl_put_ne (h:i≠d):sl (a.put (some d) v) i=sl a i:=by
 simp [sl,Act.put,Ne.symm h]
theorem sl_get (h:i<a.tmps.size):a.tmps[i]? = some (sl a i):=by simp [sl,h]
theorem eval_tmp (i:Nat):a.eval (.tmp i)=sl a i:=rfl
theorem yielded_sl {ops:Array Oper} {gi m:Nat} {b:Bool} (hy:(ops[gi]?).bind (·.dst)=some m) (hm:m<a.tmps.size) (hb:sl a m = .bool b):yielded ops a.tmps gi=some b:=by
 unfold yielded
 rw [hy,Option.bind_some,sl_get hm,hb]
end
section
variable {P:Program} {ops:Array Oper} {rest:List Oper} {o:Oper} {a:Act} {w:World} {Q:Exit→Act→World→Prop}
theorem wpList_go {v:Value} {w':World} (hw:Region.wanted o (yielded ops a.tmps)=true) (hrun:(execOp a.eval o).run P w = .ok (.value v) w') (h:wpList P ops Q rest (a.put o.dst v) w'):wpList P ops Q (o::rest) a w :=
 BigFrame.wpList_want hw fun K hK=>by
  unfold Oper.wp
  rw [hrun,Oper.upon_value]
  exact hK _ _ h
theorem wanted_none (h:o.guard=none) (y:Nat→Option Bool):Region.wanted o y=true:=by unfold Region.wanted; rw [h]
theorem wanted_at {gi:Nat} {want b:Bool} {y:Nat→Option Bool} (h:o.guard=some (gi,want)) (hy:y gi=some b):Region.wanted o y=(b == want):=by
 unfold Region.wanted
 rw [h]
 simp [hy]
end
def apartB (N:Nat) (l stay:List Nat):Bool:=l.all (fun i=>decide (i<N))&&decide l.Nodup&&stay.all fun i => !l.contains i
theorem apart_lt {N:Nat} {l stay:List Nat} (h:apartB N l stay=true) {i:Nat} (hi:i ∈ l):i<N:=by
 simp only [apartB,Bool.and_eq_true,List.all_eq_true,decide_eq_true_eq] at h
 exact h.1.1 i hi
theorem apart_stay {N:Nat} {l stay:List Nat} (h:apartB N l stay=true) {i j:Nat} (hi:i ∈ stay) (hj:j ∈ l):i≠j:=by
 simp only [apartB,Bool.and_eq_true,List.all_eq_true,decide_eq_true_eq] at h
 have:=h.2 i hi
 rintro rfl
 simp [hj] at this
theorem apart_nodup {N:Nat} {l stay:List Nat} (h:apartB N l stay=true):l.Nodup:=by
 simp only [apartB,Bool.and_eq_true,List.all_eq_true,decide_eq_true_eq] at h
 exact h.1.2
structure Two (a:Act) (N A B p q:Nat):Prop where
 size:a.tmps.size=N
 one:sl a A = .pointer (some ⟨p,0,none⟩)
 two:sl a B = .pointer (some ⟨q,0,none⟩)
 dfr:a.defers=[]
theorem Two.put {a:Act} {N A B p q d:Nat} {v:Value} (h:Two a N A B p q) (hA:A≠d) (hB:B≠d):Two (a.put (some d) v) N A B p q :=
 ⟨put_size.trans h.size,(sl_put_ne hA).trans h.one,(sl_put_ne hB).trans h.two,h.dfr⟩
section
variable {P:Program} {ops:Array Oper} {rest:List Oper} {a:Act} {w:World} {Q:Exit→Act→World→Prop}
variable {N A B p q c m s1 s2 s3 s4 e r gi j:Nat} {T t tz:TypeId} {x y:Value} {b z:Bool}
variable {t1 t2 t3 t4 t5 t6 t7:TypeId} {f1 f2 f3 f4 f5 f6 f7:String} {e1 e2 e3 e4 e5 e6 e7:Array Edge}
theorem at_move {o:Oper} {x:Operand} (_:o.op = .move x) (h:Stop (wpList P ops Q (o::rest) a w)):wpList P ops Q (o::rest) a w:=h
theorem letter (N A B p q c:Nat) (b:Bool) (hT:Two a N A B p q) (hc:sl a c = .bool b) (h:∀ a',Two a' N A B p q→sl a' c = .bool b→wpList P ops Q rest a' w):wpList P ops Q rest a w:=h a hT hc
def FieldAt (P:Program) (T:TypeId) (j:Nat):Prop:=∀ (g:Nat) (u:World),(Instr.fieldAt T (.pointer (some ⟨g,0,none⟩)) j).run P u = .ok (.pointer (some ⟨g,j,none⟩)) u
def LoadsOne (P:Program) (t:TypeId):Prop:=∀ (d:Addr) (v:Value) (u:World),u.cell? d=some v→(Instr.loadAt t (.pointer (some d))).run P u = .ok v u
structure Mid (a0 a:Act) (N A B p q m:Nat) (b:Bool) (L:List Nat):Prop where
 two:Two a N A B p q
 at_:sl a m = .bool b
 stay:∀ i,i ∉ L→sl a i=sl a0 i
theorem Mid.put {a0:Act} {L:List Nat} {d:Nat} {v:Value} (h:Mid a0 a N A B p q m b L) (hap:apartB N L [A,B,m]=true) (hd:d ∈ L):Mid a0 (a.put (some d) v) N A B p q m b L :=
 ⟨h.two.put (apart_stay hap (by simp) hd) (apart_stay hap (by simp) hd),(sl_put_ne (apart_stay hap (by simp) hd)).trans h.at_,fun i hi=>(sl_put_ne (fun ee=>hi (by rw [ee]; exact hd))).trans (h.stay i hi)⟩
theorem step_ {a0:Act} {L:List Nat} {o:Oper} {d:Nat} {want:Bool} (v:Value) (hM:Mid a0 a N A B p q m b L) (hap:apartB N L [A,B,m]=true) (hy:(ops[gi]?).bind (·.dst)=some m) (hmN:m<N) (ho:o.dst=some d) (hg:o.guard=some (gi,want)) (hd:d ∈ L)
  (hrun:b=want→(execOp a.eval o).run P w = .ok (.value v) w)
  (h:∀ a',Mid a0 a' N A B p q m b L→(b=want→sl a' d=v)→(∀ i,i≠d→sl a' i=sl a i)→wpList P ops Q rest a' w):wpList P ops Q (o::rest) a w:=by
 have hw:Region.wanted o (yielded ops a.tmps)=(b == want):=wanted_at hg (yielded_sl hy (by rw [hM.two.size]; exact hmN) hM.at_)
 cases hbw:(b == want) with
 | false =>
  refine wpList_skip (hw.trans hbw) ?_
  rw [ho]
  exact h _ (hM.put hap hd) (fun hb=>by simp [hb] at hbw) fun i hi=>sl_put_ne hi
 | true =>
  refine wpList_go (hw.trans hbw) (hrun (by simpa using hbw)) ?_
  rw [ho]
  exact h _ (hM.put hap hd) (fun _=>sl_put_same (by rw [hM.two.size]; exact apart_lt hap hd)) fun i hi=>sl_put_ne hi
theorem step_call {a0:Act} {L:List Nat} {o:Oper} {d:Nat} {want:Bool} {R:World→Prop} {f:FuncId} {args:Array Value} (v:Value) (hM:Mid a0 a N A B p q m b L) (hap:apartB N L [A,B,m]=true) (hy:(ops[gi]?).bind (·.dst)=some m) (hmN:m<N) (ho:o.dst=some d) (hg:o.guard=some (gi,want)) (hd:d ∈ L)
  (hrun:b=want→(execOp a.eval o).run P w = .ok (.enter f args) w) (hc:Calls P f args w fun r w'=>r = .returned v∧R w') (hR:R w)
  (h:∀ a' w',R w'→Mid a0 a' N A B p q m b L→(b=want→sl a' d=v)→wpList P ops Q rest a' w'):wpList P ops Q (o::rest) a w:=by
 have hw:Region.wanted o (yielded ops a.tmps)=(b == want):=wanted_at hg (yielded_sl hy (by rw [hM.two.size]; exact hmN) hM.at_)
 cases hbw:(b == want) with
 | false =>
  refine wpList_skip (hw.trans hbw) ?_
  rw [ho]
  exact h _ w hR (hM.put hap hd) (fun hb=>by simp [hb] at hbw)
 | true =>
  refine BigFrame.wpList_want (hw.trans hbw) fun K hK => ?_
  unfold Oper.wp
  rw [hrun (by simpa using hbw),Oper.upon_enter]
  refine hc.mono ?_
  rintro r w' ⟨rfl,hr⟩
  rw [ho]
  exact hK _ _ (h _ w' hr (hM.put hap hd) fun _=>sl_put_same (by rw [hM.two.size]; exact apart_lt hap hd))
theorem four_ (want:Bool) {a0:Act} {L:List Nat} (hM:Mid a0 a N A B p q m b L) (hap:apartB N L [A,B,m]=true) (hL4:decide (s1 ∈ L∧s2 ∈ L∧s3 ∈ L∧s4 ∈ L∧s2≠s3∧s2≠s4)=true) (hy:(ops[gi]?).bind (·.dst)=some m) (hmN:m<N)
  (hF:FieldAt P T j) (hL:LoadsOne P t) (hx:w.cell? ⟨p,j,none⟩=some x) (hz:w.cell? ⟨q,j,none⟩=some y)
  (h:∀ a',Mid a0 a' N A B p q m b L→(b=want→sl a' s2=x∧sl a' s4=y)→wpList P ops Q rest a' w) :
  wpList P ops Q ({ dst:=some s1,op := .fieldAddr T (.tmp A) j,type:=t1,pos:=f1,after:=e1,guard:=some (gi,want) }::{ dst:=some s2,op := .load t (.tmp s1),type:=t2,pos:=f2,after:=e2,guard:=some (gi,want) } ::
   { dst:=some s3,op := .fieldAddr T (.tmp B) j,type:=t3,pos:=f3,after:=e3,guard:=some (gi,want) }::{ dst:=some s4,op := .load t (.tmp s3),type:=t4,pos:=f4,after:=e4,guard:=some (gi,want) }::rest) a w:=by
 obtain ⟨d1,d2,d3,d4,n1,n2⟩:=of_decide_eq_true hL4
 refine step_ (.pointer (some ⟨p,j,none⟩)) hM hap hy hmN rfl rfl d1 ?_ ?_
 ·intro _
  simp only [execOp,eval_tmp,hM.two.one,Sem.run_bind,hF p w,Result.andThen_ok,Sem.run_pure]
 intro a1 M1 v1 _
 refine step_ x M1 hap hy hmN rfl rfl d2 ?_ ?_
 ·intro hb
  simp only [execOp,eval_tmp,v1 hb,Sem.run_bind,hL _ _ w hx,Result.andThen_ok,Sem.run_pure]
 intro a2 M2 v2 _
 refine step_ (.pointer (some ⟨q,j,none⟩)) M2 hap hy hmN rfl rfl d3 ?_ ?_
 ·intro _
  simp only [execOp,eval_tmp,M2.two.two,Sem.run_bind,hF q w,Result.andThen_ok,Sem.run_pure]
 intro a3 M3 v3 k3
 refine step_ y M3 hap hy hmN rfl rfl d4 ?_ ?_
 ·intro hb
  simp only [execOp,eval_tmp,v3 hb,Sem.run_bind,hL _ _ w hz,Result.andThen_ok,Sem.run_pure]
 intro a4 M4 v4 k4
 exact h a4 M4 fun hb=>⟨(k4 s2 n2).trans ((k3 s2 n1).trans (v2 hb)),v4 hb⟩
theorem link_ (hT:Two a N A B p q) (hc:sl a c = .bool b) (hm:decide (m<N∧A≠m∧B≠m)=true) (L:List Nat)
  (h:∀ a',Mid a' a' N A B p q m b L→wpList P ops Q rest a' w) :
  wpList P ops Q ({ dst:=some m,op := .move (.tmp c),type:=t1,pos:=f1,after:=e1,guard:=none }::rest) a w:=by
 obtain ⟨h1,h2,h3⟩:=of_decide_eq_true hm
 refine wpList_go (v := .bool b) (w':=w) (wanted_none rfl _) ?_ ?_
 ·simp only [execOp,eval_tmp,hc,Sem.run_pure]
 ·exact h _ ⟨hT.put h2 h3,sl_put_same (by rw [hT.size]; exact h1),fun _ _=>rfl⟩
theorem pick_and {a0:Act} {L:List Nat} (hM:Mid a0 a N A B p q m b L) (hv:b=true→sl a e = .bool z) (hr:decide (r<N∧A≠r∧B≠r)=true)
  (h:∀ a',Two a' N A B p q→sl a' r = .bool (b&&z)→wpList P ops Q rest a' w) :
  wpList P ops Q ({ dst:=some r,op := .pick (.tmp m) (.tmp e) (.const (.bool false)),type:=t1,pos:=f1,after:=e1,guard:=none }::rest) a w:=by
 obtain ⟨h1,h2,h3⟩:=of_decide_eq_true hr
 refine wpList_go (v := .bool (b&&z)) (w':=w) (wanted_none rfl _) ?_ ?_
 ·cases b with
  | false=>simp [execOp,eval_tmp,hM.at_,asBool,BigFrame.eval_const]
  | true=>simp [execOp,eval_tmp,hM.at_,asBool,hv rfl]
 ·exact h _ (hM.two.put h2 h3) (sl_put_same (by rw [hM.two.size]; exact h1))
theorem pick_or {a0:Act} {L:List Nat} (hM:Mid a0 a N A B p q m b L) (hv:b=false→sl a e = .bool z) (hr:decide (r<N∧A≠r∧B≠r)=true)
  (h:∀ a',Two a' N A B p q→sl a' r = .bool (b||z)→wpList P ops Q rest a' w) :
  wpList P ops Q ({ dst:=some r,op := .pick (.tmp m) (.const (.bool true)) (.tmp e),type:=t1,pos:=f1,after:=e1,guard:=none }::rest) a w:=by
 obtain ⟨h1,h2,h3⟩:=of_decide_eq_true hr
 refine wpList_go (v := .bool (b||z)) (w':=w) (wanted_none rfl _) ?_ ?_
 ·cases b with
  | true=>simp [execOp,eval_tmp,hM.at_,asBool,BigFrame.eval_const]
  | false=>simp [execOp,eval_tmp,hM.at_,asBool,hv rfl]
 ·exact h _ (hM.two.put h2 h3) (sl_put_same (by rw [hM.two.size]; exact h1))
theorem and_link (op:BinOp) (hT:Two a N A B p q) (hc:sl a c = .bool b) (hap:apartB N [s1,s2,s3,s4,e,r] [A,B,m]=true) (hm:decide (m<N∧A≠m∧B≠m)=true) (hr:decide (r<N∧A≠r∧B≠r)=true)
  (hn:decide (s2≠s3∧s2≠s4)=true) (hy:(ops[gi]?).bind (·.dst)=some m)
  (hF:FieldAt P T j) (hL:LoadsOne P t) (hx:w.cell? ⟨p,j,none⟩=some x) (hz:w.cell? ⟨q,j,none⟩=some y)
  (hE:(do eqGuard op t (.tmp s2) (.tmp s4) x y; binOp op t x y:Sem Value).run P w = .ok (.bool z) w)
  (h:∀ a',Two a' N A B p q→sl a' r = .bool (b&&z)→wpList P ops Q rest a' w) :
  wpList P ops Q ({ dst:=some m,op := .move (.tmp c),type:=t1,pos:=f1,after:=e1,guard:=none } ::
   { dst:=some s1,op := .fieldAddr T (.tmp A) j,type:=t2,pos:=f2,after:=e2,guard:=some (gi,true) }::{ dst:=some s2,op := .load t (.tmp s1),type:=t3,pos:=f3,after:=e3,guard:=some (gi,true) } ::
   { dst:=some s3,op := .fieldAddr T (.tmp B) j,type:=t4,pos:=f4,after:=e4,guard:=some (gi,true) }::{ dst:=some s4,op := .load t (.tmp s3),type:=t5,pos:=f5,after:=e5,guard:=some (gi,true) } ::
   { dst:=some e,op := .binOp op t (.tmp s2) (.tmp s4) tz,type:=t6,pos:=f6,after:=e6,guard:=some (gi,true) } ::
   { dst:=some r,op := .pick (.tmp m) (.tmp e) (.const (.bool false)),type:=t7,pos:=f7,after:=e7,guard:=none }::rest) a w:=by
 have hmN:=(of_decide_eq_true hm).1
 have hn':=of_decide_eq_true hn
 refine link_ hT hc hm [s1,s2,s3,s4,e,r] fun a1 M1 => ?_
 refine four_ true M1 hap (by simp [hn'.1,hn'.2]) hy hmN hF hL hx hz fun a2 M2 v2 => ?_
 refine step_ (.bool z) M2 hap hy hmN rfl rfl (by simp) ?_ fun a3 M3 v3 _=>pick_and M3 v3 hr h
 intro hb
 simp only [execOp,eval_tmp,(v2 hb).1,(v2 hb).2]
 rw [Sem.run_bind,hE]
 rfl
theorem or_link (op:BinOp) (hT:Two a N A B p q) (hc:sl a c = .bool b) (hap:apartB N [s1,s2,s3,s4,e,r] [A,B,m]=true) (hm:decide (m<N∧A≠m∧B≠m)=true) (hr:decide (r<N∧A≠r∧B≠r)=true)
  (hn:decide (s2≠s3∧s2≠s4)=true) (hy:(ops[gi]?).bind (·.dst)=some m)
  (hF:FieldAt P T j) (hL:LoadsOne P t) (hx:w.cell? ⟨p,j,none⟩=some x) (hz:w.cell? ⟨q,j,none⟩=some y)
  (hE:(do eqGuard op t (.tmp s2) (.tmp s4) x y; binOp op t x y:Sem Value).run P w = .ok (.bool z) w)
  (h:∀ a',Two a' N A B p q→sl a' r = .bool (b||z)→wpList P ops Q rest a' w) :
  wpList P ops Q ({ dst:=some m,op := .move (.tmp c),type:=t1,pos:=f1,after:=e1,guard:=none } ::
   { dst:=some s1,op := .fieldAddr T (.tmp A) j,type:=t2,pos:=f2,after:=e2,guard:=some (gi,false) }::{ dst:=some s2,op := .load t (.tmp s1),type:=t3,pos:=f3,after:=e3,guard:=some (gi,false) } ::
   { dst:=some s3,op := .fieldAddr T (.tmp B) j,type:=t4,pos:=f4,after:=e4,guard:=some (gi,false) }::{ dst:=some s4,op := .load t (.tmp s3),type:=t5,pos:=f5,after:=e5,guard:=some (gi,false) } ::
   { dst:=some e,op := .binOp op t (.tmp s2) (.tmp s4) tz,type:=t6,pos:=f6,after:=e6,guard:=some (gi,false) } ::
   { dst:=some r,op := .pick (.tmp m) (.const (.bool true)) (.tmp e),type:=t7,pos:=f7,after:=e7,guard:=none }::rest) a w:=by
 have hmN:=(of_decide_eq_true hm).1
 have hn':=of_decide_eq_true hn
 refine link_ hT hc hm [s1,s2,s3,s4,e,r] fun a1 M1 => ?_
 refine four_ false M1 hap (by simp [hn'.1,hn'.2]) hy hmN hF hL hx hz fun a2 M2 v2 => ?_
 refine step_ (.bool z) M2 hap hy hmN rfl rfl (by simp) ?_ fun a3 M3 v3 _=>pick_or M3 v3 hr h
 intro hb
 simp only [execOp,eval_tmp,(v2 hb).1,(v2 hb).2]
 rw [Sem.run_bind,hE]
 rfl
theorem call_link {f:FuncId} {ats:Array TypeId} {R:World→Prop} (hT:Two a N A B p q) (hc:sl a c = .bool b) (hap:apartB N [s1,s2,s3,s4,e,r] [A,B,m]=true) (hm:decide (m<N∧A≠m∧B≠m)=true) (hr:decide (r<N∧A≠r∧B≠r)=true)
  (hn:decide (s2≠s3∧s2≠s4)=true) (hy:(ops[gi]?).bind (·.dst)=some m)
  (hF:FieldAt P T j) (hL:LoadsOne P t) (hx:w.cell? ⟨p,j,none⟩=some x) (hz:w.cell? ⟨q,j,none⟩=some y)
  (hE:∀ args u,(callFunc f args).run P u = .ok (.enter f args) u) (hC:Calls P f #[x,y] w fun r w'=>r = .returned (.bool z)∧R w') (hR:R w)
  (h:∀ a' w',R w'→Two a' N A B p q→sl a' r = .bool (b&&z)→wpList P ops Q rest a' w') :
  wpList P ops Q ({ dst:=some m,op := .move (.tmp c),type:=t1,pos:=f1,after:=e1,guard:=none } ::
   { dst:=some s1,op := .fieldAddr T (.tmp A) j,type:=t2,pos:=f2,after:=e2,guard:=some (gi,true) }::{ dst:=some s2,op := .load t (.tmp s1),type:=t3,pos:=f3,after:=e3,guard:=some (gi,true) } ::
   { dst:=some s3,op := .fieldAddr T (.tmp B) j,type:=t4,pos:=f4,after:=e4,guard:=some (gi,true) }::{ dst:=some s4,op := .load t (.tmp s3),type:=t5,pos:=f5,after:=e5,guard:=some (gi,true) } ::
   { dst:=some e,op := .call { callee := .value (.func f),args := #[.tmp s2,.tmp s4],argTypes:=ats },type:=t6,pos:=f6,after:=e6,guard:=some (gi,true) } ::
   { dst:=some r,op := .pick (.tmp m) (.tmp e) (.const (.bool false)),type:=t7,pos:=f7,after:=e7,guard:=none }::rest) a w:=by
 have hmN:=(of_decide_eq_true hm).1
 have hn':=of_decide_eq_true hn
 refine link_ hT hc hm [s1,s2,s3,s4,e,r] fun a1 M1 => ?_
 refine four_ true M1 hap (by simp [hn'.1,hn'.2]) hy hmN hF hL hx hz fun a2 M2 v2 => ?_
 refine step_call (.bool z) M2 hap hy hmN rfl rfl (by simp) ?_ hC hR fun a3 w3 hw3 M3 v3=>pick_and M3 v3 hr (h · w3 hw3)
 intro hb
 rw [execOp_call_go,hE]
 simp [eval_tmp,(v2 hb).1,(v2 hb).2]
theorem first_ (op:BinOp) (hT:Two a N A B p q) (hap:apartB N [s1,s2,s3,s4,e] [A,B]=true) (hn:decide (s2≠s3∧s2≠s4)=true)
  (hF:FieldAt P T j) (hL:LoadsOne P t) (hx:w.cell? ⟨p,j,none⟩=some x) (hz:w.cell? ⟨q,j,none⟩=some y)
  (hE:(do eqGuard op t (.tmp s2) (.tmp s4) x y; binOp op t x y:Sem Value).run P w = .ok (.bool z) w)
  (h:∀ a',Two a' N A B p q→sl a' e = .bool z→wpList P ops Q rest a' w) :
  wpList P ops Q ({ dst:=some s1,op := .fieldAddr T (.tmp A) j,type:=t1,pos:=f1,after:=e1,guard:=none }::{ dst:=some s2,op := .load t (.tmp s1),type:=t2,pos:=f2,after:=e2,guard:=none } ::
   { dst:=some s3,op := .fieldAddr T (.tmp B) j,type:=t3,pos:=f3,after:=e3,guard:=none }::{ dst:=some s4,op := .load t (.tmp s3),type:=t4,pos:=f4,after:=e4,guard:=none } ::
   { dst:=some e,op := .binOp op t (.tmp s2) (.tmp s4) tz,type:=t5,pos:=f5,after:=e5,guard:=none }::rest) a w:=by
 have l:∀ i ∈ [s1,s2,s3,s4,e],i<N:=fun i hi=>apart_lt hap hi
 have st:∀ k ∈ [s1,s2,s3,s4,e],A≠k∧B≠k:=fun k hk=>⟨apart_stay hap (by simp) hk,apart_stay hap (by simp) hk⟩
 obtain ⟨n1,n2⟩:=of_decide_eq_true hn
 have put:∀ (a0:Act) (v0:Value) (d:Nat),d ∈ [s1,s2,s3,s4,e]→Two a0 N A B p q→Two (a0.put (some d) v0) N A B p q:=fun a0 v0 d hd h1=>h1.put (st d hd).1 (st d hd).2
 have g1:=put a (.pointer (some ⟨p,j,none⟩)) s1 (by simp) hT
 have g2:=put _ x s2 (by simp) g1
 have g3:=put _ (.pointer (some ⟨q,j,none⟩)) s3 (by simp) g2
 have g4:=put _ y s4 (by simp) g3
 have g5:=put _ (.bool z) e (by simp) g4
 have v1:=sl_put_same (a:=a) (d:=s1) (v := .pointer (some ⟨p,j,none⟩)) (by rw [hT.size]; exact l _ (by simp))
 have v2:=sl_put_same (a:=a.put (some s1) (.pointer (some ⟨p,j,none⟩))) (d:=s2) (v:=x) (by rw [g1.size]; exact l _ (by simp))
 have v3:=sl_put_same (a:=(a.put (some s1) (.pointer (some ⟨p,j,none⟩))).put (some s2) x) (d:=s3) (v := .pointer (some ⟨q,j,none⟩)) (by rw [g2.size]; exact l _ (by simp))
 have v4:=sl_put_same (a:=((a.put (some s1) (.pointer (some ⟨p,j,none⟩))).put (some s2) x).put (some s3) (.pointer (some ⟨q,j,none⟩))) (d:=s4) (v:=y) (by rw [g3.size]; exact l _ (by simp))
 have v2':sl ((((a.put (some s1) (.pointer (some ⟨p,j,none⟩))).put (some s2) x).put (some s3) (.pointer (some ⟨q,j,none⟩))).put (some s4) y) s2=x:=(sl_put_ne n2).trans ((sl_put_ne n1).trans v2)
 refine wpList_go (wanted_none rfl _) (v := .pointer (some ⟨p,j,none⟩)) (w':=w) ?_ ?_
 ·simp only [execOp,eval_tmp,hT.one,Sem.run_bind,hF p w,Result.andThen_ok,Sem.run_pure]
 refine wpList_go (wanted_none rfl _) (v:=x) (w':=w) ?_ ?_
 ·simp only [execOp,eval_tmp,v1,Sem.run_bind,hL _ _ w hx,Result.andThen_ok,Sem.run_pure]
 refine wpList_go (wanted_none rfl _) (v := .pointer (some ⟨q,j,none⟩)) (w':=w) ?_ ?_
 ·simp only [execOp,eval_tmp,g2.two,Sem.run_bind,hF q w,Result.andThen_ok,Sem.run_pure]
 refine wpList_go (wanted_none rfl _) (v:=y) (w':=w) ?_ ?_
 ·simp only [execOp,eval_tmp,v3,Sem.run_bind,hL _ _ w hz,Result.andThen_ok,Sem.run_pure]
 refine wpList_go (wanted_none rfl _) (v := .bool z) (w':=w) ?_ ?_
 ·simp only [execOp,eval_tmp,v2',v4]
  rw [Sem.run_bind,hE]
  rfl
 exact h _ g5 (sl_put_same (by rw [g4.size]; exact l _ (by simp)))
theorem str_link {s5 s6:Nat} {tS t8 t9:TypeId} {f8 f9:String} {e8 e9:Array Edge} {x' y':Value} (hT:Two a N A B p q) (hc:sl a c = .bool b) (hap:apartB N [s1,s2,s3,s4,s5,s6,e,r] [A,B,m]=true) (hm:decide (m<N∧A≠m∧B≠m)=true) (hr:decide (r<N∧A≠r∧B≠r)=true)
  (hn:decide (s3≠s4∧s3≠s5∧s3≠s6)=true) (hy:(ops[gi]?).bind (·.dst)=some m)
  (hF:FieldAt P T j) (hL:LoadsOne P t) (hx:w.cell? ⟨p,j,none⟩=some x) (hz:w.cell? ⟨q,j,none⟩=some y)
  (hX:(convert t tS x).run P w = .ok x' w) (hY:(convert t tS y).run P w = .ok y' w)
  (hE:(do eqGuard .eql tS (.tmp s3) (.tmp s6) x' y'; binOp .eql tS x' y':Sem Value).run P w = .ok (.bool z) w)
  (h:∀ a',Two a' N A B p q→sl a' r = .bool (b&&z)→wpList P ops Q rest a' w) :
  wpList P ops Q ({ dst:=some m,op := .move (.tmp c),type:=t1,pos:=f1,after:=e1,guard:=none } ::
   { dst:=some s1,op := .fieldAddr T (.tmp A) j,type:=t2,pos:=f2,after:=e2,guard:=some (gi,true) }::{ dst:=some s2,op := .load t (.tmp s1),type:=t3,pos:=f3,after:=e3,guard:=some (gi,true) }::{ dst:=some s3,op := .convert t tS (.tmp s2),type:=t4,pos:=f4,after:=e4,guard:=some (gi,true) } ::
   { dst:=some s4,op := .fieldAddr T (.tmp B) j,type:=t5,pos:=f5,after:=e5,guard:=some (gi,true) }::{ dst:=some s5,op := .load t (.tmp s4),type:=t6,pos:=f6,after:=e6,guard:=some (gi,true) }::{ dst:=some s6,op := .convert t tS (.tmp s5),type:=t7,pos:=f7,after:=e7,guard:=some (gi,true) } ::
   { dst:=some e,op := .binOp .eql tS (.tmp s3) (.tmp s6) tz,type:=t8,pos:=f8,after:=e8,guard:=some (gi,true) } ::
   { dst:=some r,op := .pick (.tmp m) (.tmp e) (.const (.bool false)),type:=t9,pos:=f9,after:=e9,guard:=none }::rest) a w:=by
 have hmN:=(of_decide_eq_true hm).1
 obtain ⟨n1,n2,n3⟩:=of_decide_eq_true hn
 refine link_ hT hc hm [s1,s2,s3,s4,s5,s6,e,r] fun a0 M0 => ?_
 refine step_ (.pointer (some ⟨p,j,none⟩)) M0 hap hy hmN rfl rfl (by simp) ?_ ?_
 ·intro _
  simp only [execOp,eval_tmp,M0.two.one,Sem.run_bind,hF p w,Result.andThen_ok,Sem.run_pure]
 intro a1 M1 v1 _
 refine step_ x M1 hap hy hmN rfl rfl (by simp) ?_ ?_
 ·intro hb
  simp only [execOp,eval_tmp,v1 hb,Sem.run_bind,hL _ _ w hx,Result.andThen_ok,Sem.run_pure]
 intro a2 M2 v2 _
 refine step_ x' M2 hap hy hmN rfl rfl (by simp) ?_ ?_
 ·intro hb
  simp only [execOp,eval_tmp,v2 hb,Sem.run_bind,hX,Result.andThen_ok,Sem.run_pure]
 intro a3 M3 v3 _
 refine step_ (.pointer (some ⟨q,j,none⟩)) M3 hap hy hmN rfl rfl (by simp) ?_ ?_
 ·intro _
  simp only [execOp,eval_tmp,M3.two.two,Sem.run_bind,hF q w,Result.andThen_ok,Sem.run_pure]
 intro a4 M4 v4 k4
 refine step_ y M4 hap hy hmN rfl rfl (by simp) ?_ ?_
 ·intro hb
  simp only [execOp,eval_tmp,v4 hb,Sem.run_bind,hL _ _ w hz,Result.andThen_ok,Sem.run_pure]
 intro a5 M5 v5 k5
 refine step_ y' M5 hap hy hmN rfl rfl (by simp) ?_ ?_
 ·intro hb
  simp only [execOp,eval_tmp,v5 hb,Sem.run_bind,hY,Result.andThen_ok,Sem.run_pure]
 intro a6 M6 v6 k6
 refine step_ (.bool z) M6 hap hy hmN rfl rfl (by simp) ?_ fun a7 M7 v7 _=>pick_and M7 v7 hr h
 intro hb
 have e3:sl a6 s3=x':=(k6 s3 n3).trans ((k5 s3 n2).trans ((k4 s3 n1).trans (v3 hb)))
 simp only [execOp,eval_tmp,e3,v6 hb]
 rw [Sem.run_bind,hE]
 rfl
end
end Go.Proofs.Ytkhdnlkdcikdmaa.Sm
namespace Go.Proofs.Ytkhdnlkdcikdmaa.Sm.Held
open Go.RowKit
section
variable {P:Program} {ops:Array Oper} {Q:Exit→Act→World→Prop} {S:World→Prop}
theorem later_begin {id:Nat} {a:Act} {w:World} (hm:P.follows .mixedOrders=true) (h:wpAnyH P .any ops Q S ops.size (Array.replicate ops.size false) a w.drew):(Code.region id ops true).wp P Q a w :=
 wp_region_held hm h
theorem later_take {i:Nat} {oi:Oper} {v:Value} {fuel:Nat} {listed:Array Bool} {a:Act} {w:World} (hS:S w) (hi:ops[i]? = some oi)
  (hs:Region.noSelect ops=true) (hf:Region.free .any ops listed i=true) (hr:(Region.ready .any ops listed).contains i=true)
  (hQ:∀ c a w,Q (.panic c) (a.put oi.dst v) w→Q (.panic c) a w) (hw:Region.wanted oi (yielded ops a.tmps)=true) (hy:∀ u,S u→(execOp a.eval oi).run P u = .ok (.value v) u)
  (h:wpAnyH P .any ops Q S fuel (listed.setIfInBounds i true) (a.put oi.dst v) w):wpAnyH P .any ops Q S (fuel+1) listed a w :=
 wpAnyH_take hi hs hf hr hQ (.inl ⟨hw,hy⟩) hS h
theorem later_skip {i:Nat} {oi:Oper} {fuel:Nat} {listed:Array Bool} {a:Act} {w:World} (hS:S w) (hi:ops[i]? = some oi)
  (hs:Region.noSelect ops=true) (hf:Region.free .any ops listed i=true) (hr:(Region.ready .any ops listed).contains i=true)
  (hQ:∀ c a w,Q (.panic c) (a.put oi.dst undef) w→Q (.panic c) a w) (hw:Region.wanted oi (yielded ops a.tmps)=false)
  (h:wpAnyH P .any ops Q S fuel (listed.setIfInBounds i true) (a.put oi.dst undef) w):wpAnyH P .any ops Q S (fuel+1) listed a w :=
 wpAnyH_take hi hs hf hr hQ (.inr ⟨hw,rfl⟩) hS h
theorem later_call {i:Nat} {o:Oper} {fuel:Nat} {listed:Array Bool} {a:Act} {w:World} (ho:ops[i]? = some o) (hr:Region.ready .any ops listed=[i])
  (h:∀ K':Act→World→Prop,Shut (∀ a' w',S w'→wpAnyH P .any ops Q S fuel (listed.setIfInBounds i true) a' w'→K' a' w') →
   if Region.wanted o (yielded ops a.tmps)=true then Oper.wp P o a w K' Q else K' (a.put o.dst undef) w):wpAnyH P .any ops Q S (fuel+1) listed a w :=
 wpAnyH_all hr (by simp) fun j hj=>by
  simp only [List.mem_singleton] at hj
  subst hj
  exact wpOp_step ho fun K' hK=>h K' fun a' w' hb hW=>hK a' w' ⟨hb,hW⟩
theorem wanted_of {o:Oper} (h:o.guard=none) (y:Nat→Option Bool):Region.wanted o y=true:=by unfold Region.wanted; rw [h]
theorem later_store {i:Nat} {o:Oper} {fuel:Nat} {listed:Array Bool} {a:Act} {w:World} (ho:ops[i]? = some o) (hr:Region.ready .any ops listed=[i]) (hg:o.guard=none) (t:TypeId)
  (p:Nat) (cs vs:List Value) (hp:Ob w p t cs) (hxy:∃ x y,o.op = .store t x y∧a.eval x = .pointer (some ⟨p,0,none⟩)∧a.eval y = .agg vs.toArray) (hl:vs.length=cs.length) (hi:(P.info? t).map (·.size)=some cs.length) (h1:∀ v ∈ vs,v.oneCell'=true)
  (h:∀ W,Beside p w W→W.heap.size=w.heap.size→Ob W p t vs→S W∧wpAnyH P .any ops Q S fuel (listed.setIfInBounds i true) (a.put o.dst undef) W):wpAnyH P .any ops Q S (fuel+1) listed a w:=by
 obtain ⟨x,y,hop,hx,hy⟩:=hxy
 refine later_call ho hr fun K hK => ?_
 rw [if_pos (wanted_of hg _)]
 refine wp_store_mid t x y hop p 0 vs.toArray hx hy (by rw [List.size_toArray,hl]; exact hp.there) (by rw [List.size_toArray,hl]; exact hi) (all_oneCell_toArray h1) ?_
 have k:=h _ (beside_setCells _ _ _ (Beside.refl _ _)) (size_setCells _ _ _ _) (by have:=setCells_same w p 0 t vs cs hp oM; simpa [hl] using this)
 exact hK.out _ _ k.1 k.2
theorem wp_box {o:Oper} {a:Act} {w:World} {K:Act→World→Prop} (t:TypeId) (x:Operand) (ho:o.op = .box t x) (cs:List Value) (hx:a.eval x = .agg cs.toArray)
  (h:K (a.put o.dst (.pointer (some ⟨w.heap.size,0,none⟩))) (w.alloc (.cells cs.toArray t))):o.wp P a w K Q:=by
 unfold Oper.wp execOp
 simp only [ho,hx,Sem.run_bind,Instr.box,newVar,newRow,run_newObj_alloc,Sem.run_pure,Result.andThen_ok,Value.cells]
 exact h
theorem later_box {i:Nat} {o:Oper} {fuel:Nat} {listed:Array Bool} {a:Act} {w:World} (ho:ops[i]? = some o) (hr:Region.ready .any ops listed=[i]) (hg:o.guard=none) (t:TypeId) (cs:List Value)
  (hbx:∃ x,o.op = .box t x∧a.eval x = .agg cs.toArray) (h:∀ b W,NewB w W b t cs→S W∧wpAnyH P .any ops Q S fuel (listed.setIfInBounds i true) (a.put o.dst (.pointer (some ⟨b,0,none⟩))) W):wpAnyH P .any ops Q S (fuel+1) listed a w:=by
 obtain ⟨x,hop,hx⟩:=hbx
 refine later_call ho hr fun K hK => ?_
 rw [if_pos (wanted_of hg _)]
 have k:=h _ _ (NewB.of_alloc w t cs)
 exact wp_box t x hop cs hx (hK.out _ _ k.1 k.2)
theorem later_box_store {i j:Nat} {oi oj:Oper} {fuel:Nat} {listed:Array Bool} {a:Act} {w:World} (hoi:ops[i]? = some oi) (hoj:ops[j]? = some oj) (hr:Region.ready .any ops listed=[i,j]) (hgi:oi.guard=none) (hgj:oj.guard=none)
  (ti:TypeId) (csb:List Value) (hbx:∃ x,oi.op = .box ti x∧a.eval x = .agg csb.toArray) (t:TypeId) (p:Nat) (cs vs:List Value) (hp:Ob w p t cs) (hxy:∃ x y,oj.op = .store t x y∧a.eval x = .pointer (some ⟨p,0,none⟩)∧a.eval y = .agg vs.toArray)
  (hl:vs.length=cs.length) (hi:(P.info? t).map (·.size)=some cs.length) (h1:∀ v ∈ vs,v.oneCell'=true)
  (hA:∀ b W,NewB w W b ti csb→S W∧wpAnyH P .any ops Q S fuel (listed.setIfInBounds i true) (a.put oi.dst (.pointer (some ⟨b,0,none⟩))) W)
  (hB:∀ W,Beside p w W→W.heap.size=w.heap.size→Ob W p t vs→S W∧wpAnyH P .any ops Q S fuel (listed.setIfInBounds j true) (a.put oj.dst undef) W):wpAnyH P .any ops Q S (fuel+1) listed a w:=by
 obtain ⟨x,hop,hx⟩:=hbx
 obtain ⟨x',y',hop',hx',hy'⟩:=hxy
 refine wpAnyH_all hr (by simp) fun k hk => ?_
 simp only [List.mem_cons,List.not_mem_nil,or_false] at hk
 rcases hk with rfl|rfl
 ·refine wpOp_step hoi fun K hK => ?_
  rw [if_pos (wanted_of hgi _)]
  have q:=hA _ _ (NewB.of_alloc w ti csb)
  exact wp_box ti x hop csb hx (hK _ _ ⟨q.1,q.2⟩)
 ·refine wpOp_step hoj fun K hK => ?_
  rw [if_pos (wanted_of hgj _)]
  refine wp_store_mid t x' y' hop' p 0 vs.toArray hx' hy' (by rw [List.size_toArray,hl]; exact hp.there) (by rw [List.size_toArray,hl]; exact hi) (all_oneCell_toArray h1) ?_
  have q:=hB _ (beside_setCells _ _ _ (Beside.refl _ _)) (size_setCells _ _ _ _) (by have:=setCells_same w p 0 t vs cs hp oM; simpa [hl] using this)
  exact hK _ _ ⟨q.1,q.2⟩
theorem later_load {i:Nat} {oi:Oper} {fuel:Nat} {listed:Array Bool} {a:Act} {w:World} (hS:S w) (hi:ops[i]? = some oi)
  (hs:Region.noSelect ops=true) (hf:Region.free .any ops listed i=true) (hr:(Region.ready .any ops listed).contains i=true) (hg:oi.guard=none) (t:TypeId) (p:Nat) (cs:List Value)
  (hQ:∀ c a w,Q (.panic c) (a.put oi.dst (.agg cs.toArray)) w→Q (.panic c) a w) (hO:∀ u,S u→Ob u p t cs) (hx:∃ x,oi.op = .load t x∧a.eval x = .pointer (some ⟨p,0,none⟩)) {d:TypeDesc}
  (hu:P.underlying t=some d) (hd:d.isRow=true) (hz:(P.info? t).map (·.size)=some cs.length)
  (h:wpAnyH P .any ops Q S fuel (listed.setIfInBounds i true) (a.put oi.dst (.agg cs.toArray)) w):wpAnyH P .any ops Q S (fuel+1) listed a w:=by
 obtain ⟨x,hop,hx⟩:=hx
 refine later_take hS hi hs hf hr hQ (wanted_of hg _) (fun u hu' => ?_) h
 unfold execOp
 simp only [hop,hx,Sem.run_bind,run_loadAt_mid u p 0 t cs d (hO u hu').range hu hd hz,Sem.run_pure,Result.andThen_ok]
theorem later_call_store {i j:Nat} {oi oj:Oper} {fuel:Nat} {listed:Array Bool} {a:Act} {w:World} (hoi:ops[i]? = some oi) (hoj:ops[j]? = some oj) (hr:Region.ready .any ops listed=[i,j]) (hgj:oj.guard=none)
  (t:TypeId) (p:Nat) (cs vs:List Value) (hp:Ob w p t cs) (hxy:∃ x y,oj.op = .store t x y∧a.eval x = .pointer (some ⟨p,0,none⟩)∧a.eval y = .agg vs.toArray)
  (hl:vs.length=cs.length) (hi:(P.info? t).map (·.size)=some cs.length) (h1:∀ v ∈ vs,v.oneCell'=true)
  (hA:∀ K':Act→World→Prop,Shut (∀ a' w',S w'→wpAnyH P .any ops Q S fuel (listed.setIfInBounds i true) a' w'→K' a' w')→if Region.wanted oi (yielded ops a.tmps)=true then Oper.wp P oi a w K' Q else K' (a.put oi.dst undef) w)
  (hB:∀ W,Beside p w W→W.heap.size=w.heap.size→Ob W p t vs→S W∧wpAnyH P .any ops Q S fuel (listed.setIfInBounds j true) (a.put oj.dst undef) W):wpAnyH P .any ops Q S (fuel+1) listed a w:=by
 obtain ⟨x',y',hop',hx',hy'⟩:=hxy
 refine wpAnyH_all hr (by simp) fun k hk => ?_
 simp only [List.mem_cons,List.not_mem_nil,or_false] at hk
 rcases hk with rfl|rfl
 ·exact wpOp_step hoi fun K' hK=>hA K' fun a' w' hb hW=>hK a' w' ⟨hb,hW⟩
 ·refine wpOp_step hoj fun K hK => ?_
  rw [if_pos (wanted_of hgj _)]
  refine wp_store_mid t x' y' hop' p 0 vs.toArray hx' hy' (by rw [List.size_toArray,hl]; exact hp.there) (by rw [List.size_toArray,hl]; exact hi) (all_oneCell_toArray h1) ?_
  have q:=hB _ (beside_setCells _ _ _ (Beside.refl _ _)) (size_setCells _ _ _ _) (by have:=setCells_same w p 0 t vs cs hp oM; simpa [hl] using this)
  exact hK _ _ ⟨q.1,q.2⟩
theorem later_done {listed:Array Bool} {a:Act} {w:World} (hr:Region.ready .any ops listed=[]) (h:Q .normal a w) (fuel:Nat):wpAnyH P .any ops Q S fuel listed a w:=wpAnyH_done hr h fuel
end
end Go.Proofs.Ytkhdnlkdcikdmaa.Sm.Held
