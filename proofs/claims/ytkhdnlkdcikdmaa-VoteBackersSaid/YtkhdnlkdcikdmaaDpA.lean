/- Several texts in one: DpBase DpVal DpMem DpMore DpApp DpRun. -/
import Derived.Test.YtkhdnlkdcikdmaaSmV
import Derived.Laws.MakeOwn
import Derived.LoopN
namespace Go.Proofs.Ytkhdnlkdcikdmaa.Dp
open Go.RowKit Go.Proofs.Ytkhdnlkdcikdmaa.Sm
open Go.Proofs.Ytkhdnlkdcikdmaa.Ev (Obl opnds dstB PT nx execOp_congr pt_put undef_bool pickB)
set_option maxHeartbeats 1000000
set_option linter.unusedVariables false
inductive D where
 | any
 | v (x:Value)
 | p (b z i o:Nat)
 | h (b n:Nat)
 | m (b z o n:Nat)
 | s (n z:Nat) (f:Nat→List D)
 | q (cs:List D) (o:Nat)
 | r (cs:List D)
 | t (cs:List D)
 | i (t:TypeId) (d:D)
 | e (z:Bool) (t:TypeId) (d:D)
 | c (f:FuncId) (cs:List D)
 | k (f:FuncId) (cs:List D)
instance:Inhabited D:=⟨.any⟩
def D.one:D→Bool
 | .v x=>x.oneCell'
 | .any=>false
 | .r _=>false
 | .t _=>false
 | .k _ _=>false
 | _=>true
abbrev Own:=List (Option (Nat×Nat))
structure Base where
 b:Nat
 fx:Own
 k:Nat
def Base.lent (B:Base) (g:Nat):Prop:=∃ (i:Nat) (x:Nat×Nat),B.fx[i]? = some (some x)∧x.1=g
def Base.fixd (B:Base) (g:Nat):Prop:=∃ (i:Nat) (x:Nat×Nat),i<B.k∧B.fx[i]? = some (some x)∧x.1=g
def Base.has (B:Base) (g:Nat):Prop:=B.b≤g∨B.lent g
structure BelB (B:Base) (w w':World):Prop where
 os:w'.os=w.os
 tape:w'.tape=w.tape
 output:w'.output=w.output
 size:w.heap.size≤w'.heap.size
 block:∀ k,k<B.b→¬ B.lent k→w'.heap[k]? = w.heap[k]?
theorem BelB.refl (B:Base) (w:World):BelB B w w:=⟨rfl,rfl,rfl,Nat.le_refl _,fun _ _ _=>rfl⟩
theorem BelB.trans {B:Base} {a b c:World} (h:BelB B a b) (k:BelB B b c):BelB B a c :=
 ⟨k.os.trans h.os,k.tape.trans h.tape,k.output.trans h.output,Nat.le_trans h.size k.size,fun i hi hl=>(k.block i hi hl).trans (h.block i hi hl)⟩
theorem BelB.of_below {B:Base} {w w':World} (h:Below w.heap.size w w') (hb:B.b≤w.heap.size):BelB B w w':=⟨h.os,h.tape,h.output,h.size,fun k hk _=>h.block k (Nat.lt_of_lt_of_le hk hb)⟩
theorem BelB.of_beside {B:Base} {g:Nat} {w w':World} (h:Beside g w w') (hg:B.has g) (hb:B.b≤w.heap.size):BelB B w w':=⟨h.os,h.tape,h.output,h.size,fun k hk hl=>h.block k (Nat.lt_of_lt_of_le hk hb) fun e=>by
 subst e
 rcases hg with h1|h1
 ·omega
 ·exact hl h1⟩
def okW (κ : Nat→Prop) (w:World) (ρ : Own) (g:Nat):Prop:=(κ g∧g<w.heap.size)∧∀ (b:Nat) (x:Nat×Nat),ρ[b]? = some (some x)→x.1≠g
inductive RepC (w:World) (ok:Nat→Prop):D→Value→Prop where
 | any (v:Value):RepC w ok .any v
 | v (x:Value):RepC w ok (.v x) x
 | s0 (z:Nat) (f:Nat→List D) (a:Option Addr) (c:Nat) (ha:a=none→c=0) (hc:c≤maxLen):RepC w ok (.s 0 z f) (.slice a 0 c)
 | s {n z:Nat} {f:Nat→List D} {b off c:Nat} (vals:Nat→Nat→Value) (hb:ok b) (hn:n≤c) (hc:c≤maxLen) (hz:∀ i,i<n→(f i).length=z∧(f i).all D.one=true)
  (hv:∀ i j,i<n→j<z→w.cell? ⟨b,off+(i*z+j),none⟩=some (vals i j))
  (hd:∀ (i j:Nat) (d:D),i<n→(f i)[j]? = some d→RepC w ok d (vals i j)):RepC w ok (.s n z f) (.slice (some ⟨b,off,none⟩) n c)
 | q {cs:List D} {o b off:Nat} (vals:Nat→Value) (hb:ok b) (hv:∀ j,j<cs.length→w.cell? ⟨b,off+j,none⟩=some (vals j))
  (hd:∀ (j:Nat) (d:D),cs[j]? = some d→RepC w ok d (vals j)):RepC w ok (.q cs o) (.pointer (some ⟨b,off+o,none⟩))
 | r {cs:List D} {vs:List Value} (hl:vs.length=cs.length) (hd:∀ (j:Nat) (d:D) (v:Value),cs[j]? = some d→vs[j]? = some v→RepC w ok d v):RepC w ok (.r cs) (.agg vs.toArray)
 | t {cs:List D} {vs:List Value} (hl:vs.length=cs.length) (hd:∀ (j:Nat) (d:D) (v:Value),cs[j]? = some d→vs[j]? = some v→RepC w ok d v):RepC w ok (.t cs) (.tuple vs.toArray)
 | i {t:TypeId} {d:D} {v:Value} (h:RepC w ok d v):RepC w ok (.i t d) (.iface t v)
 | e0 {t:TypeId} {d:D}:RepC w ok (.e false t d) .nilIface
 | e1 {t:TypeId} {d:D} {v:Value} (h:RepC w ok d v):RepC w ok (.e true t d) (.iface t v)
 | c {f:FuncId} {cs:List D} {vs:List Value} (hl:vs.length=cs.length) (hd:∀ (j:Nat) (d:D) (v:Value),cs[j]? = some d→vs[j]? = some v→RepC w ok d v):RepC w ok (.c f cs) (.func (.func f) #[] vs.toArray)
theorem RepC.mono {w w':World} {ok ok':Nat→Prop} {d:D} {v:Value} (h:RepC w ok d v) (hk:∀ b,ok b→ok' b∧w'.heap[b]? = w.heap[b]?):RepC w' ok' d v:=by
 induction h with
 | any v=>exact .any v
 | v x=>exact .v x
 | s0 z f a c ha hc=>exact .s0 z f a c ha hc
 | s vals hb hn hc hz hv hd ih=>exact .s vals (hk _ hb).1 hn hc hz (fun i j hi hj=>(World.cell?_of_block (hk _ hb).2).trans (hv i j hi hj)) ih
 | q vals hb hv hd ih=>exact .q vals (hk _ hb).1 (fun j hj=>(World.cell?_of_block (hk _ hb).2).trans (hv j hj)) ih
 | r hl hd ih=>exact .r hl ih
 | t hl hd ih=>exact .t hl ih
 | i h ih=>exact .i ih
 | e0=>exact .e0
 | e1 h ih=>exact .e1 ih
 | c hl hd ih=>exact .c hl ih
def GlC (w:World) (ok:Nat→Prop) (x:Nat×List D):Prop:=RepC w ok (.q x.2 0) (.pointer (some ⟨x.1,0,none⟩))∧ok x.1∧(x.2=[D.any]→∃ ca ta,w.heap[x.1]? = some (.cells ca ta (0,0)))
theorem GlC.mono {w w':World} {ok ok':Nat→Prop} {x:Nat×List D} (h:GlC w ok x) (hk:∀ b,ok b→ok' b∧w'.heap[b]? = w.heap[b]?):GlC w' ok' x:=⟨h.1.mono hk,(hk _ h.2.1).1,fun hx=>by rw [(hk _ h.2.1).2]; exact h.2.2 hx⟩
inductive Rep1 (w:World) (ok:Nat→Prop) (ρ : Own):D→Value→Prop where
 | c {d:D} {v:Value} (h:RepC w ok d v):Rep1 w ok ρ d v
 | p {b z i o g c:Nat} (h : ρ[b]? = some (some (g,c))):Rep1 w ok ρ (.p b z i o) (.pointer (some ⟨g,i*z+o,none⟩))
 | h {b n g c:Nat} (h : ρ[b]? = some (some (g,c))) (hn:n≤c):Rep1 w ok ρ (.h b n) (.slice (some ⟨g,0,none⟩) n c)
 | h0 {b:Nat} (h : ρ[b]? = some none):Rep1 w ok ρ (.h b 0) (.slice none 0 0)
 | m {b z o n g c off k:Nat} (h : ρ[b]? = some (some (g,c))) (hk:n≤k) (hc:o+k≤c) (ho:0<k→off=o*z):Rep1 w ok ρ (.m b z o n) (.slice (some ⟨g,off,none⟩) n k)
 | m0 {b z:Nat} (h : ρ[b]? = some none):Rep1 w ok ρ (.m b z 0 0) (.slice none 0 0)
inductive RepO (w:World) (ok:Nat→Prop) (ρ : Own):D→Value→Prop where
 | one {d:D} {v:Value} (h:Rep1 w ok ρ d v):RepO w ok ρ d v
 | r {cs:List D} {vs:List Value} (hl:vs.length=cs.length) (hd:∀ (j:Nat) (d:D) (v:Value),cs[j]? = some d→vs[j]? = some v→Rep1 w ok ρ d v):RepO w ok ρ (.r cs) (.agg vs.toArray)
 | k {f:FuncId} {cs:List D} {vs:List Value} (hl:vs.length=cs.length) (hd:∀ (j:Nat) (d:D) (v:Value),cs[j]? = some d→vs[j]? = some v→Rep1 w ok ρ d v):RepO w ok ρ (.k f cs) (.func (.func f) #[] vs.toArray)
structure Stay (κ : Nat→Prop) (w:World) (ρ : Own) (w':World) (ρ':Own):Prop where
 mem:∀ b,okW κ w ρ b→okW κ w' ρ' b∧w'.heap[b]? = w.heap[b]?
 own:∀ (b:Nat) (x:Option (Nat×Nat)),ρ[b]? = some x → ρ'[b]? = some x
section
variable {κ : Nat→Prop} {w w':World} {ρ ρ':Own} {d:D} {v:Value}
theorem Rep1.mono (h:Rep1 w (okW κ w ρ) ρ d v) (hs:Stay κ w ρ w' ρ'):Rep1 w' (okW κ w' ρ') ρ' d v:=by
 cases h with
 | c h=>exact .c (h.mono hs.mem)
 | p h=>exact .p (hs.own _ _ h)
 | h h hn=>exact .h (hs.own _ _ h) hn
 | h0 h=>exact .h0 (hs.own _ _ h)
 | m h hk hc ho=>exact .m (hs.own _ _ h) hk hc ho
 | m0 h=>exact .m0 (hs.own _ _ h)
theorem RepO.mono (h:RepO w (okW κ w ρ) ρ d v) (hs:Stay κ w ρ w' ρ'):RepO w' (okW κ w' ρ') ρ' d v:=by
 cases h with
 | one h=>exact .one (h.mono hs)
 | r hl hd=>exact .r hl fun j d v h1 h2=>(hd j d v h1 h2).mono hs
 | k hl hd=>exact .k hl fun j d v h1 h2=>(hd j d v h1 h2).mono hs
end
structure Ent where
 d:Nat
 path:List (Nat×Bool)
 dv:D
inductive Obj where
 | dead
 | var (t:TypeId) (cs:List D)
 | row (t:TypeId) (z n:Nat) (f:Nat→List D)
structure St where
 tab:List Ent
 mem:List Obj
 gl:List (Nat×List D):=[]
 fx:Nat:=0
def St.find (s:St) (d:Nat):Option Ent:=s.tab.find? fun e=>e.d == d
def St.glob (s:St) (g:Nat):Option (Nat×List D):=s.gl.find? fun x=>x.1 == g
def St.look (s:St) (A:List (Nat×Bool)):Operand→Option D
 | .const x=>some (.v x)
 | .tmp d=>match s.find d with
  | some e=>if e.path.all (fun x=>A.contains x) then some e.dv else none
  | none=>none
 | .global g=>match s.glob g with
  | some x=>some (.q x.2 0)
  | none=>some (.v ((⟨#[],[]⟩:Act).eval (.global g)))
 | .func f=>some (.v ((⟨#[],[]⟩:Act).eval (.func f)))
def St.put (s:St) (d:Option Nat) (A:List (Nat×Bool)) (dv:D):St:=match d with
 | none=>s
 | some d=>{ s with tab:=⟨d,A,dv⟩::s.tab.filter fun e=>e.d != d&&e.path.all fun x=>x.1 != d }
def gpath (ops:Array Oper) (s:St) (o:Oper):Option (List (Nat×Bool)):=match o.guard with
 | none=>some []
 | some (j,want)=>match (ops[j]?).bind (·.dst) with
  | some m=>(s.find m).map fun e=>(m,want)::e.path
  | none=>none
structure EntOk (κ : Nat→Prop) (w:World) (ρ : Own) (a:Act) (e:Ent):Prop where
 yes:PT a e.path→RepO w (okW κ w ρ) ρ e.dv (sl a e.d)
 no:¬ PT a e.path→sl a e.d=undef
 lt:e.d<a.tmps.size
def ObjOk (κ : Nat→Prop) (w:World) (ρ : Own) (b:Nat):Obj→Prop
 | .dead => ρ[b]? = some none
 | .var t cs=>∃ (g:Nat) (vs:List Value),ρ[b]? = some (some (g,cs.length))∧w.heap[g]? = some (.cells vs.toArray t (0,0))∧vs.length=cs.length∧∀ (j:Nat) (d:D) (v:Value),cs[j]? = some d→vs[j]? = some v→Rep1 w (okW κ w ρ) ρ d v
 | .row t z n f=>(ρ[b]? = some none∧n=0)∨∃ (g c:Nat) (cur:Array Value),ρ[b]? = some (some (g,c))∧w.heap[g]? = some (.cells cur t (0,0))∧n≤c∧c≤maxLen∧cur.size=c*z ∧
  ∀ i,i<n→(f i).length=z∧(f i).all D.one=true∧∀ (j:Nat) (d:D),(f i)[j]? = some d→∃ v,cur[i*z+j]? = some v∧RepC w (okW κ w ρ) d v
structure Inv (κ : Nat→Prop) (B:Base) (ρ : Own) (s:St) (N:Nat) (a:Act) (w:World):Prop where
 size:a.tmps.size=N
 dfr:a.defers=[]
 tab:∀ e ∈ s.tab,EntOk κ w ρ a e
 len : ρ.length=s.mem.length
 own:∀ (b:Nat) (x:Nat×Nat),ρ[b]? = some (some x)→B.has x.1∧x.1<w.heap.size
 nd:∀ (b b':Nat) (x x':Nat×Nat),ρ[b]? = some (some x) → ρ[b']? = some (some x')→x.1=x'.1→b=b'
 mem:∀ b o,s.mem[b]? = some o→ObjOk κ w ρ b o
 gl:∀ x ∈ s.gl,GlC w (okW κ w ρ) x
 big:B.b≤w.heap.size
 hκ : ∀ g,B.has g → κ g
 fx:s.fx=B.k
 fix:∀ (i:Nat) (x:Option (Nat×Nat)),i<B.k→B.fx[i]? = some x → ρ[i]? = some x
section
variable {κ : Nat→Prop} {B:Base} {N:Nat} {ρ : Own} {s:St} {a:Act} {w:World} {A:List (Nat×Bool)} {o:Oper} {ops:Array Oper} {P:Program}
theorem find_mem {d:Nat} {e:Ent} (h:s.find d=some e):e ∈ s.tab∧e.d=d:=by
 unfold St.find at h
 exact ⟨List.mem_of_find?_eq_some h,by simpa using List.find?_some h⟩
theorem wanted_iff (hI:Inv κ B ρ s N a w) (hA:gpath ops s o=some A):Region.wanted o (yielded ops a.tmps)=true↔PT a A:=by
 unfold gpath at hA
 unfold Region.wanted
 split at hA
 ·rename_i hg
  injection hA with hA
  subst hA
  rw [hg]
  exact ⟨fun _ x hx=>(nomatch hx),fun _=>rfl⟩
 ·rename_i j want hg
  rw [hg]
  split at hA
  ·rename_i m hm
   obtain ⟨e,he,rfl⟩:=Option.map_eq_some_iff.1 hA
   obtain ⟨hin,rfl⟩:=find_mem he
   have hk:=hI.tab e hin
   have hy:yielded ops a.tmps j=some want↔sl a e.d = .bool want:=by
    unfold yielded
    rw [hm,Option.bind_some,sl_get hk.lt]
    cases hv:sl a e.d <;> simp
   show (yielded ops a.tmps j == some want)=true↔_
   rw [beq_iff_eq,hy]
   constructor
   ·intro hb
    intro x hx
    rcases List.mem_cons.1 hx with rfl|hx
    ·exact hb
    ·by_cases hp:PT a e.path
     ·exact hp x hx
     ·exact absurd ((hk.no hp).symm.trans hb) (undef_bool _)
   ·intro h
    exact h (e.d,want) (List.mem_cons_self ..)
  ·cases hA
theorem look_rep (hI:Inv κ B ρ s N a w) {x:Operand} {d:D} (h:s.look A x=some d) (hp:PT a A):RepO w (okW κ w ρ) ρ d (a.eval x):=by
 cases x with
 | const y =>
  simp only [St.look,Option.some.injEq] at h
  subst h
  exact .one (.c (.v _))
 | tmp t =>
  simp only [St.look] at h
  split at h
  ·rename_i e he
   split at h
   ·rename_i hall
    injection h with h
    subst h
    obtain ⟨hin,rfl⟩:=find_mem he
    refine (hI.tab e hin).yes fun x hx => ?_
    have:=List.all_eq_true.1 hall x hx
    exact hp x (by simpa using this)
   ·cases h
  ·cases h
 | global g =>
  simp only [St.look] at h
  split at h
  ·rename_i x hx
   injection h with h
   subst h
   have hin:=List.mem_of_find?_eq_some hx
   have hg:x.1=g:=by simpa using List.find?_some hx
   subst hg
   exact .one (.c (hI.gl x hin).1)
  ·injection h with h
   subst h
   exact .one (.c (.v _))
 | func f =>
  simp only [St.look,Option.some.injEq] at h
  subst h
  exact .one (.c (.v _))
theorem inv_put (hI:Inv κ B ρ s N a w) {dst:Option Nat} {d:D} {v:Value} (hd:dstB N A dst=true)
  (hy:PT a A→RepO w (okW κ w ρ) ρ d v) (hn:¬ PT a A→v=undef):Inv κ B ρ (s.put dst A d) N (a.put dst v) w:=by
 cases dst with
 | none=>exact hI
 | some k =>
  simp only [dstB,Bool.and_eq_true,decide_eq_true_eq] at hd
  refine ⟨put_size.trans hI.size,hI.dfr,?_,hI.len,hI.own,hI.nd,hI.mem,hI.gl,hI.big,hI.hκ,hI.fx,hI.fix⟩
  intro e he
  have hlt:k<a.tmps.size:=by rw [hI.size]; exact hd.1
  rcases List.mem_cons.1 he with rfl|he
  ·refine ⟨fun hp => ?_,fun hp => ?_,by rw [put_size]; exact hlt⟩
   ·rw [sl_put_same hlt]; exact hy ((pt_put hd.2).1 hp)
   ·rw [sl_put_same hlt]; exact hn fun h=>hp ((pt_put hd.2).2 h)
  ·obtain ⟨hin,hf⟩:=List.mem_filter.1 he
   simp only [Bool.and_eq_true,bne_iff_ne,ne_eq] at hf
   have hk:=hI.tab e hin
   refine ⟨fun hp => ?_,fun hp => ?_,by rw [put_size]; exact hk.lt⟩
   ·rw [sl_put_ne hf.1]; exact hk.yes ((pt_put hf.2).1 hp)
   ·rw [sl_put_ne hf.1]; exact hk.no fun h=>hp ((pt_put hf.2).2 h)
theorem Stay.later {W:World} (hb:Below w.heap.size w W):Stay κ w ρ W ρ :=
 ⟨fun b h=>⟨⟨⟨h.1.1,Nat.lt_of_lt_of_le h.1.2 hb.size⟩,h.2⟩,hb.block b h.1.2⟩,fun _ _ h=>h⟩
theorem ObjOk.mono {W:World} {b:Nat} {ob:Obj} (h:ObjOk κ w ρ b ob) {ρ':Own} (hs:Stay κ w ρ W ρ') (hown:∀ g c,ρ[b]? = some (some (g,c))→W.heap[g]? = w.heap[g]?):ObjOk κ W ρ' b ob:=by
 cases ob with
 | dead=>exact hs.own _ _ h
 | var t cs =>
  obtain ⟨g,vs,h1,h2,h3,h4⟩:=h
  exact ⟨g,vs,hs.own _ _ h1,(hown g _ h1).trans h2,h3,fun j d v a b=>(h4 j d v a b).mono hs⟩
 | row t z n f =>
  rcases h with ⟨h1,h2⟩|⟨g,c,cur,h1,h2,h3,h4,h5,h6⟩
  ·exact .inl ⟨hs.own _ _ h1,h2⟩
  ·refine .inr ⟨g,c,cur,hs.own _ _ h1,(hown g c h1).trans h2,h3,h4,h5,fun i hi=>⟨(h6 i hi).1,(h6 i hi).2.1,fun j d hj => ?_⟩⟩
   obtain ⟨v,hv,hr⟩:=(h6 i hi).2.2 j d hj
   exact ⟨v,hv,hr.mono hs.mem⟩
theorem Inv.later (hI:Inv κ B ρ s N a w) {W:World} (hb:Below w.heap.size w W):Inv κ B ρ s N a W:=by
 have hs:Stay κ w ρ W ρ := .later hb
 refine ⟨hI.size,hI.dfr,fun e he => ?_,hI.len,fun b x hx=>⟨(hI.own b x hx).1,Nat.lt_of_lt_of_le (hI.own b x hx).2 hb.size⟩,hI.nd,fun b o ho => ?_,fun x hx=>(hI.gl x hx).mono hs.mem,Nat.le_trans hI.big hb.size,hI.hκ,hI.fx,hI.fix⟩
 ·have hk:=hI.tab e he
  exact ⟨fun hp=>(hk.yes hp).mono hs,hk.no,hk.lt⟩
 ·exact (hI.mem b o ho).mono hs fun g c hg=>hb.block g (hI.own b _ hg).2
theorem inv_new (hI:Inv κ B ρ s N a w) {W:World} (hb:Below w.heap.size w W) {x:Option (Nat×Nat)} (hx:∀ y,x=some y→y.1=w.heap.size∧w.heap.size<W.heap.size) {ob:Obj} (ho:ObjOk κ W (ρ ++ [x]) ρ.length ob) :
  Inv κ B (ρ ++ [x]) { s with mem:=s.mem++[ob] } N a W:=by
 have hget:∀ b y,(ρ ++ [x])[b]? = some y→(ρ[b]? = some y∧b < ρ.length)∨(b = ρ.length∧y=x):=by
  intro b y h
  rcases Nat.lt_or_ge b ρ.length with h1|h1
  ·rw [List.getElem?_append_left h1] at h; exact .inl ⟨h,h1⟩
  ·rw [List.getElem?_append_right h1] at h
   rcases Nat.eq_zero_or_pos (b - ρ.length) with h0|h0
   ·rw [h0] at h
    simp only [List.getElem?_cons_zero,Option.some.injEq] at h
    exact .inr ⟨by omega,h.symm⟩
   ·rw [List.getElem?_eq_none (by simp; omega)] at h; cases h
 have hs:Stay κ w ρ W (ρ ++ [x]):=by
  refine ⟨fun b h=>⟨⟨⟨h.1.1,Nat.lt_of_lt_of_le h.1.2 hb.size⟩,fun b' y hy => ?_⟩,hb.block b h.1.2⟩,fun b y h => ?_⟩
  ·rcases hget b' _ hy with ⟨h1,_⟩|⟨_,h1⟩
   ·exact h.2 b' y h1
   ·have:=(hx y h1.symm).1
    have:=h.1.2
    omega
  ·rw [List.getElem?_append_left (List.getElem?_eq_some_iff.1 h).1]; exact h
 refine ⟨hI.size,hI.dfr,fun e he => ?_,by simp [hI.len],fun b y hy => ?_,fun b b' y y' hy hy' he => ?_,fun b o hm => ?_,fun y hy=>(hI.gl y hy).mono hs.mem,Nat.le_trans hI.big hb.size,hI.hκ,hI.fx,fun i x hk h=>by rw [List.getElem?_append_left (List.getElem?_eq_some_iff.1 (hI.fix i x hk h)).1]; exact hI.fix i x hk h⟩
 ·have hk:=hI.tab e he
  exact ⟨fun hp=>(hk.yes hp).mono hs,hk.no,hk.lt⟩
 ·rcases hget b _ hy with ⟨h1,_⟩|⟨_,h1⟩
  ·exact ⟨(hI.own b y h1).1,Nat.lt_of_lt_of_le (hI.own b y h1).2 hb.size⟩
  ·obtain ⟨h2,h3⟩:=hx y h1.symm
   have:=hI.big
   exact ⟨.inl oM,by omega⟩
 ·rcases hget b _ hy with ⟨h1,hl⟩|⟨hl,h1⟩ <;> rcases hget b' _ hy' with ⟨h2,hl'⟩|⟨hl',h2⟩
  ·exact hI.nd b b' y y' h1 h2 he
  ·have:=(hI.own b y h1).2
   have:=(hx y' h2.symm).1
   omega
  ·have:=(hI.own b' y' h2).2
   have:=(hx y h1.symm).1
   omega
  ·omega
 ·have hm':(s.mem++[ob])[b]? = some o:=hm
  rcases Nat.lt_or_ge b s.mem.length with h1|h1
  ·rw [List.getElem?_append_left h1] at hm'
   exact (hI.mem b o hm').mono hs fun g c hg=>hb.block g (hI.own b _ hg).2
  ·rw [List.getElem?_append_right h1] at hm'
   rcases Nat.eq_zero_or_pos (b-s.mem.length) with h0|h0
   ·rw [h0] at hm'
    simp only [List.getElem?_cons_zero,Option.some.injEq] at hm'
    subst hm'
    have:b = ρ.length:=by rw [hI.len]; omega
    rw [this]
    exact ho
   ·rw [List.getElem?_eq_none (by simp; omega)] at hm'; cases hm'
def St.setMem (s:St) (b:Nat) (x:Obj):St:={ s with mem:=s.mem.set b x }
theorem Stay.beside {W:World} {b g c:Nat} (hg : ρ[b]? = some (some (g,c))) (hb:Beside g w W):Stay κ w ρ W ρ :=
 ⟨fun k h=>⟨⟨⟨h.1.1,Nat.lt_of_lt_of_le h.1.2 hb.size⟩,h.2⟩,hb.block k h.1.2 (Ne.symm (h.2 b _ hg))⟩,fun _ _ h=>h⟩
theorem inv_set (hI:Inv κ B ρ s N a w) {b g c:Nat} (hg : ρ[b]? = some (some (g,c))) {W:World} (hb:Beside g w W) {ob:Obj} (ho:ObjOk κ W ρ b ob):Inv κ B ρ (s.setMem b ob) N a W:=by
 have hs:Stay κ w ρ W ρ := .beside hg hb
 refine ⟨hI.size,hI.dfr,fun e he => ?_,by simp [St.setMem,hI.len],fun k x hx=>⟨(hI.own k x hx).1,Nat.lt_of_lt_of_le (hI.own k x hx).2 hb.size⟩,hI.nd,fun k o hm => ?_,fun x hx=>(hI.gl x hx).mono hs.mem,Nat.le_trans hI.big hb.size,hI.hκ,hI.fx,hI.fix⟩
 ·have hk:=hI.tab e he
  exact ⟨fun hp=>(hk.yes hp).mono hs,hk.no,hk.lt⟩
 ·have hm':(s.mem.set b ob)[k]? = some o:=hm
  by_cases hkb:k=b
  ·subst hkb
   have hl:k<s.mem.length:=by rw [← hI.len]; exact (List.getElem?_eq_some_iff.1 hg).1
   rw [List.getElem?_set_self hl] at hm'
   injection hm' with hm'
   subst hm'
   exact ho
  ·rw [List.getElem?_set_ne (Ne.symm hkb)] at hm'
   refine (hI.mem k o hm').mono hs fun g' c' hg'=>hb.block g' (hI.own k _ hg').2 ?_
   intro e
   exact hkb (hI.nd k b _ _ hg' hg e)
structure Fr (T:List Nat) (ρ : Own) (w:World) (ρ':Own) (w':World):Prop where
 keep:∀ k,k<w.heap.size→(∀ b ∈ T,∀ c,ρ[b]? ≠ some (some (k,c)))→w'.heap[k]? = w.heap[k]?
 new:∀ (b k c:Nat),ρ'[b]? = some (some (k,c))→k<w.heap.size→∃ c',ρ[b]? = some (some (k,c'))
theorem Fr.later {W:World} (T:List Nat) (hb:Below w.heap.size w W):Fr T ρ w ρ W:=⟨fun k hk _=>hb.block k hk,fun b k c h _=>⟨c,h⟩⟩
theorem Fr.push {W:World} (T:List Nat) (hb:Below w.heap.size w W) (n:Nat):Fr T ρ w (ρ ++ [some (w.heap.size,n)]) W:=by
 refine ⟨fun k hk _=>hb.block k hk,fun b k c h hk => ?_⟩
 rcases Nat.lt_or_ge b ρ.length with h1|h1
 ·rw [List.getElem?_append_left h1] at h; exact ⟨c,h⟩
 ·rw [List.getElem?_append_right h1] at h
  rcases Nat.eq_zero_or_pos (b - ρ.length) with h0|h0
  ·rw [h0] at h
   simp only [List.getElem?_cons_zero,Option.some.injEq,Prod.mk.injEq] at h
   omega
  ·rw [List.getElem?_eq_none (by simp; omega)] at h; cases h
end
end Go.Proofs.Ytkhdnlkdcikdmaa.Dp
namespace Go.Proofs.Ytkhdnlkdcikdmaa.Dp
open Go.RowKit Go.Proofs.Ytkhdnlkdcikdmaa.Sm
open Go.Proofs.Ytkhdnlkdcikdmaa.Ev (Obl opnds dstB PT nx pt_put undef_bool pickB isRow_false)
set_option maxHeartbeats 1000000
set_option linter.unusedVariables false
set_option linter.unusedSimpArgs false
def D.shut:D→Bool
 | .v _=>true
 | .s _ _ _=>true
 | .q _ _=>true
 | .i _ _=>true
 | .e _ _ _=>true
 | .c _ _=>true
 | _=>false
def plainL:List D→Option (List Value)
 | []=>some []
 | d::r=>match d with
  | .v x=>(plainL r).map (x :: ·)
  | _=>none
def D.toV:D→Option Value
 | .v x=>some x
 | .r cs=>(plainL cs).map fun l => .agg l.toArray
 | _=>none
def D.ofV1:Value→D
 | .agg cs => .r (cs.toList.map .v)
 | x => .v x
def D.ofV:Value→D
 | .agg cs => .r (cs.toList.map .v)
 | .tuple vs => .t (vs.toList.map D.ofV1)
 | x => .v x
def plainV (s:St) (A:List (Nat×Bool)) (x:Operand):Option Value:=(s.look A x).bind D.toV
def pureD (P:Program) (w0:World) (s:St) (A:List (Nat×Bool)) (o:Oper):Option (D×List Obl×List Prop) :=
 match opnds o.op with
 | none=>none
 | some l =>
  if l.all (fun x=>(plainV s A x).isSome) then
   match (execOp (fun x=>(plainV s A x).getD undef) o).run P w0 with
   | .ok (.value v) _=>some (D.ofV v,[⟨fun _ u=>(execOp (fun x=>(plainV s A x).getD undef) o).run P u,fun _ u => .ok (.value v) u⟩],[])
   | _=>none
  else none
def szOf (P:Program) (t:TypeId):Option Nat:=(P.info? t).map (·.size)
def fieldOf (P:Program) (t:TypeId) (i:Nat):Option Field:=match P.underlying t with
 | some (.struct fs)=>fs[i]?
 | _=>none
def cut (P:Program) (t:TypeId) (cs:List D) (o:Nat):Option D :=
 match (P.underlying t).map (·.isRow) with
 | some false=>cs[o]?
 | some true=>match szOf P t with
  | some n=>if decide (o+n≤cs.length) then some (.r ((cs.drop o).take n)) else none
  | none=>none
 | none=>none
def loadD (P:Program) (s:St) (t:TypeId):D→Option (D×List Prop)
 | .q cs o=>(cut P t cs o).map fun d=>(d,[])
 | .p b z i o=>match s.mem[b]? with
  | some (.var _ cs)=>if i == 0 then (cut P t cs o).map fun d=>(d,[]) else none
  | some (.row _ z' n f)=>if z == z' then (cut P t (f i) o).map fun d=>(d,[i<n]) else none
  | _=>none
 | _=>none
def addrD (P:Program) (k:Nat):D→Option D
 | .p b z i o=>some (.p b z i (o+k))
 | .q cs o=>some (.q cs (o+k))
 | _=>none
def asRowP (s:St) (z:Nat):D→Option Nat
 | .p b _ i o=>if o == 0&&i == 0 then match s.mem[b]? with
   | some (.row _ z' _ _)=>if z' == z then some b else none
   | _=>none
  else none
 | _=>none
def indexD (P:Program) (s:St) (t:TypeId) (x:D) (k:IntKind) (i:Int):Option (D×List Prop) :=
 match P.underlying t,x with
 | some (.slice e),.s n z f=>if szOf P e == some z then some (.q (f i.toNat) 0,[0≤i∧i<(n:Int)]) else none
 | some (.slice e),.h b n=>match s.mem[b]? with
  | some (.row _ z _ _)=>if szOf P e == some z then some (.p b z i.toNat 0,[0≤i∧i<(n:Int)]) else none
  | _=>none
 | some (.slice e),.m b z o n=>match s.mem[b]? with
  | some (.row _ z' _ _)=>if szOf P e == some z&&z' == z then some (.p b z (o+i.toNat) 0,[0≤i∧i<(n:Int)]) else none
  | _=>none
 | some (.array n e),d=>match szOf P e with
  | some z=>match asRowP s z d with
   | some b=>some (.p b z i.toNat 0,[0≤i∧i<(n:Int)])
   | none=>(addrD P (i.toNat*z) d).map fun r=>(r,[0≤i∧i<(n:Int)])
  | none=>none
 | _,_=>none
def fillD (place:Nat→Option (Nat×Nat)) (cells:List D):List (Nat×List D)→Option (List D)
 | []=>some cells
 | (i,ds)::rest=>match place i with
  | none=>none
  | some (off,size)=>if decide (ds.length=size)&&decide (off+ds.length≤cells.length) then fillD place (cells.take off++ds++cells.drop (off+ds.length)) rest else none
def D.cells:D→List D
 | .r cs=>cs
 | .v x=>x.cells.toList.map .v
 | d=>[d]
def sliceD (n z:Nat) (f:Nat→List D):Option Int→Option Int→D×List Prop
 | none,none=>(.s n z f,[])
 | none,some h=>(.s h.toNat z f,[0≤h∧h≤(n:Int)])
 | some l,none=>(.s (n-l.toNat) z fun k=>f (l.toNat+k),[0≤l∧l≤(n:Int)])
 | some l,some h=>(.s (h.toNat-l.toNat) z fun k=>f (l.toNat+k),[0≤l∧l≤h∧h≤(n:Int)])
def pieceH (b z n:Nat):Option Int→Option Int→D×List Prop
 | none,none=>(.h b n,[])
 | none,some h=>(.h b h.toNat,[0≤h∧h≤(n:Int)])
 | some l,none=>(.m b z l.toNat (n-l.toNat),[0≤l∧l≤(n:Int)])
 | some l,some h=>(.m b z l.toNat (h.toNat-l.toNat),[0≤l∧l≤h∧h≤(n:Int)])
def pieceM (b z o n:Nat):Option Int→Option Int→D×List Prop
 | none,none=>(.m b z o n,[])
 | none,some h=>(.m b z o h.toNat,[0≤h∧h≤(n:Int)])
 | some l,none=>(.m b z (o+l.toNat) (n-l.toNat),[0≤l∧l≤(n:Int)])
 | some l,some h=>(.m b z (o+l.toNat) (h.toNat-l.toNat),[0≤l∧l≤h∧h≤(n:Int)])
def lookI (s:St) (A:List (Nat×Bool)):Option Operand→Option (Option Int)
 | none=>some none
 | some x=>match s.look A x with
  | some (.v (.int .i64 i))=>some (some i)
  | _=>none
def valD (P:Program) (w0:World) (s:St) (A:List (Nat×Bool)) (o:Oper):Option (D×List Obl×List Prop) :=
 match o.op with
 | .move x=>(s.look A x).map fun d=>(d,[],[])
 | .assign x=>(s.look A x).map fun d=>(d,[],[])
 | .pick (.tmp c) x y=>match s.look A (.tmp c),s.look ((c,true)::A) x,s.look ((c,false)::A) y with
  | some (.v (.bool b)),some (.v (.bool p)),some (.v (.bool q))=>some (.v (.bool (pickB x y b p q)),[],[])
  | _,_,_=>none
 | .fieldAddr t x i=>match s.look A x,fieldOf P t i with
  | some d,some f=>match szOf P f.type with
   | some (_+1)=>(addrD P f.offset d).map fun r=>(r,[],[])
   | _=>none
  | _,_=>none
 | .load t x=>match s.look A x with
  | some d=>(loadD P s t d).map fun r=>(r.1,[],r.2)
  | none=>none
 | .nilCheck x=>match s.look A x with
  | some (.p b z i o)=>some (.p b z i o,[],[])
  | some (.q cs o)=>some (.q cs o,[],[])
  | _=>pureD P w0 s A o
 | .indexAddr t x y=>match s.look A x,s.look A y with
  | some d,some (.v (.int k i))=>(indexD P s t d k i).map fun r=>(r.1,[],r.2)
  | _,_=>none
 | .field t x i=>match s.look A x,fieldOf P t i with
  | some (.r cs),some f=>(cut P f.type cs f.offset).map fun d=>(d,[],[])
  | _,_=>none
 | .index t x y=>match P.underlying t,s.look A x,s.look A y with
  | some (.array n e),some (.r cs),some (.v (.int k i))=>match szOf P e with
   | some z=>(cut P e cs (i.toNat*z)).map fun d=>(d,[],[0≤i∧i<(n:Int)])
   | none=>none
  | _,_,_=>pureD P w0 s A o
 | .extract x i=>match s.look A x with
  | some (.t cs)=>(cs[i]?).map fun d=>(d,[],[])
  | _=>pureD P w0 s A o
 | .makeInterface t x=>match s.look A x with
  | some d=>match d.toV with
   | some _=>pureD P w0 s A o
   | none=>match P.underlying t with
    | some (.interface _)=>none
    | some _=>if d.shut then some (.i t d,[],[]) else none
    | none=>none
  | none=>none
 | .binOp op t x y _=>match op,s.look A x,s.look A y,P.underlying t with
  | .eql,some (.i _ _),some (.v .nilIface),some (.interface _)=>some (.v (.bool false),[],[])
  | .neq,some (.i _ _),some (.v .nilIface),some (.interface _)=>some (.v (.bool true),[],[])
  | _,_,_,_=>pureD P w0 s A o
 | .slice t x lo hi none=>match P.underlying t,s.look A x,lookI s A lo,lookI s A hi with
  | some (.slice e),some (.s n z f),some l,some h=>if szOf P e == some z then some ((sliceD n z f l h).1,[],(sliceD n z f l h).2) else none
  | some (.slice e),some (.h b n),some l,some h=>match s.mem[b]? with
   | some (.row _ z _ _)=>if szOf P e == some z then some ((pieceH b z n l h).1,[],(pieceH b z n l h).2) else none
   | _=>none
  | some (.slice e),some (.m b z o n),some l,some h=>if szOf P e == some z then some ((pieceM b z o n l h).1,[],(pieceM b z o n l h).2) else none
  | _,_,_,_=>none
 | .call c=>match c.callee,c.args.toList,c.argTypes.toList with
  | .builtin .len,[x],[t]=>match P.underlying t,s.look A x with
   | some (.slice _),some (.s n _ _)=>some (.v (.int .i64 (n:Int)),[],[])
   | some (.slice _),some (.h _ n)=>some (.v (.int .i64 (n:Int)),[],[])
   | some (.slice _),some (.m _ _ _ n)=>some (.v (.int .i64 (n:Int)),[],[])
   | _,_=>pureD P w0 s A o
  | _,_,_=>pureD P w0 s A o
 | _=>pureD P w0 s A o
section
variable {κ : Nat→Prop} {B:Base} {N:Nat} {ρ : Own} {s:St} {a:Act} {w w0:World} {A:List (Nat×Bool)} {o:Oper} {ops:Array Oper} {P:Program} {ok:Nat→Prop}
theorem Rep1.shut {d:D} {v:Value} (h:Rep1 w ok ρ d v) (hs:d.shut=true):RepC w ok d v:=by
 cases h with
 | c h=>exact h
 | _=>cases hs
theorem Rep1.not_k {f:FuncId} {cs:List D} {v:Value}:¬ Rep1 w ok ρ (.k f cs) v:=fun h=>by
 cases h with
 | c h=>cases h
theorem rep1_v {x v:Value} (h:Rep1 w ok ρ (.v x) v):v=x:=by
 cases h with
 | c h=>cases h; rfl
theorem repO_v {x v:Value} (h:RepO w ok ρ (.v x) v):v=x:=by
 cases h with
 | one h=>exact rep1_v h
theorem repO_r {cs:List D} {v:Value} (h:RepO w ok ρ (.r cs) v):∃ vs:List Value,v = .agg vs.toArray∧vs.length=cs.length∧∀ (j:Nat) (d:D) (u:Value),cs[j]? = some d→vs[j]? = some u→Rep1 w ok ρ d u:=by
 cases h with
 | one h=>cases h with
  | c h=>cases h with
   | r hl hd=>exact ⟨_,rfl,hl,fun j d u h1 h2 => .c (hd j d u h1 h2)⟩
 | r hl hd=>exact ⟨_,rfl,hl,hd⟩
theorem plainL_eq:∀ {cs:List D} {l vs:List Value},plainL cs=some l→vs.length=cs.length→(∀ (j:Nat) (d:D) (u:Value),cs[j]? = some d→vs[j]? = some u→Rep1 w ok ρ d u)→vs=l
 | [],l,vs,h,hl,_=>by
  simp only [plainL,Option.some.injEq] at h
  subst h
  exact List.eq_nil_of_length_eq_zero hl
 | d::r,l,vs,h,hl,hd=>by
  cases vs with
  | nil=>simp at hl
  | cons u us =>
   cases d with
   | v x =>
    simp only [plainL] at h
    obtain ⟨l',h1,rfl⟩:=Option.map_eq_some_iff.1 h
    have e:=rep1_v (hd 0 _ u rfl rfl)
    have:=plainL_eq (cs:=r) (vs:=us) h1 (by simpa using hl) fun j d u h1 h2=>hd (j+1) d u h1 h2
    rw [e,this]
   | _=>simp [plainL] at h
theorem toV_eq {d:D} {x v:Value} (h:d.toV=some x) (hr:RepO w ok ρ d v):v=x:=by
 cases d with
 | v y =>
  simp only [D.toV,Option.some.injEq] at h
  rw [← h]
  exact repO_v hr
 | r cs =>
  simp only [D.toV] at h
  obtain ⟨l,h1,rfl⟩:=Option.map_eq_some_iff.1 h
  obtain ⟨vs,rfl,hl,hd⟩:=repO_r hr
  rw [plainL_eq h1 hl hd]
 | _=>simp [D.toV] at h
theorem rep_vs (l:List Value):∀ (j:Nat) (d:D) (u:Value),(l.map D.v)[j]? = some d→l[j]? = some u→RepC w ok d u:=by
 intro j d u h1 h2
 rw [List.getElem?_map,h2] at h1
 simp only [Option.map_some,Option.some.injEq] at h1
 subst h1
 exact .v u
theorem ofV1_rep (x:Value):RepC w ok (D.ofV1 x) x:=by
 unfold D.ofV1
 split
 ·rename_i cs
  have:=RepC.r (w:=w) (ok:=ok) (cs:=cs.toList.map D.v) (vs:=cs.toList) (by simp) (rep_vs _)
  simpa using this
 ·exact .v _
theorem ofV_rep (x:Value):RepC w ok (D.ofV x) x:=by
 unfold D.ofV
 split
 ·rename_i cs
  have:=RepC.r (w:=w) (ok:=ok) (cs:=cs.toList.map D.v) (vs:=cs.toList) (by simp) (rep_vs _)
  simpa using this
 ·rename_i vs
  have:=RepC.t (w:=w) (ok:=ok) (cs:=vs.toList.map D.ofV1) (vs:=vs.toList) (by simp) (fun j d u h1 h2=>by
   rw [List.getElem?_map,h2] at h1
   simp only [Option.map_some,Option.some.injEq] at h1
   subst h1
   exact ofV1_rep u)
  simpa using this
 ·exact .v _
theorem plainV_eval (hI:Inv κ B ρ s N a w) {x:Operand} {v:Value} (h:plainV s A x=some v) (hp:PT a A):a.eval x=v:=by
 obtain ⟨d,h1,h2⟩:=Option.bind_eq_some_iff.1 h
 exact toV_eq h2 (look_rep hI h1 hp)
theorem pureD_run (hI:Inv κ B ρ s N a w) {d:D} {obs:List Obl} {need:List Prop} (h:pureD P w0 s A o=some (d,obs,need)) (hob:∀ q ∈ obs,∀ g u,q.l g u=q.r g u) (hp:PT a A):∃ v,RepO w (okW κ w ρ) ρ d v∧∀ u,(execOp a.eval o).run P u = .ok (.value v) u:=by
 unfold pureD at h
 split at h
 ·cases h
 ·rename_i l hl
  split at h
  ·rename_i hall
   split at h
   ·rename_i v _ hv
    simp only [Option.some.injEq,Prod.mk.injEq] at h
    obtain ⟨rfl,rfl,rfl⟩:=h
    refine ⟨v,.one (.c (ofV_rep v)),fun u => ?_⟩
    have:=hob _ (List.mem_singleton.2 rfl) 0 u
    rw [Ev.execOp_congr hl (ρ₂:=fun x=>(plainV s A x).getD undef)]
    ·exact this
    ·intro x hx
     obtain ⟨y,hy⟩:=Option.isSome_iff_exists.1 (List.all_eq_true.1 hall x hx)
     rw [hy]
     exact plainV_eval hI hy hp
   ·cases h
  ·cases h
theorem cut_rep {t:TypeId} {cs:List D} {vs:List Value} {o:Nat} {d:D} (hl:vs.length=cs.length) (hd:∀ (j:Nat) (d:D) (u:Value),cs[j]? = some d→vs[j]? = some u→Rep1 w ok ρ d u) (h:cut P t cs o=some d) :
  ∃ v,RepO w ok ρ d v∧(((P.underlying t).map (·.isRow)=some false∧vs[o]? = some v)∨∃ n,(P.underlying t).map (·.isRow)=some true∧szOf P t=some n∧o+n≤vs.length∧v = .agg ((vs.drop o).take n).toArray):=by
 unfold cut at h
 split at h
 ·rename_i hr
  have hlt:o<vs.length:=by rw [hl]; exact (List.getElem?_eq_some_iff.1 h).1
  exact ⟨vs[o],.one (hd o d _ h (List.getElem?_eq_getElem hlt)),.inl ⟨hr,List.getElem?_eq_getElem hlt⟩⟩
 ·rename_i hr
  split at h
  ·rename_i n hn
   split at h
   ·rename_i hle
    injection h with h
    subst h
    have hle':=of_decide_eq_true hle
    refine ⟨.agg ((vs.drop o).take n).toArray,.r (by simp [hl]) fun j d u h1 h2 => ?_,.inr ⟨n,hr,hn,by omega,rfl⟩⟩
    rw [List.getElem?_take] at h1 h2
    split at h1
    ·rename_i hj
     rw [if_pos hj] at h2
     rw [List.getElem?_drop] at h1 h2
     exact hd _ d u h1 h2
    ·cases h1
   ·cases h
  ·cases h
 ·cases h
theorem cut_load {t:TypeId} {cs:List D} {vs:List Value} {b k o:Nat} {d:D} (hl:vs.length=cs.length) (hd:∀ (j:Nat) (d:D) (u:Value),cs[j]? = some d→vs[j]? = some u→Rep1 w ok ρ d u) (h:cut P t cs o=some d) :
  ∃ v,RepO w ok ρ d v∧∀ u:World,(∀ (j:Nat) (v:Value),vs[j]? = some v→u.cell? ⟨b,k+j,none⟩=some v)→(Instr.loadAt t (.pointer (some ⟨b,k+o,none⟩))).run P u = .ok v u:=by
 obtain ⟨v,hr,⟨h1,h2⟩|⟨n,h1,h2,h3,rfl⟩⟩:=cut_rep hl hd h
 ·exact ⟨v,hr,fun u hv=>isRow_false h1 (hv o v h2)⟩
 ·obtain ⟨y,hu,hy⟩:=Option.map_eq_some_iff.1 h1
  refine ⟨_,hr,fun u hv=>run_loadAt_mid u b (k+o) t ((vs.drop o).take n) y ?_ hu hy ?_⟩
  ·intro j v hj
   rw [List.getElem?_take] at hj
   split at hj
   ·rw [List.getElem?_drop] at hj
    have:=hv (o+j) v hj
    rwa [← Nat.add_assoc] at this
   ·cases hj
  ·show szOf P t=_
   rw [h2,List.length_take,List.length_drop]
   congr 1
   omega
theorem cut_part {t:TypeId} {cs:List D} {vs:List Value} {o:Nat} {d:D} (hl:vs.length=cs.length) (hd:∀ (j:Nat) (d:D) (u:Value),cs[j]? = some d→vs[j]? = some u→Rep1 w ok ρ d u) (h:cut P t cs o=some d) :
  ∃ v,RepO w ok ρ d v∧∀ u,(part t vs.toArray o).run P u = .ok v u:=by
 obtain ⟨v,hr,⟨h1,h2⟩|⟨n,h1,h2,h3,rfl⟩⟩:=cut_rep hl hd h
 ·obtain ⟨y,hu,hy⟩:=Option.map_eq_some_iff.1 h1
  have hagg:∀ u,(isAgg t).run P u = .ok false u:=by
   intro u
   unfold isAgg
   rw [Sem.run_bind,run_underlying hu u]
   cases y <;> simp_all
  refine ⟨v,hr,fun u => ?_⟩
  have h2':vs.toArray[o]? = some v:=by simpa using h2
  unfold part
  simp [hagg,h2]
 ·obtain ⟨y,hu,hy⟩:=Option.map_eq_some_iff.1 h1
  have hagg:∀ u,(isAgg t).run P u = .ok true u:=by
   intro u
   unfold isAgg
   rw [Sem.run_bind,run_underlying hu u]
   cases y <;> simp_all
  obtain ⟨ti,hi,rfl⟩:=Option.map_eq_some_iff.1 h2
  refine ⟨_,hr,fun u => ?_⟩
  unfold part
  simp [hagg,sizeOf,typeInfo,hi]
theorem addrD_run {k:Nat} {d r:D} {v:Value} (hr:RepO w ok ρ d v) (h:addrD P k d=some r):∃ b off,v = .pointer (some ⟨b,off,none⟩)∧RepO w ok ρ r (.pointer (some ⟨b,off+k,none⟩)):=by
 cases d with
 | p b z i o =>
  simp only [addrD,Option.some.injEq] at h
  subst h
  cases hr with
  | one hr=>cases hr with
   | c hr=>cases hr
   | p hr=>exact ⟨_,_,rfl,.one (by have:=Rep1.p (w:=w) (ok:=ok) (z:=z) (i:=i) (o:=o+k) hr; rwa [← Nat.add_assoc] at this)⟩
 | q cs o =>
  simp only [addrD,Option.some.injEq] at h
  subst h
  cases hr with
  | one hr=>cases hr with
   | c hr=>cases hr with
    | q vals hb hv hd=>exact ⟨_,_,rfl,.one (.c (by have:=RepC.q (o:=o+k) vals hb hv hd; rwa [← Nat.add_assoc] at this))⟩
 | _=>simp [addrD] at h
theorem run_fieldAt {t:TypeId} {i:Nat} {f:Field} (hf:fieldOf P t i=some f) {k:Nat} (hz:szOf P f.type=some (k+1)) (b off:Nat):(Instr.fieldAt t (.pointer (some ⟨b,off,none⟩)) i).run P w = .ok (.pointer (some ⟨b,off+f.offset,none⟩)) w:=by
 unfold fieldOf at hf
 split at hf
 ·rename_i fs hu
  obtain ⟨ti,h1,h2⟩:=Option.map_eq_some_iff.1 hz
  simp [Instr.fieldAt,run_underlying hu,hf,Instr.sureAddr,fieldPlace,sizeOf,typeInfo,h1,h2,Addr.add_mid]
 ·cases hf
theorem loadD_run (hI:Inv κ B ρ s N a w) {t:TypeId} {d r:D} {need:List Prop} {v:Value} (hr:RepO w (okW κ w ρ) ρ d v) (h:loadD P s t d=some (r,need)) (hn:∀ p ∈ need,p):∃ x,RepO w (okW κ w ρ) ρ r x∧∀ u:World,(∀ k,okW κ w ρ k→u.heap[k]? = w.heap[k]?)→(∀ b z i o g c,d = .p b z i o → ρ[b]? = some (some (g,c))→u.heap[g]? = w.heap[g]?)→(Instr.loadAt t v).run P u = .ok x u:=by
 cases d with
 | q cs o =>
  simp only [loadD] at h
  obtain ⟨d',h1,e⟩:=Option.map_eq_some_iff.1 h
  injection e with e1 e2
  subst e1
  cases hr with
  | one hr=>cases hr with
   | c hr=>cases hr with
    | q vals hb hv hd =>
     rename_i b off
     have hdd:∀ (j:Nat) (d:D) (u:Value),cs[j]? = some d→((List.range cs.length).map vals)[j]? = some u→Rep1 w (okW κ w ρ) ρ d u:=by
      intro j d u h2 h3
      rw [List.getElem?_map] at h3
      obtain ⟨j',hj',rfl⟩:=Option.map_eq_some_iff.1 h3
      obtain ⟨_,h4⟩:=List.getElem?_eq_some_iff.1 hj'
      rw [List.getElem_range] at h4
      subst h4
      exact .c (hd j d h2)
     obtain ⟨x,q1,q2⟩:=cut_load (P:=P) (w:=w) (ok:=okW κ w ρ) (ρ := ρ) (b:=b) (k:=off) (vs:=(List.range cs.length).map vals) (by simp) hdd h1
     refine ⟨x,q1,fun u hu1 _=>q2 u ?_⟩
     intro j u' hj
     rw [List.getElem?_map] at hj
     obtain ⟨j',hj',rfl⟩:=Option.map_eq_some_iff.1 hj
     have h2:=List.getElem?_eq_some_iff.1 hj'
     obtain ⟨h3,h4⟩:=h2
     rw [List.getElem_range] at h4
     subst h4
     exact (World.cell?_of_block (hu1 _ hb)).trans (hv j (by simpa using h3))
 | p b z i o =>
  simp only [loadD] at h
  split at h
  ·rename_i T cs hm
   split at h
   ·rename_i hi
    obtain ⟨d',h1,e⟩:=Option.map_eq_some_iff.1 h
    injection e with e1 e2
    subst e1
    obtain rfl:i=0:=by simpa using hi
    obtain ⟨g,vs,g1,g2,g3,g4⟩:=hI.mem b _ hm
    cases hr with
    | one hr=>cases hr with
     | c hr=>cases hr
     | p hr =>
      rw [g1] at hr
      injection hr with hr
      injection hr with hr
      injection hr with e1 e2
      subst e1
      obtain ⟨x,k1,k2⟩:=cut_load (b:=g) (vs:=vs) (k:=0*z) g3 g4 h1
      refine ⟨x,k1,fun u hu1 hu2=>k2 u ?_⟩
      intro j u' hj
      have g2':=(hu2 b z 0 o g _ rfl g1).trans g2
      rw [Nat.zero_mul,Nat.zero_add,cell_of_row u _ j vs.toArray T (0,0) g2']
      simpa using hj
   ·cases h
  ·rename_i T z' n f hm
   split at h
   ·rename_i hz
    obtain ⟨d',h1,e⟩:=Option.map_eq_some_iff.1 h
    injection e with e1 e2
    subst e1 e2
    obtain rfl:z=z':=by simpa using hz
    rcases hI.mem b _ hm with ⟨_,rfl⟩|⟨g,c,cur,g1,g2,g3,g4,g5,g6⟩
    ·exact absurd (hn _ (List.mem_singleton.2 rfl)) (Nat.not_lt_zero _)
    ·cases hr with
     | one hr=>cases hr with
      | c hr=>cases hr
      | p hr =>
       rw [g1] at hr
       injection hr with hr
       injection hr with hr
       injection hr with e1 e2
       subst e1
       have hin:=hn _ (List.mem_singleton.2 rfl)
       obtain ⟨q1,q2,q3⟩:=g6 i hin
       have hic:(i+1)*z≤c*z:=Nat.mul_le_mul_right _ oM
       rw [Nat.add_mul,Nat.one_mul] at hic
       have hdd:∀ (j:Nat) (d:D) (u:Value),(f i)[j]? = some d→((cur.toList.drop (i*z)).take z)[j]? = some u→Rep1 w (okW κ w ρ) ρ d u:=by
        intro j d u h2 h3
        rw [List.getElem?_take] at h3
        split at h3
        ·rw [List.getElem?_drop] at h3
         obtain ⟨v',k1,k2⟩:=q3 j d h2
         have:u=v':=by
          have h4:cur[i*z+j]? = some u:=by simpa using h3
          rw [k1] at h4
          injection h4 with h4
          exact h4.symm
         rw [this]
         exact .c k2
        ·cases h3
       obtain ⟨x,r1,r2⟩:=cut_load (P:=P) (w:=w) (ok:=okW κ w ρ) (ρ := ρ) (b:=g) (k:=i*z) (vs:=(cur.toList.drop (i*z)).take z) (by simp [q1]; omega) hdd h1
       refine ⟨x,r1,fun u hu1 hu2=>r2 u ?_⟩
       have g2':=(hu2 b z i o g _ rfl g1).trans g2
       intro j u' hj
       rw [List.getElem?_take] at hj
       split at hj
       ·rw [List.getElem?_drop] at hj
        rw [cell_of_row u _ _ cur T (0,0) g2']
        simpa using hj
       ·cases hj
   ·cases h
  ·cases h
 | _=>simp [loadD] at h
theorem run_idx {t e:TypeId} (hu:P.underlying t=some (.slice e)) {z:Nat} (hz:szOf P e=some z) (b off n c:Nat) (k:IntKind) (i:Int) (hi:0≤i∧i<(n:Int)):(Instr.indexAt t (.slice (some ⟨b,off,none⟩) n c) (.int k i)).run P w = .ok (.pointer (some ⟨b,off+i.toNat*z,none⟩)) w:=by
 have he:P.elem t=e:=by unfold Program.elem; rw [hu]
 have hu':P.underlying t=some (.slice (P.elem t)):=by rw [he]; exact hu
 obtain ⟨ti,h1,h2⟩:=Option.map_eq_some_iff.1 hz
 rw [run_indexAt_slice (P:=P) (w:=w) t _ _ _ _ _ hu',he,if_pos hi]
 simp [sizeOf,typeInfo,h1,h2,Result.andThen,Addr.add_mid]
theorem run_idxA {t e:TypeId} {n:Nat} (hu:P.underlying t=some (.array n e)) {z:Nat} (hz:szOf P e=some z) (b off:Nat) (k:IntKind) (i:Int) (hi:0≤i∧i<(n:Int)):(Instr.indexAt t (.pointer (some ⟨b,off,none⟩)) (.int k i)).run P w = .ok (.pointer (some ⟨b,off+i.toNat*z,none⟩)) w:=by
 obtain ⟨ti,h1,h2⟩:=Option.map_eq_some_iff.1 hz
 simp [Instr.indexAt,asIntOf,run_underlying hu,Instr.sureAddr,hi.1,hi.2,sizeOf,typeInfo,h1,h2,Addr.add_mid]
theorem indexD_run (hI:Inv κ B ρ s N a w) {t:TypeId} {d r:D} {need:List Prop} {v:Value} {k:IntKind} {i:Int} (hr:RepO w (okW κ w ρ) ρ d v) (h:indexD P s t d k i=some (r,need)) (hn:∀ p ∈ need,p):∃ x,RepO w (okW κ w ρ) ρ r x∧∀ u,(Instr.indexAt t v (.int k i)).run P u = .ok x u:=by
  unfold indexD at h
  split at h
  · rename_i e n z f hu
    split at h
    · rename_i hz
      injection h with h
      injection h with h1 h2
      subst h1 h2
      have hn:=hn _ (List.mem_singleton.2 rfl)
      have hz':szOf P e=some z:=by simpa using hz
      cases hr with
      | one hr=>cases hr with
        | c hr=>cases hr with
          | s0 z f a c ha hc=>omega
          | s vals hb hc hm hq hv hd =>
            refine ⟨_,.one (.c ?_),fun u=>run_idx hu hz' _ _ _ _ k i hn⟩
            refine RepC.q (o:=0) (fun j=>vals i.toNat j) hb (fun j hj => ?_) fun j d hj=>hd i.toNat j d oM hj
            have hl:=(hq i.toNat oM).1
            have:=hv i.toNat j oM oM
            rwa [← Nat.add_assoc] at this
    · cases h
  · rename_i e b n hu
    split at h
    · rename_i T z m f hm
      split at h
      · rename_i hz
        injection h with h
        injection h with h1 h2
        subst h1 h2
        have hn:=hn _ (List.mem_singleton.2 rfl)
        have hz':szOf P e=some z:=by simpa using hz
        cases hr with
        | one hr=>cases hr with
          | c hr=>cases hr
          | h hr hc =>
            refine ⟨_,.one ?_,fun u=>run_idx hu hz' _ _ _ _ k i hn⟩
            have:=Rep1.p (w:=w) (ok:=okW κ w ρ) (z:=z) (i:=i.toNat) (o:=0) hr
            rwa [Nat.add_zero,← Nat.zero_add (i.toNat*z)] at this
          | h0 hr=>omega
      · cases h
    · cases h
  · rename_i e b z o n hu
    split at h
    · rename_i T z' m f hm
      split at h
      · rename_i hz
        simp only [Bool.and_eq_true,beq_iff_eq] at hz
        injection h with h
        injection h with h1 h2
        subst h1 h2
        have hn:=hn _ (List.mem_singleton.2 rfl)
        have hz':szOf P e=some z:=hz.1
        cases hr with
        | one hr=>cases hr with
          | c hr=>cases hr
          | m hr hk hc ho =>
            rename_i g c off k'
            refine ⟨_,.one ?_,fun u=>run_idx hu hz' _ _ _ _ k i hn⟩
            have:=Rep1.p (w:=w) (ok:=okW κ w ρ) (z:=z) (i:=o+i.toNat) (o:=0) hr
            have ho':=ho oM
            rw [Nat.add_zero,Nat.add_mul] at this
            rw [ho']
            exact this
          | m0 hr=>omega
      · cases h
    · cases h
  · rename_i n e hu
    split at h
    · rename_i z hz
      split at h
      · rename_i b hb
        injection h with h
        injection h with h1 h2
        subst h1 h2
        have hn:=hn _ (List.mem_singleton.2 rfl)
        unfold asRowP at hb
        split at hb
        · rename_i b1 z1 i1 o1
          split at hb
          · rename_i hio
            simp only [Bool.and_eq_true,beq_iff_eq] at hio
            obtain ⟨rfl,rfl⟩:=hio
            split at hb
            · split at hb
              · injection hb with hb
                subst hb
                cases hr with
                | one hr=>cases hr with
                  | c hr=>cases hr
                  | p hr =>
                    refine ⟨_,.one ?_,fun u=>run_idxA hu hz _ _ k i hn⟩
                    have h5:=Rep1.p (w:=w) (ok:=okW κ w ρ) (z:=z) (i:=i.toNat) (o:=0) hr
                    have e5:0*z1+0+i.toNat*z=i.toNat*z+0:=by omega
                    rw [e5]
                    exact h5
              · cases hb
            · cases hb
          · cases hb
        · cases hb
      obtain ⟨r',h1,e'⟩:=Option.map_eq_some_iff.1 h
      injection e' with e1 e2
      subst e1 e2
      obtain ⟨b,off,rfl,h3⟩:=addrD_run hr h1
      exact ⟨_,h3,fun u=>run_idxA hu hz b off k i (hn _ (List.mem_singleton.2 rfl))⟩
    · cases h
  · cases h
theorem eqIn_nil {t:TypeId} {ms:Array (String×TypeId)} (hu:P.underlying t=some (.interface ms)) (t':TypeId) (v:Value) (u:World) (d:Nat):(Op.equalIn (d+1) t (.iface t' v) .nilIface).run P u = .ok false u:=by
 unfold Op.equalIn
 rw [Sem.run_bind,run_underlying hu u,Result.andThen_ok]
 rfl
theorem run_nil_eql {t:TypeId} {ms:Array (String×TypeId)} (hu:P.underlying t=some (.interface ms)) (t':TypeId) (v:Value) (x y:Operand) (u:World):(do eqGuard .eql t x y (.iface t' v) .nilIface; binOp .eql t (.iface t' v) .nilIface:Sem Value).run P u = .ok (.bool false) u:=by
 have he:(Op.equal t (.iface t' v) .nilIface).run P u = .ok false u:=eqIn_nil hu t' v u 9999
 simp [eqGuard,binOp,he]
theorem run_nil_neq {t:TypeId} {ms:Array (String×TypeId)} (hu:P.underlying t=some (.interface ms)) (t':TypeId) (v:Value) (x y:Operand) (u:World):(do eqGuard .neq t x y (.iface t' v) .nilIface; binOp .neq t (.iface t' v) .nilIface:Sem Value).run P u = .ok (.bool true) u:=by
 have he:(Op.equal t (.iface t' v) .nilIface).run P u = .ok false u:=eqIn_nil hu t' v u 9999
 simp [eqGuard,binOp,he]
theorem lookI_eval (hI:Inv κ B ρ s N a w) (hp:PT a A) {x:Option Operand} {i:Option Int} (h:lookI s A x=some i):x.map a.eval=i.map fun n=>Value.int .i64 n:=by
 cases x with
 | none =>
  simp only [lookI,Option.some.injEq] at h
  subst h
  rfl
 | some y =>
  simp only [lookI] at h
  split at h
  ·rename_i n hy
   injection h with h
   subst h
   simp only [Option.map_some]
   rw [repO_v (look_rep hI hy hp)]
  ·cases h
def cutB (a:Option Addr) (c l z:Nat):Option Addr:=if c=l then a else a.map (·.add (l*z))
theorem run_sl {t e:TypeId} (ht:P.underlying t=some (.slice e)) {z:Nat} (hz:szOf P e=some z) (a:Option Addr) (n c:Nat) (hnc:n≤c) (l h:Option Int) (hlh:∀ p ∈ (sliceD n z (fun _=>[]) l h).2,p) (u:World) :
  (Instr.sliceAt t (.slice a n c) (l.map fun n=>Value.int .i64 n) (h.map fun n=>Value.int .i64 n) none).run P u = .ok (.slice (cutB a c (l.getD 0).toNat z) ((h.getD n).toNat-(l.getD 0).toNat) (c-(l.getD 0).toNat)) u:=by
 have he:P.elem t=e:=by unfold Program.elem; rw [ht]
 have ht':P.underlying t=some (.slice (P.elem t)):=by rw [he]; exact ht
 obtain ⟨ti,h1,h2⟩:=Option.map_eq_some_iff.1 hz
 cases l with
 | none=>cases h with
  | none =>
   rw [Option.map_none,run_sliceAt_slice (P:=P) (w:=u) t _ _ _ _ ht']
   simp [Instr.slice,run_underlying ht,Instr.sliceBounds,sizeOf,typeInfo,h1,h2,cutB]
  | some h =>
   have:=hlh _ (List.mem_singleton.2 rfl)
   rw [Option.map_none,Option.map_some,run_sliceAt_slice (P:=P) (w:=u) t _ _ _ _ ht',run_slice_h u t a n c ht' _ _ oM oM,he]
   simp [sizeOf,typeInfo,h1,h2,Result.andThen,sliced,cutB]
 | some l=>cases h with
  | none =>
   have:=hlh _ (List.mem_singleton.2 rfl)
   rw [Option.map_none,Option.map_some,run_sliceAt_slice (P:=P) (w:=u) t _ _ _ _ ht',run_slice_l u t a n c ht' _ _ oM oM,he]
   simp [sizeOf,typeInfo,h1,h2,Result.andThen,sliced,cutB]
  | some h =>
   have:=hlh _ (List.mem_singleton.2 rfl)
   rw [Option.map_some,Option.map_some,run_sliceAt_slice (P:=P) (w:=u) t _ _ _ _ ht',run_slice_lh u t a n c ht' _ _ _ _ oM oM oM,he]
   simp [sizeOf,typeInfo,h1,h2,Result.andThen,sliced,cutB]
theorem cut_s {n z c:Nat} {f:Nat→List D} {a:Option Addr} (hr:RepC w ok (.s n z f) (.slice a n c)) {l h:Nat} (hl:l≤h) (hh:h≤n):RepC w ok (.s (h-l) z fun k=>f (l+k)) (.slice (cutB a c l z) (h-l) (c-l)):=by
 have aux:∀ {m:Nat} {v:Value},RepC w ok (.s m z f) v→∀ a c,v = .slice a m c→l≤h→h≤m→RepC w ok (.s (h-l) z fun k=>f (l+k)) (.slice (cutB a c l z) (h-l) (c-l)):=by
  intro m v hr a c hv hl hh
  cases hr with
  | s0 z f a' c' ha hc =>
   injection hv with e1 e2 e3
   subst e1 e3
   obtain rfl:l=0:=by omega
   obtain rfl:h=0:=by omega
   refine .s0 _ _ _ _ (fun e => ?_) oM
   have:a'=none:=by
    unfold cutB at e
    split at e
    ·exact e
    ·simpa using e
   rw [ha this]
  | s vals hb hn hc hz hv' hd =>
   rename_i b off c'
   injection hv with e1 e2 e3
   subst e1 e3
   by_cases hlh:h=l
   ·subst hlh
    rw [Nat.sub_self]
    refine .s0 _ _ _ _ (fun e => ?_) oM
    unfold cutB at e
    split at e
    ·cases e
    ·simp at e
   ·have e:cutB (some ⟨b,off,none⟩) c' l z=some ⟨b,off+l*z,none⟩:=by
     unfold cutB
     rw [if_neg oM]
     simp [Addr.add_mid]
    rw [e]
    refine .s (fun i j=>vals (l+i) j) hb oM oM (fun i hi=>hz (l+i) oM) (fun i j hi hj => ?_) (fun i j d hi hj=>hd (l+i) j d oM hj)
    have:=hv' (l+i) j oM hj
    rw [Nat.add_mul] at this
    rw [← this]
    congr 2
    omega
 exact aux hr a c rfl hl hh
def seesB (s:St) (A:List (Nat×Bool)) (o:Oper) (b:Nat):Bool:=match o.op with
 | .load _ x=>match s.look A x with
  | some (.p b' _ _ _)=>b' == b
  | _=>false
 | _=>false
theorem valD_runU (hI:Inv κ B ρ s N a w) {d:D} {obs:List Obl} {need:List Prop} (h:valD P w0 s A o=some (d,obs,need)) (hob:∀ q ∈ obs,∀ g u,q.l g u=q.r g u) (hn:∀ p ∈ need,p) (hp:PT a A):∃ v,RepO w (okW κ w ρ) ρ d v∧∀ u:World,(∀ k,okW κ w ρ k→u.heap[k]? = w.heap[k]?)→(∀ b g c,seesB s A o b=true → ρ[b]? = some (some (g,c))→u.heap[g]? = w.heap[g]?)→(execOp a.eval o).run P u = .ok (.value v) u:=by
 have pure_:∀ {d:D} {obs:List Obl} {need:List Prop},pureD P w0 s A o=some (d,obs,need)→(∀ q ∈ obs,∀ g u,q.l g u=q.r g u)→∃ v,RepO w (okW κ w ρ) ρ d v∧∀ u:World,(∀ k,okW κ w ρ k→u.heap[k]? = w.heap[k]?)→(∀ b g c,seesB s A o b=true → ρ[b]? = some (some (g,c))→u.heap[g]? = w.heap[g]?)→(execOp a.eval o).run P u = .ok (.value v) u:=fun h hob=>by
  obtain ⟨v,h1,h2⟩:=pureD_run hI h hob hp
  exact ⟨v,h1,fun u _ _=>h2 u⟩
 unfold valD at h
 split at h
 ·rename_i x hop
  obtain ⟨d',hx,e⟩:=Option.map_eq_some_iff.1 h
  injection e with e1 e2
  subst e1
  refine ⟨_,look_rep hI hx hp,fun u _ _ => ?_⟩
  unfold execOp
  rw [hop]
  rfl
 ·rename_i x hop
  obtain ⟨d',hx,e⟩:=Option.map_eq_some_iff.1 h
  injection e with e1 e2
  subst e1
  refine ⟨_,look_rep hI hx hp,fun u _ _ => ?_⟩
  unfold execOp
  rw [hop]
  rfl
 ·rename_i c x y hop
  split at h
  ·rename_i b p q hc hx hy
   simp only [Option.some.injEq,Prod.mk.injEq] at h
   obtain ⟨rfl,rfl,rfl⟩:=h
   have ec:a.eval (.tmp c) = .bool b:=repO_v (look_rep hI hc hp)
   have hpk:pickB x y b p q=(if b=true then p else q):=by
    unfold pickB
    split
    ·have:p=true:=by
      simp only [St.look,Option.some.injEq,D.v.injEq,Value.bool.injEq] at hx
      exact hx.symm
     subst this
     cases b <;> rfl
    ·have:q=false:=by
      simp only [St.look,Option.some.injEq,D.v.injEq,Value.bool.injEq] at hy
      exact hy.symm
     subst this
     cases b <;> simp
    ·cases b <;> rfl
   refine ⟨.bool (pickB x y b p q),.one (.c (.v _)),fun u _ _ => ?_⟩
   unfold execOp
   rw [hop,hpk]
   cases b with
   | true =>
    have ex:=repO_v (look_rep hI hx (fun z hz=>by rcases List.mem_cons.1 hz with rfl|hz; exact ec; exact hp z hz))
    simp [ec,ex,asBool]
   | false =>
    have ey:=repO_v (look_rep hI hy (fun z hz=>by rcases List.mem_cons.1 hz with rfl|hz; exact ec; exact hp z hz))
    simp [ec,ey,asBool]
  ·cases h
 ·rename_i t x i hop
  split at h
  ·rename_i d0 f hx hf
   split at h
   ·rename_i k hz
    obtain ⟨r,h1,e⟩:=Option.map_eq_some_iff.1 h
    injection e with e1 e2
    subst e1
    obtain ⟨b,off,ev,h3⟩:=addrD_run (look_rep hI hx hp) h1
    refine ⟨_,h3,fun u _ _ => ?_⟩
    unfold execOp
    rw [hop]
    simp only [ev,Sem.run_bind,run_fieldAt hf hz,Result.andThen_ok,Sem.run_pure]
   ·cases h
  ·cases h
 ·rename_i t x hop
  split at h
  ·rename_i d0 hx
   obtain ⟨r,h1,e⟩:=Option.map_eq_some_iff.1 h
   simp only [Prod.mk.injEq] at e
   obtain ⟨rfl,rfl,rfl⟩:=e
   obtain ⟨x',h3,h4⟩:=loadD_run hI (look_rep hI hx hp) h1 hn
   refine ⟨x',h3,fun u hu1 hu2 => ?_⟩
   have h5:=h4 u hu1 fun b z i k g c e hg=>hu2 b g c (by unfold seesB; rw [hop]; simp only; rw [hx,e]; simp) hg
   unfold execOp
   rw [hop]
   simp only [Sem.run_bind,h5,Result.andThen_ok,Sem.run_pure]
  ·cases h
 ·rename_i x hop
  have hptr:∀ b off u,a.eval x = .pointer (some ⟨b,off,none⟩)→(execOp a.eval o).run P u = .ok (.value (a.eval x)) u:=by
   intro b off u e
   unfold execOp
   rw [hop]
   simp only [e]
   rfl
  split at h
  ·rename_i b z i k hx
   simp only [Option.some.injEq,Prod.mk.injEq] at h
   obtain ⟨rfl,rfl,rfl⟩:=h
   have hr:=look_rep hI hx hp
   obtain ⟨b',off',e',_⟩:=addrD_run (P:=P) (k:=0) hr rfl
   exact ⟨_,hr,fun u _ _=>hptr _ _ u e'⟩
  ·rename_i cs k hx
   simp only [Option.some.injEq,Prod.mk.injEq] at h
   obtain ⟨rfl,rfl,rfl⟩:=h
   have hr:=look_rep hI hx hp
   obtain ⟨b',off',e',_⟩:=addrD_run (P:=P) (k:=0) hr rfl
   exact ⟨_,hr,fun u _ _=>hptr _ _ u e'⟩
  ·exact pure_ h hob
 ·rename_i t x y hop
  split at h
  ·rename_i d0 k i hx hy
   obtain ⟨r,h1,e⟩:=Option.map_eq_some_iff.1 h
   simp only [Prod.mk.injEq] at e
   obtain ⟨rfl,rfl,rfl⟩:=e
   obtain ⟨x',h4,h3⟩:=indexD_run hI (look_rep hI hx hp) h1 hn
   refine ⟨x',h4,fun u _ _ => ?_⟩
   have ey:=repO_v (look_rep hI hy hp)
   unfold execOp
   rw [hop]
   simp only [ey,Sem.run_bind,h3,Result.andThen_ok,Sem.run_pure]
  ·cases h
 ·rename_i t x i hop
  split at h
  ·rename_i cs f hx hf
   obtain ⟨r,h1,e⟩:=Option.map_eq_some_iff.1 h
   simp only [Prod.mk.injEq] at e
   obtain ⟨rfl,rfl,rfl⟩:=e
   obtain ⟨vs,ev,hl,hd⟩:=repO_r (look_rep hI hx hp)
   obtain ⟨x',h4,h3⟩:=cut_part (P:=P) hl hd h1
   refine ⟨x',h4,fun u _ _ => ?_⟩
   unfold fieldOf at hf
   split at hf
   ·rename_i fs hu
    unfold execOp
    rw [hop]
    simp only [ev,Sem.run_bind,Instr.field,run_underlying hu,hf,asAgg,h3,Result.andThen_ok,Sem.run_pure]
   ·cases hf
  ·cases h
 ·rename_i t x y hop
  split at h
  ·rename_i n e cs k i hu hx hy
   split at h
   ·rename_i z hz
    obtain ⟨r,h1,e'⟩:=Option.map_eq_some_iff.1 h
    simp only [Prod.mk.injEq] at e'
    obtain ⟨rfl,rfl,rfl⟩:=e'
    obtain ⟨vs,ev,hl,hd⟩:=repO_r (look_rep hI hx hp)
    obtain ⟨x',h4,h3⟩:=cut_part (P:=P) hl hd h1
    refine ⟨x',h4,fun u _ _ => ?_⟩
    have ey:=repO_v (look_rep hI hy hp)
    obtain ⟨ti,k1,k2⟩:=Option.map_eq_some_iff.1 hz
    have hn:=hn _ (List.mem_singleton.2 rfl)
    unfold execOp
    rw [hop]
    subst k2
    simp [ev,ey,Instr.index,asIntOf,run_underlying hu,hn.1,hn.2,sizeOf,typeInfo,k1,h3]
   ·cases h
  ·exact pure_ h hob
 ·rename_i x i hop
  split at h
  ·rename_i cs hx
   obtain ⟨r,h1,e'⟩:=Option.map_eq_some_iff.1 h
   simp only [Prod.mk.injEq] at e'
   obtain ⟨rfl,rfl,rfl⟩:=e'
   have hr:=look_rep hI hx hp
   generalize hv:a.eval x=v at hr
   cases hr with
   | one hr=>cases hr with
    | c hr=>cases hr with
     | t hl hd =>
      rename_i vs
      have hlt:i<vs.length:=by rw [hl]; exact (List.getElem?_eq_some_iff.1 h1).1
      refine ⟨vs[i],.one (.c (hd i _ _ h1 (List.getElem?_eq_getElem hlt))),fun u _ _ => ?_⟩
      unfold execOp
      rw [hop]
      simp [hv,Instr.extract,hlt]
  ·exact pure_ h hob
 ·rename_i t x hop
  split at h
  ·rename_i d0 hx
   split at h
   ·exact pure_ h hob
   ·split at h
    ·cases h
    ·rename_i y hni hu
     split at h
     ·rename_i hsh
      simp only [Option.some.injEq,Prod.mk.injEq] at h
      obtain ⟨rfl,rfl,rfl⟩:=h
      have hr:=look_rep hI hx hp
      have hsh1:∀ {vx:Value},RepO w (okW κ w ρ) ρ d0 vx→RepC w (okW κ w ρ) d0 vx:=by
       intro vx hr
       cases hr with
       | one hr=>exact hr.shut hsh
       | r hl hd=>cases hsh
       | k hl hd=>cases hsh
      have hr1:=hsh1 hr
      refine ⟨.iface t (a.eval x),.one (.c (.i hr1)),fun u _ _ => ?_⟩
      unfold execOp
      rw [hop]
      have hmi:(Instr.makeInterface t (a.eval x)).run P u = .ok (.iface t (a.eval x)) u:=by
       unfold Instr.makeInterface
       rw [Sem.run_bind,run_underlying hu u,Result.andThen_ok]
       cases y <;> first|rfl|exact absurd rfl (hni _)
      simp only [Sem.run_bind,hmi,Result.andThen_ok,Sem.run_pure]
     ·cases h
    ·cases h
  ·cases h
 ·rename_i op t x y ty2 hop
  have hif:∀ {t':TypeId} {d:D},s.look A x=some (.i t' d)→∃ v,a.eval x = .iface t' v:=by
   intro t' d hx
   have hr:=look_rep hI hx hp
   generalize a.eval x=vx at hr
   cases hr with
   | one hr=>cases hr with
    | c hr=>cases hr; exact ⟨_,rfl⟩
  split at h
  ·rename_i t' d' ms hx hy hu
   simp only [Option.some.injEq,Prod.mk.injEq] at h
   obtain ⟨rfl,rfl,rfl⟩:=h
   obtain ⟨v,hv⟩:=hif hx
   have hw:=repO_v (look_rep hI hy hp)
   refine ⟨.bool false,.one (.c (.v _)),fun u _ _ => ?_⟩
   unfold execOp
   rw [hop]
   simp only [hv,hw]
   rw [Sem.run_bind,run_nil_eql hu,Result.andThen_ok,Sem.run_pure]
  ·rename_i t' d' ms hx hy hu
   simp only [Option.some.injEq,Prod.mk.injEq] at h
   obtain ⟨rfl,rfl,rfl⟩:=h
   obtain ⟨v,hv⟩:=hif hx
   have hw:=repO_v (look_rep hI hy hp)
   refine ⟨.bool true,.one (.c (.v _)),fun u _ _ => ?_⟩
   unfold execOp
   rw [hop]
   simp only [hv,hw]
   rw [Sem.run_bind,run_nil_neq hu,Result.andThen_ok,Sem.run_pure]
  ·exact pure_ h hob
 ·rename_i t x lo hi hop
  split at h
  ·rename_i e n z f l hh hu hx hlo hhi
   split at h
   ·rename_i hz
    have hz':szOf P e=some z:=by simpa using hz
    simp only [Option.some.injEq,Prod.mk.injEq] at h
    obtain ⟨rfl,rfl,rfl⟩:=h
    have hr:=look_rep hI hx hp
    have el:=lookI_eval hI hp hlo
    have eh:=lookI_eval hI hp hhi
    have hn2:∀ p ∈ (sliceD n z (fun _=>[]) l hh).2,p:=by
     cases l <;> cases hh <;> exact hn
    obtain ⟨a1,c1,hv1,hnc,hrc⟩:∃ a1 c1,a.eval x = .slice a1 n c1∧n≤c1∧RepC w (okW κ w ρ) (.s n z f) (.slice a1 n c1):=by
     generalize a.eval x=vx at hr
     cases hr with
     | one hr=>cases hr with
      | c hr =>
       cases hr with
       | s0 z f a1 c1 ha hc=>exact ⟨a1,c1,rfl,Nat.zero_le _,.s0 _ _ _ _ ha hc⟩
       | s vals hb hn hc hz hv hd=>exact ⟨_,_,rfl,hn,.s vals hb hn hc hz hv hd⟩
    refine ⟨.slice (cutB a1 c1 (l.getD 0).toNat z) ((hh.getD n).toNat-(l.getD 0).toNat) (c1-(l.getD 0).toNat),.one (.c ?_),fun u _ _ => ?_⟩
    ·cases l with
     | none=>cases hh with
      | none =>
       have:=cut_s hrc (l:=0) (h:=n) (Nat.zero_le _) (Nat.le_refl _)
       simpa [sliceD] using this
      | some h1 =>
       have hb:=hn2 _ (List.mem_singleton.2 rfl)
       have:=cut_s hrc (l:=0) (h:=h1.toNat) (Nat.zero_le _) oM
       simpa [sliceD] using this
     | some l1=>cases hh with
      | none =>
       have hb:=hn2 _ (List.mem_singleton.2 rfl)
       have:=cut_s hrc (l:=l1.toNat) (h:=n) oM (Nat.le_refl _)
       simpa [sliceD] using this
      | some h1 =>
       have hb:=hn2 _ (List.mem_singleton.2 rfl)
       have:=cut_s hrc (l:=l1.toNat) (h:=h1.toNat) oM oM
       simpa [sliceD] using this
    ·unfold execOp
     rw [hop]
     simp only [hv1,el,eh,Option.map_none,Sem.run_bind,run_sl hu hz' a1 n c1 hnc l hh hn2 u,Result.andThen_ok,Sem.run_pure]
   ·cases h
  ·rename_i e b n l hh hu hx hlo hhi
   split at h
   ·rename_i T z m f hm
    split at h
    ·rename_i hz
     have hz':szOf P e=some z:=by simpa using hz
     simp only [Option.some.injEq,Prod.mk.injEq] at h
     obtain ⟨rfl,rfl,rfl⟩:=h
     have hr:=look_rep hI hx hp
     have el:=lookI_eval hI hp hlo
     have eh:=lookI_eval hI hp hhi
     have hn2:∀ p ∈ (sliceD n z (fun _=>[]) l hh).2,p:=by
      cases l <;> cases hh <;> exact hn
     have run:∀ a1 c1,n≤c1→a.eval x = .slice a1 n c1→∀ u,(execOp a.eval o).run P u = .ok (.value (.slice (cutB a1 c1 (l.getD 0).toNat z) ((hh.getD n).toNat-(l.getD 0).toNat) (c1-(l.getD 0).toNat))) u:=by
      intro a1 c1 hnc hv1 u
      unfold execOp
      rw [hop]
      simp only [hv1,el,eh,Option.map_none,Sem.run_bind,run_sl hu hz' a1 n c1 hnc l hh hn2 u,Result.andThen_ok,Sem.run_pure]
     generalize hv:a.eval x=vx at hr
     cases hr with
     | one hr=>cases hr with
      | c hr=>cases hr
      | h hr hc =>
       rename_i g c
       refine ⟨_,.one ?_,fun u _ _=>run _ _ hc hv u⟩
       cases l with
       | none=>cases hh with
        | none=>simpa [pieceH,cutB,Addr.add_mid] using Rep1.h (w:=w) (ok:=okW κ w ρ) hr hc
        | some h1 =>
         have hb:=hn2 _ (List.mem_singleton.2 rfl)
         simpa [pieceH,cutB,Addr.add_mid] using Rep1.h (w:=w) (ok:=okW κ w ρ) (n:=h1.toNat) hr oM
       | some l1 =>
        have hb1:0≤l1∧l1≤(n:Int):=by
         cases hh with
         | none=>exact hn2 _ (List.mem_singleton.2 rfl)
         | some h1=>have hb:=hn2 _ (List.mem_singleton.2 rfl); omega
        have key:∀ k',k'≤n-l1.toNat→Rep1 w (okW κ w ρ) ρ (.m b z l1.toNat k') (.slice (cutB (some ⟨g,0,none⟩) c l1.toNat z) k' (c-l1.toNat)):=by
         intro k' hk'
         by_cases hcl:c=l1.toNat
         ·rw [show cutB (some ⟨g,0,none⟩) c l1.toNat z=some ⟨g,0,none⟩ by unfold cutB; rw [if_pos hcl]]
          exact .m hr oM oM (fun h=>by omega)
         ·rw [show cutB (some ⟨g,0,none⟩) c l1.toNat z=some ⟨g,l1.toNat*z,none⟩ by unfold cutB; rw [if_neg hcl]; simp [Addr.add_mid]]
          exact .m hr oM oM (fun h=>rfl)
        cases hh with
        | none=>simpa [pieceH] using key (n-l1.toNat) (Nat.le_refl _)
        | some h1 =>
         have hb:=hn2 _ (List.mem_singleton.2 rfl)
         simpa [pieceH] using key (h1.toNat-l1.toNat) oM
      | h0 hr =>
       refine ⟨_,.one ?_,fun u _ _=>run _ _ (Nat.le_refl _) hv u⟩
       cases l with
       | none=>cases hh with
        | none=>simpa [pieceH,cutB] using Rep1.h0 (w:=w) (ok:=okW κ w ρ) hr
        | some h1 =>
         have hb:=hn2 _ (List.mem_singleton.2 rfl)
         obtain rfl:h1=0:=by omega
         simpa [pieceH,cutB] using Rep1.h0 (w:=w) (ok:=okW κ w ρ) hr
       | some l1=>cases hh with
        | none =>
         have hb:=hn2 _ (List.mem_singleton.2 rfl)
         obtain rfl:l1=0:=by omega
         simpa [pieceH,cutB] using Rep1.m0 (w:=w) (ok:=okW κ w ρ) (z:=z) hr
        | some h1 =>
         have hb:=hn2 _ (List.mem_singleton.2 rfl)
         obtain rfl:l1=0:=by omega
         obtain rfl:h1=0:=by omega
         simpa [pieceH,cutB] using Rep1.m0 (w:=w) (ok:=okW κ w ρ) (z:=z) hr
    ·cases h
   ·cases h
  ·rename_i e b z o1 n l hh hu hx hlo hhi
   split at h
   ·rename_i hz
    have hz':szOf P e=some z:=by simpa using hz
    simp only [Option.some.injEq,Prod.mk.injEq] at h
    obtain ⟨rfl,rfl,rfl⟩:=h
    have hr:=look_rep hI hx hp
    have el:=lookI_eval hI hp hlo
    have eh:=lookI_eval hI hp hhi
    have hn2:∀ p ∈ (sliceD n z (fun _=>[]) l hh).2,p:=by
     cases l <;> cases hh <;> exact hn
    have run:∀ a1 c1,n≤c1→a.eval x = .slice a1 n c1→∀ u,(execOp a.eval o).run P u = .ok (.value (.slice (cutB a1 c1 (l.getD 0).toNat z) ((hh.getD n).toNat-(l.getD 0).toNat) (c1-(l.getD 0).toNat))) u:=by
     intro a1 c1 hnc hv1 u
     unfold execOp
     rw [hop]
     simp only [hv1,el,eh,Option.map_none,Sem.run_bind,run_sl hu hz' a1 n c1 hnc l hh hn2 u,Result.andThen_ok,Sem.run_pure]
    generalize hv:a.eval x=vx at hr
    cases hr with
    | one hr=>cases hr with
     | c hr=>cases hr
     | m hr hk hc ho =>
      rename_i g c off k
      refine ⟨_,.one ?_,fun u _ _=>run _ _ hk hv u⟩
      have key:∀ l1 k',l1+k'≤n→Rep1 w (okW κ w ρ) ρ (.m b z (o1+l1) k') (.slice (cutB (some ⟨g,off,none⟩) k l1 z) k' (k-l1)):=by
       intro l1 k' hk'
       by_cases hcl:k=l1
       ·rw [show cutB (some ⟨g,off,none⟩) k l1 z=some ⟨g,off,none⟩ by unfold cutB; rw [if_pos hcl]]
        exact .m hr oM oM (fun h=>by omega)
       ·rw [show cutB (some ⟨g,off,none⟩) k l1 z=some ⟨g,off+l1*z,none⟩ by unfold cutB; rw [if_neg hcl]; simp [Addr.add_mid]]
        exact .m hr oM oM (fun h=>by rw [ho oM,Nat.add_mul])
      cases l with
      | none=>cases hh with
       | none=>simpa [pieceM,cutB,Addr.add_mid] using key 0 n oM
       | some h1 =>
        have hb:=hn2 _ (List.mem_singleton.2 rfl)
        simpa [pieceM,cutB,Addr.add_mid] using key 0 h1.toNat oM
      | some l1=>cases hh with
       | none =>
        have hb:=hn2 _ (List.mem_singleton.2 rfl)
        simpa [pieceM] using key l1.toNat (n-l1.toNat) oM
       | some h1 =>
        have hb:=hn2 _ (List.mem_singleton.2 rfl)
        simpa [pieceM] using key l1.toNat (h1.toNat-l1.toNat) oM
     | m0 hr =>
      refine ⟨_,.one ?_,fun u _ _=>run _ _ (Nat.le_refl _) hv u⟩
      cases l with
      | none=>cases hh with
       | none=>simpa [pieceM,cutB] using Rep1.m0 (w:=w) (ok:=okW κ w ρ) (z:=z) hr
       | some h1 =>
        have hb:=hn2 _ (List.mem_singleton.2 rfl)
        obtain rfl:h1=0:=by omega
        simpa [pieceM,cutB] using Rep1.m0 (w:=w) (ok:=okW κ w ρ) (z:=z) hr
      | some l1=>cases hh with
       | none =>
        have hb:=hn2 _ (List.mem_singleton.2 rfl)
        obtain rfl:l1=0:=by omega
        simpa [pieceM,cutB] using Rep1.m0 (w:=w) (ok:=okW κ w ρ) (z:=z) hr
       | some h1 =>
        have hb:=hn2 _ (List.mem_singleton.2 rfl)
        obtain rfl:l1=0:=by omega
        obtain rfl:h1=0:=by omega
        simpa [pieceM,cutB] using Rep1.m0 (w:=w) (ok:=okW κ w ρ) (z:=z) hr
   ·cases h
  ·cases h
 ·rename_i c hop
  split at h
  ·rename_i x t hc hargs htys
   have hcall:∀ ad n cp e u,P.underlying t=some (.slice e)→a.eval x = .slice ad n cp→(execOp a.eval o).run P u = .ok (.value (.int .i64 (n:Int))) u:=by
    intro ad n cp e u hu he
    have h1:c.args = #[x]:=by rw [← hargs]
    have h2:c.argTypes = #[t]:=by rw [← htys]
    unfold execOp
    rw [hop]
    simp [resolve,hc,h1,h2,invoke,builtin,Builtin.len_,run_underlying hu,he,goInt]
   split at h
   ·rename_i e n z f hu hx
    simp only [Option.some.injEq,Prod.mk.injEq] at h
    obtain ⟨rfl,rfl,rfl⟩:=h
    have hr:=look_rep hI hx hp
    generalize hv:a.eval x=v at hr
    refine ⟨_,.one (.c (.v _)),fun u _ _ => ?_⟩
    cases hr with
    | one hr=>cases hr with
     | c hr=>cases hr with
      | s0 z f a c ha hc=>exact hcall _ _ _ _ u hu hv
      | s vals hb hcc hm hq hvv hd=>exact hcall _ _ _ _ u hu hv
   ·rename_i e b n hu hx
    simp only [Option.some.injEq,Prod.mk.injEq] at h
    obtain ⟨rfl,rfl,rfl⟩:=h
    have hr:=look_rep hI hx hp
    generalize hv:a.eval x=v at hr
    refine ⟨_,.one (.c (.v _)),fun u _ _ => ?_⟩
    cases hr with
    | one hr=>cases hr with
     | c hr=>cases hr
     | h hr hcc=>exact hcall _ _ _ _ u hu hv
     | h0 hr=>exact hcall _ _ _ _ u hu hv
   ·rename_i e b z1 o1 n hu hx
    simp only [Option.some.injEq,Prod.mk.injEq] at h
    obtain ⟨rfl,rfl,rfl⟩:=h
    have hr:=look_rep hI hx hp
    generalize hv:a.eval x=v at hr
    refine ⟨_,.one (.c (.v _)),fun u _ _ => ?_⟩
    cases hr with
    | one hr=>cases hr with
     | c hr=>cases hr
     | m hr hk hc ho=>exact hcall _ _ _ _ u hu hv
     | m0 hr=>exact hcall _ _ _ _ u hu hv
   ·exact pure_ h hob
  ·exact pure_ h hob
 ·exact pure_ h hob
theorem valD_run (hI:Inv κ B ρ s N a w) {d:D} {obs:List Obl} {need:List Prop} (h:valD P w0 s A o=some (d,obs,need)) (hob:∀ q ∈ obs,∀ g u,q.l g u=q.r g u) (hn:∀ p ∈ need,p) (hp:PT a A):∃ v,(execOp a.eval o).run P w = .ok (.value v) w∧RepO w (okW κ w ρ) ρ d v:=by
 obtain ⟨v,h1,h2⟩:=valD_runU hI h hob hn hp
 exact ⟨v,h2 w (fun _ _=>rfl) (fun _ _ _ _ _=>rfl),h1⟩
end
end Go.Proofs.Ytkhdnlkdcikdmaa.Dp
namespace Go.Proofs.Ytkhdnlkdcikdmaa.Dp
open Go.RowKit Go.Proofs.Ytkhdnlkdcikdmaa.Sm
open Go.Proofs.Ytkhdnlkdcikdmaa.Ev (Obl opnds dstB PT nx pt_put undef_bool pickB isRow_false)
set_option maxHeartbeats 1000000
set_option linter.unusedVariables false
set_option linter.unusedSimpArgs false
def cellsD:D→Option (List D)
 | .r cs=>some cs
 | .v x=>some (x.cells.toList.map .v)
 | .any=>none
 | .t _=>none
 | .k _ _=>none
 | d=>some [d]
def D.kill1 (b:Nat):D→D
 | .p b1 z1 i1 o1=>if b1 == b then .any else .p b1 z1 i1 o1
 | .h b1 n1=>if b1 == b then .any else .h b1 n1
 | .m b1 z1 o1 n1=>if b1 == b then .any else .m b1 z1 o1 n1
 | d=>d
def D.kill (b:Nat):D→D
 | .r cs => .r (cs.map (D.kill1 b))
 | .k f cs => .k f (cs.map (D.kill1 b))
 | d=>d.kill1 b
def Obj.kill (b:Nat):Obj→Obj
 | .var t cs => .var t (cs.map (D.kill1 b))
 | o=>o
def St.kill (b:Nat) (s:St):St:={ s with tab:=s.tab.map fun e=>{ e with dv:=e.dv.kill b },mem:=s.mem.map (Obj.kill b) }
def moreD (s:St) (z b:Nat):D→Option (Nat×(Nat→List D)×Prop)
 | .s m z' g=>if z' == z then some (m,g,True) else none
 | .h b' m=>match s.mem[b']? with
  | some (.row _ z' m' g)=>if z' == z&&b' != b then some (m,g,m≤m') else none
  | _=>none
 | .m b' z1 q m=>match s.mem[b']? with
  | some (.row _ z' m' g)=>if z' == z&&z1 == z&&b' != b then some (m,fun i=>g (q+i),q+m≤m') else none
  | _=>none
 | .v (.slice none 0 0)=>some (0,fun _=>[],True)
 | _=>none
def looks (s:St):List Operand→Option (List (List D))
 | []=>some []
 | x::r=>match (s.look [] x).bind cellsD,looks s r with
  | some d,some l=>some (d::l)
  | _,_=>none
def placeD (s:St):D→Option (Nat×Nat×Nat×Nat)
 | .h b n=>match s.mem[b]? with
  | some (.row _ z _ _)=>some (b,z,0,n)
  | _=>none
 | .m b z q n=>some (b,z,q,n)
 | _=>none
def memD (P:Program) (w0:World) (s:St) (o:Oper):Option (St×List Obl×List Prop) :=
  match o.op with
  | .alloc t=>match (zeroValue t).run P w0 with
    | .ok z _=>some (({ s with mem:=s.mem++[.var t (z.cells.toList.map .v)] }:St).put o.dst [] (.p s.mem.length 0 0 0),[⟨fun _ u=>nx ((zeroValue t).run P u),fun _ u => .ok (.value z) u⟩],[])
    | _=>none
  | .box t x=>match (s.look [] x).bind cellsD with
    | some cs=>some (({ s with mem:=s.mem++[.var t cs] }:St).put o.dst [] (.p s.mem.length 0 0 0),[],[])
    | none=>none
  | .store t x y=>if o.dst.isNone then
      match s.look [] x,(s.look [] y).bind cellsD,szOf P t with
      | some (.p b z i k),some ds,some n=>if n == ds.length&&ds.all D.one then
          match s.mem[b]? with
          | some (.var T cs)=>if i == 0&&decide (k+ds.length≤cs.length) then some (s.setMem b (.var T (cs.take k++ds++cs.drop (k+ds.length))),[],[]) else none
          | some (.row T z' m f)=>if z == z'&&ds.all D.shut&&decide (k+ds.length≤z) then some (s.setMem b (.row T z m fun j=>if j=i then (f i).take k++ds++(f i).drop (k+ds.length) else f j),[],[i<m]) else none
          | _=>none
        else none
      | _,_,_=>none
    else none
  | .makeSlice t l c=>match P.underlying t,s.look [] l,s.look [] c with
    | some (.slice e),some (.v (.int _ n)),some (.v (.int _ n'))=>match P.info? e with
      | some i=>match i.zero with
        | some zv=>if zv.cells.size == i.size&&zv.cells.toList.all (·.oneCell')&&decide (0<i.size) then
            some (({ s with mem:=s.mem++[.row e i.size n.toNat fun _=>zv.cells.toList.map .v] }:St).put o.dst [] (.h s.mem.length n.toNat),[],[n≤n'∧0≤n∧(i.bytes:Int)*n'≤281474976710656∧n'≤9223372036854775807])
          else none
        | none=>none
      | none=>none
    | _,_,_=>none
  | .buildSlice t len parts=>match P.underlying t,looks s (parts.toList.map (·.2)) with
    | some (.slice e),some dss=>match P.info? e with
      | some i=>if decide (parts.toList.map (·.1)=List.range len)&&dss.all (fun ds=>ds.length == i.size&&ds.all D.one&&ds.all D.shut)&&decide (0<i.size)&&decide (0<len)&&decide (len*i.size≤2^24)&&i.zero.isSome then
          some (({ s with mem:=s.mem++[.row e i.size len fun k=>(dss[k]?).getD []] }:St).put o.dst [] (.h s.mem.length len),[],[])
        else none
      | none=>none
    | _,_=>none
  | .call c=>match c.callee,c.args.toList,c.argTypes.toList with
    | .builtin .append,[x,y],[t,t']=>match P.underlying t,s.look [] x,s.look [] y with
      | some (.slice e),some (.h b n),some d=>match s.mem[b]?,P.info? e with
        | some (.row T z m f),some i=>match moreD s z b d,i.zero with
          | some (k,g,hk),some zv=>if t == t'&&T == e&&z == i.size&&zv.cells.size == z&&decide (0<z)&&decide (s.fx≤b) then
              some ((({ s.kill b with mem:=(s.kill b).mem.set b (.row T z (n+k) fun j=>if j<n then f j else g (j-n)) }:St)).put o.dst [] (.h b (n+k)),[],[(m=n∧hk)∧(n+k)*i.bytes≤140737488355328∧n+k≤9223372036854775807])
            else none
          | _,_=>none
        | _,_=>none
      | some (.slice e),some (.v (.slice none 0 0)),some d=>match P.info? e with
        | some i=>match moreD { s with mem:=s.mem++[.row e i.size 0 fun _=>[]] } i.size s.mem.length d,i.zero with
          | some (k,g,hk),some zv=>if t == t'&&zv.cells.size == i.size&&decide (0<i.size)&&decide (s.fx≤s.mem.length) then
              some ((({ St.kill s.mem.length { s with mem:=s.mem++[.row e i.size 0 fun _=>[]] } with mem:=(St.kill s.mem.length { s with mem:=s.mem++[.row e i.size 0 fun _=>[]] }).mem.set s.mem.length (.row e i.size (0+k) fun j=>if j<0 then (fun _=>[]) j else g (j-0)) }:St)).put o.dst [] (.h s.mem.length (0+k)),[],[hk∧(0+k)*i.bytes≤140737488355328∧0+k≤9223372036854775807])
            else none
          | _,_=>none
        | none=>none
      | _,_,_=>none
    | .builtin .copy,[x,y],[t,_]=>match P.underlying t,s.look [] x,s.look [] y with
      | some (.slice e),some dx,some dy=>match placeD s dx,szOf P e with
        | some (b,z,q,n),some z1=>match s.mem[b]?,moreD s z s.mem.length dy with
          | some (.row T z' m f),some (k,g,hk)=>if z1 == z&&z' == z&&decide (0<z) then
              some ((s.setMem b (.row T z m fun j=>if q≤j∧j<q+min k n then g (j-q) else f j)).put o.dst [] (.v (.int .i64 ((min k n:Nat):Int))),[],[q+n≤m∧hk])
            else none
          | _,_=>none
        | _,_=>none
      | _,_,_=>none
    | _,_,_=>none
  | _=>none
section
variable {κ : Nat→Prop} {B:Base} {N:Nat} {ρ ρ':Own} {s:St} {a:Act} {w w' w0:World} {A:List (Nat×Bool)} {o:Oper} {ops:Array Oper} {P:Program} {ok:Nat→Prop} {d:D} {v:Value} {Q:Exit→Act→World→Prop} {rest:List Oper}
theorem RepC.one (h:RepC w ok d v) (hs:d.one=true):v.oneCell'=true:=by
 cases h <;> first|exact hs|rfl|cases hs
theorem Rep1.one (h:Rep1 w ok ρ d v) (hs:d.one=true):v.oneCell'=true:=by
 cases h with
 | c h=>exact h.one hs
 | _=>rfl
theorem cells_rep {ds:List D} (hr:RepO w ok ρ d v) (h:cellsD d=some ds):v.cells.toList.length=ds.length∧∀ (j:Nat) (d:D) (u:Value),ds[j]? = some d→v.cells.toList[j]? = some u→Rep1 w ok ρ d u:=by
 have hone:∀ {d:D} {v:Value},v.cells = #[v]→Rep1 w ok ρ d v→v.cells.toList.length=[d].length∧∀ (j:Nat) (d':D) (u:Value),[d][j]? = some d'→v.cells.toList[j]? = some u→Rep1 w ok ρ d' u:=by
  intro d v hv hr
  rw [hv]
  refine ⟨rfl,fun j d' u h1 h2 => ?_⟩
  cases j with
  | zero =>
   simp only [List.getElem?_cons_zero,Option.some.injEq] at h1 h2
   subst h1 h2
   exact hr
  | succ j=>simp at h1
 cases d with
 | r cs =>
  simp only [cellsD,Option.some.injEq] at h
  subst h
  obtain ⟨vs,rfl,hl,hd⟩:=repO_r hr
  exact ⟨by simpa [Value.cells] using hl,fun j d u h1 h2=>hd j d u h1 (by simpa [Value.cells] using h2)⟩
 | v x =>
  simp only [cellsD,Option.some.injEq] at h
  subst h
  rw [repO_v hr]
  exact ⟨by simp,fun j d u h1 h2 => .c (rep_vs _ j d u h1 h2)⟩
 | any=>cases h
 | t cs=>cases h
 | k f cs=>cases h
 | p b z i o =>
  simp only [cellsD,Option.some.injEq] at h
  subst h
  cases hr with
  | one hr=>exact hone (by cases hr with|c hr=>cases hr|p hr=>rfl) hr
 | h b n =>
  simp only [cellsD,Option.some.injEq] at h
  subst h
  cases hr with
  | one hr=>exact hone (by cases hr with|c hr=>cases hr|h hr=>rfl|h0 hr=>rfl) hr
 | m b z o n =>
  simp only [cellsD,Option.some.injEq] at h
  subst h
  cases hr with
  | one hr=>exact hone (by cases hr with|c hr=>cases hr|m hr=>rfl|m0 hr=>rfl) hr
 | s n z f =>
  simp only [cellsD,Option.some.injEq] at h
  subst h
  cases hr with
  | one hr=>exact hone (by cases hr with|c hr=>cases hr <;> rfl) hr
 | q cs o =>
  simp only [cellsD,Option.some.injEq] at h
  subst h
  cases hr with
  | one hr=>exact hone (by cases hr with|c hr=>cases hr <;> rfl) hr
 | i t d =>
  simp only [cellsD,Option.some.injEq] at h
  subst h
  cases hr with
  | one hr=>exact hone (by cases hr with|c hr=>cases hr <;> rfl) hr
 | e z t d =>
  simp only [cellsD,Option.some.injEq] at h
  subst h
  cases hr with
  | one hr=>exact hone (by cases hr with|c hr=>cases hr <;> rfl) hr
 | c f cs =>
  simp only [cellsD,Option.some.injEq] at h
  subst h
  cases hr with
  | one hr=>exact hone (by cases hr with|c hr=>cases hr <;> rfl) hr
theorem gpath_nil (hI:Inv κ B ρ s N a w) (hA:gpath ops s o=some []):Region.wanted o (yielded ops a.tmps)=true:=(wanted_iff hI hA).2 fun _ hx=>(nomatch hx)
theorem pt_nil:PT a []:=fun _ hx=>(nomatch hx)
theorem new_var (hI:Inv κ B ρ s N a w) {t:TypeId} {cs:List D} {vs:List Value} (hl:vs.length=cs.length) (hd:∀ (j:Nat) (d:D) (u:Value),cs[j]? = some d→vs[j]? = some u→Rep1 w (okW κ w ρ) ρ d u) (hdst:dstB N [] o.dst=true) :
  Inv κ B (ρ ++ [some (w.heap.size,cs.length)]) (({ s with mem:=s.mem++[.var t cs] }:St).put o.dst [] (.p s.mem.length 0 0 0)) N (a.put o.dst (.pointer (some ⟨w.heap.size,0,none⟩))) (w.alloc (.cells vs.toArray t))∧Below w.heap.size w (w.alloc (.cells vs.toArray t)):=by
 have hb:Below w.heap.size w (w.alloc (.cells vs.toArray t)):=(Below.refl _ _).alloc (Nat.le_refl _) _
 have hlast:(ρ ++ [some (w.heap.size,cs.length)])[ρ.length]? = some (some (w.heap.size,cs.length)):=by simp
 have hst:Stay κ w ρ (w.alloc (.cells vs.toArray t)) (ρ ++ [some (w.heap.size,cs.length)]):=by
  refine ⟨fun b h=>⟨⟨⟨h.1.1,Nat.lt_of_lt_of_le h.1.2 hb.size⟩,fun b' y hy => ?_⟩,hb.block b h.1.2⟩,fun b y h => ?_⟩
  ·rcases Nat.lt_or_ge b' ρ.length with h1|h1
   ·rw [List.getElem?_append_left h1] at hy; exact h.2 b' y hy
   ·rw [List.getElem?_append_right h1] at hy
    rcases Nat.eq_zero_or_pos (b' - ρ.length) with h0|h0
    ·rw [h0] at hy
     simp only [List.getElem?_cons_zero,Option.some.injEq] at hy
     have:=h.1.2
     subst hy
     show w.heap.size≠b
     omega
    ·rw [List.getElem?_eq_none (by simp; omega)] at hy; cases hy
  ·rw [List.getElem?_append_left (List.getElem?_eq_some_iff.1 h).1]; exact h
 have hI2:=inv_new hI hb (x:=some (w.heap.size,cs.length)) (ob := .var t cs) (fun y hy=>by injection hy with hy; subst hy; exact ⟨rfl,by simp⟩)
  ⟨_,vs,hlast,heap_alloc_new w _,hl,fun j d u h1 h2=>(hd j d u h1 h2).mono hst⟩
 refine ⟨inv_put hI2 hdst (fun _ => .one ?_) (fun h=>absurd pt_nil h),hb⟩
 rw [← hI.len]
 have:=Rep1.p (w:=w.alloc (.cells vs.toArray t)) (ok:=okW κ (w.alloc (.cells vs.toArray t)) (ρ ++ [some (w.heap.size,cs.length)])) (z:=0) (i:=0) (o:=0) hlast
 exact this
theorem new_row (hI:Inv κ B ρ s N a w) {t:TypeId} {z n c:Nat} {f:Nat→List D} {cur:Array Value} (hnc:n≤c) (hm:c≤maxLen) (hsz:cur.size=c*z) (hf:∀ i,i<n→(f i).length=z∧(f i).all D.one=true∧∀ (j:Nat) (d:D),(f i)[j]? = some d→∃ v,cur[i*z+j]? = some v∧RepC w (okW κ w ρ) d v) (hdst:dstB N [] o.dst=true) :
  Inv κ B (ρ ++ [some (w.heap.size,c)]) (({ s with mem:=s.mem++[.row t z n f] }:St).put o.dst [] (.h s.mem.length n)) N (a.put o.dst (.slice (some ⟨w.heap.size,0,none⟩) n c)) (w.alloc (.cells cur t))∧Below w.heap.size w (w.alloc (.cells cur t)):=by
 have hb:Below w.heap.size w (w.alloc (.cells cur t)):=(Below.refl _ _).alloc (Nat.le_refl _) _
 have hlast:(ρ ++ [some (w.heap.size,c)])[ρ.length]? = some (some (w.heap.size,c)):=by simp
 have hst:∀ b,okW κ w ρ b→okW κ (w.alloc (.cells cur t)) (ρ ++ [some (w.heap.size,c)]) b∧(w.alloc (.cells cur t)).heap[b]? = w.heap[b]? := by
  refine fun b h=>⟨⟨⟨h.1.1,Nat.lt_of_lt_of_le h.1.2 hb.size⟩,fun b' y hy => ?_⟩,hb.block b h.1.2⟩
  rcases Nat.lt_or_ge b' ρ.length with h1|h1
  ·rw [List.getElem?_append_left h1] at hy; exact h.2 b' y hy
  ·rw [List.getElem?_append_right h1] at hy
   rcases Nat.eq_zero_or_pos (b' - ρ.length) with h0|h0
   ·rw [h0] at hy
    simp only [List.getElem?_cons_zero,Option.some.injEq] at hy
    have:=h.1.2
    subst hy
    show w.heap.size≠b
    omega
   ·rw [List.getElem?_eq_none (by simp; omega)] at hy; cases hy
 have hI2:=inv_new hI hb (x:=some (w.heap.size,c)) (ob := .row t z n f) (fun y hy=>by injection hy with hy; subst hy; exact ⟨rfl,by simp⟩)
  (.inr ⟨_,c,cur,hlast,heap_alloc_new w _,hnc,hm,hsz,fun i hi=>⟨(hf i hi).1,(hf i hi).2.1,fun j d hj=>by
   obtain ⟨v,h1,h2⟩:=(hf i hi).2.2 j d hj
   exact ⟨v,h1,h2.mono hst⟩⟩⟩)
 refine ⟨inv_put hI2 hdst (fun _ => .one ?_) (fun h=>absurd pt_nil h),hb⟩
 rw [← hI.len]
 exact .h hlast hnc
theorem splice_get {α : Type} (l vs:List α) (k x:Nat) (h:k+vs.length≤l.length):(l.take k++vs++l.drop (k+vs.length))[x]? = if k≤x∧x<k+vs.length then vs[x-k]? else l[x]? := by
 have hk:(l.take k).length=k:=by rw [List.length_take]; omega
 split
 ·rename_i hx
  rw [List.append_assoc,List.getElem?_append_right oM,hk,List.getElem?_append_left oM]
 ·rename_i hx
  rcases Nat.lt_or_ge x k with h1|h1
  ·rw [List.append_assoc,List.getElem?_append_left oM,List.getElem?_take,if_pos h1]
  ·rw [List.getElem?_append_right (by simp [hk]; omega),List.getElem?_drop]
   congr 1
   simp [hk]
   omega
theorem splice_len {α : Type} (l vs:List α) (k:Nat) (h:k+vs.length≤l.length):(l.take k++vs++l.drop (k+vs.length)).length=l.length:=by simp; omega
theorem alloc_ok (hI:Inv κ B ρ s N a w) (hA:gpath ops s o=some []) (hd:dstB N [] o.dst=true) {t:TypeId} (hop:o.op = .alloc t) {z:Value} (hzu:∀ u,(zeroValue t).run P u = .ok z u)
  (k:∀ ρ' a' w',Inv κ B ρ' (({ s with mem:=s.mem++[.var t (z.cells.toList.map .v)] }:St).put o.dst [] (.p s.mem.length 0 0 0)) N a' w'→BelB B w w'→Fr [] ρ w ρ' w'→wpList P ops Q rest a' w'):wpList P ops Q (o::rest) a w:=by
 refine BigFrame.wpList_want (gpath_nil hI hA) fun K hK => ?_
 unfold Oper.wp execOp
 simp only [hop,Sem.run_bind,Instr.alloc,hzu,newVar,newRow,run_newObj_alloc,Sem.run_pure,Result.andThen_ok]
 obtain ⟨h1,h2⟩:=new_var hI (t:=t) (cs:=z.cells.toList.map .v) (vs:=z.cells.toList) (by simp) (fun j d u h1 h2 => .c (rep_vs _ j d u h1 h2)) hd
 exact hK _ _ (k _ _ _ h1 (BelB.of_below h2 hI.big) (Fr.push _ h2 _))
theorem box_ok (hI:Inv κ B ρ s N a w) (hA:gpath ops s o=some []) (hd:dstB N [] o.dst=true) {t:TypeId} {x:Operand} (hop:o.op = .box t x) {d:D} {cs:List D} (hx:s.look [] x=some d) (hc:cellsD d=some cs)
  (k:∀ ρ' a' w',Inv κ B ρ' (({ s with mem:=s.mem++[.var t cs] }:St).put o.dst [] (.p s.mem.length 0 0 0)) N a' w'→BelB B w w'→Fr [] ρ w ρ' w'→wpList P ops Q rest a' w'):wpList P ops Q (o::rest) a w:=by
 refine BigFrame.wpList_want (gpath_nil hI hA) fun K hK => ?_
 obtain ⟨h3,h4⟩:=cells_rep (look_rep hI hx pt_nil) hc
 unfold Oper.wp execOp
 simp only [hop,Sem.run_bind,Instr.box,newVar,newRow,run_newObj_alloc,Sem.run_pure,Result.andThen_ok]
 obtain ⟨h1,h2⟩:=new_var hI (t:=t) (cs:=cs) (vs:=(a.eval x).cells.toList) h3 h4 hd
 exact hK _ _ (k _ _ _ h1 (BelB.of_below h2 hI.big) (Fr.push _ h2 _))
theorem run_store {t:TypeId} {g k:Nat} {v:Value} (ht:w.there g k v.cells.size) (hi:szOf P t=some v.cells.size) (h1:v.cells.toList.all (·.oneCell')=true):(Instr.storeAt t (.pointer (some ⟨g,k,none⟩)) v).run P w = .ok () (w.setCells g k v.cells.toList):=by
 have:=run_storeVar_mid (P:=P) w g k t v.cells ht hi (by rw [← Array.all_toList]; exact h1)
 have e:storeVar t ⟨g,k,none⟩ (.agg v.cells)=storeVar t ⟨g,k,none⟩ v:=rfl
 rw [e] at this
 simp only [Instr.storeAt,Instr.sureAddr,Sem.run_bind,Sem.run_pure,Result.andThen_ok,this]
theorem ones {ds:List D} {v:Value} (hone:ds.all D.one=true) (hl:v.cells.toList.length=ds.length) (hd:∀ (j:Nat) (d:D) (u:Value),ds[j]? = some d→v.cells.toList[j]? = some u→Rep1 w ok ρ d u):v.cells.toList.all (·.oneCell')=true:=by
 rw [List.all_eq_true]
 intro u hu
 obtain ⟨j,hj,rfl⟩:=List.getElem_of_mem hu
 have hj':j<ds.length:=by omega
 exact (hd j _ _ (List.getElem?_eq_getElem hj') (List.getElem?_eq_getElem hj)).one (List.all_eq_true.1 hone _ (List.getElem_mem hj'))
theorem store_ok (hI:Inv κ B ρ s N a w) (hA:gpath ops s o=some []) (hdn:o.dst=none) {t:TypeId} {x y:Operand} (hop:o.op = .store t x y) {b z i k n:Nat} {d:D} {ds:List D} (hx:s.look [] x=some (.p b z i k)) (hy:s.look [] y=some d) (hc:cellsD d=some ds) (hn:szOf P t=some n) (hnl:n=ds.length) (hone:ds.all D.one=true)
    {ob:Obj} (hob:(∃ T cs,s.mem[b]? = some (.var T cs)∧i=0∧k+ds.length≤cs.length∧ob = .var T (cs.take k++ds++cs.drop (k+ds.length)))∨∃ T m f,s.mem[b]? = some (.row T z m f)∧ds.all D.shut=true∧k+ds.length≤z∧i<m∧ob = .row T z m fun j=>if j=i then (f i).take k++ds++(f i).drop (k+ds.length) else f j)
    (K:∀ ρ' a' w',Inv κ B ρ' (s.setMem b ob) N a' w'→BelB B w w'→Fr [b] ρ w ρ' w'→wpList P ops Q rest a' w'):wpList P ops Q (o::rest) a w:=by
  obtain ⟨hl,hd⟩:=cells_rep (look_rep hI hy pt_nil) hc
  have h1:=ones hone hl hd
  generalize hv:a.eval y=v at hl hd h1
  have hr:=look_rep hI hx pt_nil
  generalize hp:a.eval x=p at hr
  have hsz:szOf P t=some v.cells.size:=by rw [hn,hnl,← hl]; simp
  cases hr with
  | one hr => cases hr with
    | c hr=>cases hr
    | p hg =>
      rename_i g c
      have hgB:=hI.own b _ hg
      have fin:∀ W,(Instr.storeAt t (.pointer (some ⟨g,i*z+k,none⟩)) v).run P w = .ok () W→Beside g w W→ObjOk κ W ρ b ob→wpList P ops Q (o::rest) a w:=by
        intro W hrun hbs hok
        refine BigFrame.wpList_want (gpath_nil hI hA) fun K' hK => ?_
        unfold Oper.wp execOp
        simp only [hop,hp,hv,Sem.run_bind,hrun,Sem.run_pure,Result.andThen_ok]
        rw [Oper.upon_skip,hdn]
        exact hK _ _ (K ρ a W (inv_set hI hg hbs hok) (BelB.of_beside hbs hgB.1 hI.big) ⟨fun k hk hne=>hbs.block k hk fun e=>hne b (List.mem_singleton.2 rfl) c (by rw [e]; exact hg),fun b k c h _=>⟨c,h⟩⟩)
      have hbs:=beside_setCells (g:=g) (a:=w) v.cells.toList (i*z+k) w (Beside.refl _ _)
      have hlen:v.cells.size=ds.length:=by rw [← hl]; simp
      rcases hob with ⟨T,cs,hm,rfl,hle,rfl⟩|⟨T,m,f,hm,hsh,hle,him,rfl⟩
      · obtain ⟨g',vs,q1,q2,q3,q4⟩:=hI.mem b _ hm
        rw [hg] at q1
        injection q1 with q1
        injection q1 with q1
        injection q1 with e1 e2
        subst e1
        have hob:Ob w g T vs:=q2
        have hth:w.there g (0*z+k) v.cells.size:=by
          intro j hj
          have hj':0*z+k+j<vs.length:=by omega
          exact ⟨by rw [hob.cell (List.getElem?_eq_getElem hj')]; rfl,hob.frozen _⟩
        refine fin _ (run_store hth hsz h1) hbs ?_
        have hob2:=setCells_same w g (0*z+k) T v.cells.toList vs hob (by rw [hl]; omega)
        refine ⟨g,_,hg.trans (by rw [e2,splice_len _ _ _ hle]),hob2,?_,?_⟩
        · rw [splice_len _ _ _ (by rw [hl]; omega),splice_len _ _ _ hle,q3]
        · intro j d' u hj1 hj2
          rw [splice_get _ _ _ _ hle] at hj1
          rw [splice_get _ _ _ _ (by rw [hl]; omega),hl,Nat.zero_mul,Nat.zero_add] at hj2
          have hs:=Stay.beside (κ := κ) (ρ := ρ) hg hbs
          split at hj1
          · rename_i hin
            rw [if_pos hin] at hj2
            exact (hd _ _ _ hj1 hj2).mono hs
          · rename_i hin
            rw [if_neg hin] at hj2
            exact (q4 _ _ _ hj1 hj2).mono hs
      · rcases hI.mem b _ hm with ⟨_,rfl⟩|⟨g',c',cur,q1,q2,q3,q4,q5,q6⟩
        · omega
        rw [hg] at q1
        injection q1 with q1
        injection q1 with q1
        injection q1 with e1 e2
        subst e1 e2
        have hob:Ob w g T cur.toList:=by unfold Ob; simpa using q2
        have hic:(i+1)*z≤c*z:=Nat.mul_le_mul_right _ oM
        rw [Nat.add_mul,Nat.one_mul] at hic
        have hcl:cur.toList.length=c*z:=by simpa using q5
        have hth:w.there g (i*z+k) v.cells.size:=by
          intro j hj
          have hj':i*z+k+j<cur.toList.length:=by omega
          exact ⟨by rw [hob.cell (List.getElem?_eq_getElem hj')]; rfl,hob.frozen _⟩
        refine fin _ (run_store hth hsz h1) hbs ?_
        have hle2:i*z+k+v.cells.toList.length≤cur.toList.length:=by rw [hl]; omega
        have hob2:=setCells_same w g (i*z+k) T v.cells.toList cur.toList hob hle2
        have hs:=Stay.beside (κ := κ) (ρ := ρ) hg hbs
        refine .inr ⟨g,c,_,hg,hob2,q3,q4,?_,?_⟩
        · rw [List.size_toArray,splice_len _ _ _ hle2,hcl]
        · intro i' hi'
          obtain ⟨f1,f2,f3⟩:=q6 i' hi'
          dsimp only
          by_cases he:i'=i
          · subst he
            simp only [if_true]
            have hle3:k+ds.length≤(f i').length:=by omega
            refine ⟨by rw [splice_len _ _ _ hle3,f1],?_,?_⟩
            · rw [List.all_append,List.all_append,hone,Bool.and_true,Bool.and_eq_true,List.all_eq_true,List.all_eq_true]
              exact ⟨fun y hy=>List.all_eq_true.1 f2 y (List.mem_of_mem_take hy),fun y hy=>List.all_eq_true.1 f2 y (List.mem_of_mem_drop hy)⟩
            · intro j d' hj
              rw [splice_get _ _ _ _ hle3] at hj
              rw [List.getElem?_toArray,splice_get _ _ _ _ hle2,hl]
              split at hj
              · rename_i hin
                have hjl:j-k<v.cells.toList.length:=by omega
                refine ⟨v.cells.toList[j-k],?_,?_⟩
                · rw [if_pos oM,show i'*z+j-(i'*z+k)=j-k by omega]
                  exact List.getElem?_eq_getElem hjl
                · have:=hd _ _ _ hj (List.getElem?_eq_getElem hjl)
                  exact (this.shut (List.all_eq_true.1 hsh _ (List.mem_of_getElem? hj))).mono hs.mem
              · rename_i hin
                obtain ⟨v',k1,k2⟩:=f3 j d' hj
                exact ⟨v',by rw [if_neg oM]; simpa using k1,k2.mono hs.mem⟩
          · simp only [if_neg he]
            refine ⟨f1,f2,fun j d' hj => ?_⟩
            obtain ⟨v',k1,k2⟩:=f3 j d' hj
            refine ⟨v',?_,k2.mono hs.mem⟩
            have hjz:j<z:=by rw [← f1]; exact (List.getElem?_eq_some_iff.1 hj).1
            rw [List.getElem?_toArray,splice_get _ _ _ _ hle2,hl,if_neg]
            · simpa using k1
            · intro hin
              rcases Nat.lt_or_gt_of_ne he with h|h
              · have:(i'+1)*z≤i*z:=Nat.mul_le_mul_right _ h
                rw [Nat.add_mul,Nat.one_mul] at this
                omega
              · have:(i+1)*z≤i'*z:=Nat.mul_le_mul_right _ h
                rw [Nat.add_mul,Nat.one_mul] at this
                omega
end
end Go.Proofs.Ytkhdnlkdcikdmaa.Dp
namespace Go.Proofs.Ytkhdnlkdcikdmaa.Dp
open Go.RowKit Go.Proofs.Ytkhdnlkdcikdmaa.Sm
open Go.Proofs.Ytkhdnlkdcikdmaa.Ev (Obl opnds dstB PT nx pt_put undef_bool pickB isRow_false)
set_option maxHeartbeats 1000000
set_option linter.unusedVariables false
set_option linter.unusedSimpArgs false
section
variable {κ : Nat→Prop} {B:Base} {N:Nat} {ρ ρ':Own} {s:St} {a:Act} {w w' w0:World} {A:List (Nat×Bool)} {o:Oper} {ops:Array Oper} {P:Program} {ok:Nat→Prop} {d:D} {v:Value} {Q:Exit→Act→World→Prop} {rest:List Oper}
theorem make_ok (hI:Inv κ B ρ s N a w) (hA:gpath ops s o=some []) (hd:dstB N [] o.dst=true) {t e:TypeId} {l c:Operand} (hop:o.op = .makeSlice t l c) (hu:P.underlying t=some (.slice e)) {kl kc:IntKind} {n:Int} (hl:s.look [] l=some (.v (.int kl n))) {n':Int} (hc:s.look [] c=some (.v (.int kc n'))) {i:TypeInfo} (hi:P.info? e=some i) {zv:Value} (hz:i.zero=some zv) (hs:zv.cells.size=i.size) (h1:zv.cells.toList.all (·.oneCell')=true) (h0:0<i.size)
    (hnn:n≤n') (hn0:0≤n) (hb:(i.bytes:Int)*n'≤281474976710656) (h63:n'≤9223372036854775807)
    (k:∀ ρ' a' w',Inv κ B ρ' (({ s with mem:=s.mem++[.row e i.size n.toNat fun _=>zv.cells.toList.map .v] }:St).put o.dst [] (.h s.mem.length n.toNat)) N a' w'→BelB B w w'→Fr [] ρ w ρ' w'→wpList P ops Q rest a' w'):wpList P ops Q (o::rest) a w:=by
  have el:=repO_v (look_rep hI hl pt_nil)
  have ec:=repO_v (look_rep hI hc pt_nil)
  have hr:=run_make (P:=P) w t e i zv hu hi hz kl kc n n' hn0 hnn hb h63
  refine BigFrame.wpList_want (gpath_nil hI hA) fun K hK => ?_
  unfold Oper.wp execOp
  simp only [hop,el,ec,Sem.run_bind,hr,Sem.run_pure,Result.andThen_ok]
  obtain ⟨q1,q2⟩:=new_row hI (o:=o) (t:=e) (z:=i.size) (n:=n.toNat) (f:=fun _=>zv.cells.toList.map .v) (c:=n'.toNat) (cur:=madeCells zv.cells (n'.toNat*i.size)) oM (by unfold maxLen; omega) (size_madeCells _ _) (fun j hj=>⟨by simpa using hs,by
      rw [List.all_eq_true]
      intro y hy
      obtain ⟨u,hu',rfl⟩:=List.mem_map.1 hy
      exact List.all_eq_true.1 h1 u hu',fun m d hm=>by
      have hml:m<i.size:=by have:=(List.getElem?_eq_some_iff.1 hm).1; simpa [hs] using this
      have hlt:j*i.size+m<n'.toNat*i.size:=by
        have:(j+1)*i.size≤n'.toNat*i.size:=Nat.mul_le_mul_right _ oM
        rw [Nat.add_mul,Nat.one_mul] at this
        omega
      have hmod:(j*i.size+m)%i.size=m:=by rw [Nat.add_comm,Nat.add_mul_mod_self_right,Nat.mod_eq_of_lt hml]
      refine ⟨zv.cells[m]!,?_,?_⟩
      · simp [madeCells,hlt,hs,hmod]
      · rw [List.getElem?_map] at hm
        obtain ⟨u,hu',rfl⟩:=Option.map_eq_some_iff.1 hm
        have:zv.cells[m]! = u:=by
          have h2:zv.cells[m]? = some u:=by simpa using hu'
          simp [Array.getElem!_eq_getD,h2]
        rw [this]
        exact .v u⟩) hd
  exact hK _ _ (k _ _ _ q1 (BelB.of_below q2 hI.big) (Fr.push _ q2 _))
theorem looks_rep (hI:Inv κ B ρ s N a w):∀ {l:List Operand} {dss:List (List D)},looks s l=some dss→dss.length=l.length∧∀ (j:Nat) (x:Operand) (ds:List D),l[j]? = some x→dss[j]? = some ds→(a.eval x).cells.toList.length=ds.length∧∀ (i:Nat) (d:D) (u:Value),ds[i]? = some d→(a.eval x).cells.toList[i]? = some u→Rep1 w (okW κ w ρ) ρ d u
 | [],dss,h=>by
  simp only [looks,Option.some.injEq] at h
  subst h
  exact ⟨rfl,fun j x ds h=>by simp at h⟩
 | x::r,dss,h=>by
  simp only [looks] at h
  split at h
  ·rename_i ds l h1 h2
   injection h with h
   subst h
   obtain ⟨d0,h3,h4⟩:=Option.bind_eq_some_iff.1 h1
   obtain ⟨q1,q2⟩:=looks_rep hI h2
   refine ⟨by simp [q1],fun j y es hy he => ?_⟩
   cases j with
   | zero =>
    simp only [List.getElem?_cons_zero,Option.some.injEq] at hy he
    subst hy he
    exact cells_rep (look_rep hI h3 pt_nil) h4
   | succ j=>exact q2 j y es (by simpa using hy) (by simpa using he)
  ·cases h
theorem dense_parts (a:Act):∀ (l:List (Nat×Operand)) (i0 n:Nat),l.map (·.1)=List.range' i0 n→l.map (fun x=>(x.1,a.eval x.2))=((l.map fun x=>a.eval x.2).zipIdx i0).map fun x=>(x.2,x.1)
 | [],_,_,_=>rfl
 | x::r,i0,n,h=>by
  cases n with
  | zero=>simp at h
  | succ n =>
   rw [List.range'_succ] at h
   simp only [List.map_cons,List.cons.injEq] at h
   simp only [List.map_cons,List.zipIdx_cons]
   rw [h.1,dense_parts a r (i0+1) n (by simpa using h.2)]
theorem build_ok (hI:Inv κ B ρ s N a w) (hA:gpath ops s o=some []) (hd:dstB N [] o.dst=true) {t e:TypeId} {len:Nat} {parts:Array (Nat×Operand)} (hop:o.op = .buildSlice t len parts) (hu:P.underlying t=some (.slice e)) {dss:List (List D)} (hl:looks s (parts.toList.map (·.2))=some dss) {i:TypeInfo} (hi:P.info? e=some i)
  (hr:parts.toList.map (·.1)=List.range len) (hall:dss.all (fun ds=>ds.length == i.size&&ds.all D.one&&ds.all D.shut)=true) (h0:0<i.size) (hl0:0<len) (hbig:len*i.size≤2^24) (hz:i.zero.isSome=true)
  (k:∀ ρ' a' w',Inv κ B ρ' (({ s with mem:=s.mem++[.row e i.size len fun k=>(dss[k]?).getD []] }:St).put o.dst [] (.h s.mem.length len)) N a' w'→BelB B w w'→Fr [] ρ w ρ' w'→wpList P ops Q rest a' w'):wpList P ops Q (o::rest) a w:=by
 obtain ⟨zv,hzv⟩:=Option.isSome_iff_exists.1 hz
 obtain ⟨q1,q2⟩:=looks_rep hI hl
 have hpl:parts.toList.length=len:=by
  have:=congrArg List.length hr
  simpa using this
 have hdl:dss.length=len:=by rw [q1,List.length_map,hpl]
 have hds:∀ j,j<len→∃ ds x,dss[j]? = some ds∧(parts.toList.map (·.2))[j]? = some x∧ds.length=i.size∧ds.all D.one=true∧ds.all D.shut=true∧(a.eval x).cells.toList.length=ds.length∧∀ (i:Nat) (d:D) (u:Value),ds[i]? = some d→(a.eval x).cells.toList[i]? = some u→Rep1 w (okW κ w ρ) ρ d u:=by
  intro j hj
  have hj1:j<dss.length:=by omega
  have hj2:j<(parts.toList.map (·.2)).length:=by rw [List.length_map]; omega
  have h3:=List.all_eq_true.1 hall _ (List.getElem_mem hj1)
  simp only [Bool.and_eq_true,beq_iff_eq] at h3
  obtain ⟨q3,q4⟩:=q2 j _ _ (List.getElem?_eq_getElem hj2) (List.getElem?_eq_getElem hj1)
  exact ⟨_,_,List.getElem?_eq_getElem hj1,List.getElem?_eq_getElem hj2,h3.1.1,h3.1.2,h3.2,q3,q4⟩
 have hvs:∀ y ∈ parts.toList.map (fun x=>a.eval x.2),y.cells.size=i.size:=by
  intro y hy
  obtain ⟨j,hj,rfl⟩:=List.getElem_of_mem hy
  have hj':j<len:=by rw [List.length_map] at hj; omega
  obtain ⟨ds,x,h3,h4,h5,_,_,h6,_⟩:=hds j hj'
  rw [List.getElem_map]
  have:x=(parts.toList[j]'oM).2:=by
   rw [List.getElem?_map,List.getElem?_eq_getElem oM] at h4
   simpa using h4.symm
  rw [← this,← h5,← h6]
  simp
 obtain ⟨cur,c1,c2,c3⟩:=Great.fill_dense h0 (parts.toList.map fun x=>a.eval x.2) 0 ((Array.range (len*i.size)).map (zv.cells[· % zv.cells.size]!)) hvs (by simp [hpl])
 have hpe:(parts.map fun (i,x)=>(i,a.eval x)).toList=((parts.toList.map fun x=>a.eval x.2).zipIdx 0).map fun x=>(x.2,x.1):=by
  rw [Array.toList_map]
  exact dense_parts a _ 0 len (by rw [hr,List.range_eq_range'])
 have hf:Instr.fill (fun j=>some (j*i.size,i.size)) ((Array.range (len*i.size)).map (zv.cells[· % zv.cells.size]!)) (parts.map fun (i,x)=>(i,a.eval x)).toList=some cur:=by
  rw [hpe]; exact c1
 have hrun:=run_buildSlice (P:=P) w t e len (parts.map fun (i,x)=>(i,a.eval x)) cur i zv hu hi hzv oM (by have:=Nat.mul_pos hl0 h0; omega) hf
 refine BigFrame.wpList_want (gpath_nil hI hA) fun K hK => ?_
 unfold Oper.wp execOp
 simp only [hop,Sem.run_bind,hrun,Sem.run_pure,Result.andThen_ok]
 have hcs:cur.size=len*i.size:=by rw [c2]; simp
 obtain ⟨p1,p2⟩:=new_row hI (o:=o) (t:=e) (z:=i.size) (n:=len) (f:=fun k=>(dss[k]?).getD []) (c:=len) (cur:=cur) (Nat.le_refl _) (by unfold maxLen; have:len*1≤len*i.size:=Nat.mul_le_mul_left _ h0; omega) hcs (fun j hj=>by
  obtain ⟨ds,x,h3,h4,h5,h6,h7,h8,h9⟩:=hds j hj
  simp only [h3,Option.getD_some]
  refine ⟨h5,h6,fun m d hm => ?_⟩
  have hml:m<i.size:=by rw [← h5]; exact (List.getElem?_eq_some_iff.1 hm).1
  have hml':m<(a.eval x).cells.toList.length:=by omega
  refine ⟨(a.eval x).cells.toList[m],?_,?_⟩
  ·have hlt:j*i.size+m<len*i.size:=by
    have:(j+1)*i.size≤len*i.size:=Nat.mul_le_mul_right _ hj
    rw [Nat.add_mul,Nat.one_mul] at this
    omega
   have e1:(j*i.size+m)/i.size=j:=by rw [Nat.mul_comm,Nat.mul_add_div h0,Nat.div_eq_of_lt hml,Nat.add_zero]
   have e2:(j*i.size+m)%i.size=m:=by rw [Nat.add_comm,Nat.add_mul_mod_self_right,Nat.mod_eq_of_lt hml]
   rw [c3,if_pos (by rw [List.length_map,hpl]; simp; exact hlt),e1,e2,Nat.sub_zero,List.getElem?_map]
   rw [List.getElem?_map] at h4
   obtain ⟨x',h10,h11⟩:=Option.map_eq_some_iff.1 h4
   rw [h10]
   simp only [Option.map_some,Option.bind_some,h11]
   simp
  ·exact (h9 m d _ hm (List.getElem?_eq_getElem hml')).shut (List.all_eq_true.1 h7 _ (List.mem_of_getElem? hm))) hd
 exact hK _ _ (k _ _ _ p1 (BelB.of_below p2 hI.big) (Fr.push _ p2 _))
theorem Rep1.kill {b:Nat} (h:Rep1 w (okW κ w ρ) ρ d v) (hm:∀ k,okW κ w ρ k→okW κ w' ρ' k∧w'.heap[k]? = w.heap[k]?) (ho:∀ (b':Nat) (x:Option (Nat×Nat)),b'≠b → ρ[b']? = some x → ρ'[b']? = some x):Rep1 w' (okW κ w' ρ') ρ' (d.kill1 b) v:=by
 cases h with
 | c h =>
  have e:d.kill1 b=d:=by cases h <;> rfl
  rw [e]
  exact .c (h.mono hm)
 | p h =>
  simp only [D.kill1]
  split
  ·exact .c (.any _)
  ·rename_i hne; exact .p (ho _ _ (by simpa using hne) h)
 | h h hn =>
  simp only [D.kill1]
  split
  ·exact .c (.any _)
  ·rename_i hne; exact .h (ho _ _ (by simpa using hne) h) hn
 | h0 h =>
  simp only [D.kill1]
  split
  ·exact .c (.any _)
  ·rename_i hne; exact .h0 (ho _ _ (by simpa using hne) h)
 | m h hk hc hoo =>
  simp only [D.kill1]
  split
  ·exact .c (.any _)
  ·rename_i hne; exact .m (ho _ _ (by simpa using hne) h) hk hc hoo
 | m0 h =>
  simp only [D.kill1]
  split
  ·exact .c (.any _)
  ·rename_i hne; exact .m0 (ho _ _ (by simpa using hne) h)
theorem kill_list {b:Nat} {cs:List D} {vs:List Value} (hd:∀ (j:Nat) (d:D) (v:Value),cs[j]? = some d→vs[j]? = some v→Rep1 w (okW κ w ρ) ρ d v) (hm:∀ k,okW κ w ρ k→okW κ w' ρ' k∧w'.heap[k]? = w.heap[k]?) (ho:∀ (b':Nat) (x:Option (Nat×Nat)),b'≠b → ρ[b']? = some x → ρ'[b']? = some x):∀ (j:Nat) (d:D) (v:Value),(cs.map (D.kill1 b))[j]? = some d→vs[j]? = some v→Rep1 w' (okW κ w' ρ') ρ' d v:=by
 intro j d v h1 h2
 rw [List.getElem?_map] at h1
 obtain ⟨d',h3,rfl⟩:=Option.map_eq_some_iff.1 h1
 exact (hd j d' v h3 h2).kill hm ho
theorem RepO.kill {b:Nat} (h:RepO w (okW κ w ρ) ρ d v) (hm:∀ k,okW κ w ρ k→okW κ w' ρ' k∧w'.heap[k]? = w.heap[k]?) (ho:∀ (b':Nat) (x:Option (Nat×Nat)),b'≠b → ρ[b']? = some x → ρ'[b']? = some x):RepO w' (okW κ w' ρ') ρ' (d.kill b) v:=by
 by_cases hr:∃ cs,d = .r cs
 ·obtain ⟨cs,rfl⟩:=hr
  obtain ⟨vs,rfl,hl,hd⟩:=repO_r h
  exact .r (by simpa using hl) (kill_list hd hm ho)
 ·cases h with
  | one h =>
   have e:d.kill b=d.kill1 b:=by cases d <;> first|rfl|exact absurd ⟨_,rfl⟩ hr|exact absurd h Rep1.not_k
   rw [e]
   exact .one (h.kill hm ho)
  | r hl hd=>exact absurd ⟨_,rfl⟩ hr
  | k hl hd=>exact .k (by simpa using hl) (kill_list hd hm ho)
theorem inv_take (hI:Inv κ B ρ s N a w) {b:Nat} (hbl:b < ρ.length) {x:Option (Nat×Nat)} {W:World} (hsz:w.heap.size≤W.heap.size) (hfx:s.fx≤b) (hx:∀ y,x=some y→B.has y.1∧y.1<W.heap.size∧(w.heap.size≤y.1∨∃ c,ρ[b]? = some (some (y.1,c))))
  (hkeep:∀ k,k<w.heap.size→(∀ c,ρ[b]? ≠ some (some (k,c)))→W.heap[k]? = w.heap[k]?) {ob:Obj} (ho:ObjOk κ W (ρ.set b x) b ob):Inv κ B (ρ.set b x) { s.kill b with mem:=(s.kill b).mem.set b ob } N a W:=by
 have hset:∀ (b':Nat) (y:Option (Nat×Nat)),b'≠b → ρ[b']? = some y→(ρ.set b x)[b']? = some y:=fun b' y hne h=>by rw [List.getElem?_set_ne (Ne.symm hne)]; exact h
 have hback:∀ (b':Nat) (y:Option (Nat×Nat)),(ρ.set b x)[b']? = some y→(b'=b∧y=x)∨(b'≠b ∧ ρ[b']? = some y):=by
  intro b' y h
  by_cases hb:b'=b
  ·subst hb
   rw [List.getElem?_set_self hbl] at h
   injection h with h
   exact .inl ⟨rfl,h.symm⟩
  ·rw [List.getElem?_set_ne (Ne.symm hb)] at h
   exact .inr ⟨hb,h⟩
 have hm:∀ k,okW κ w ρ k→okW κ W (ρ.set b x) k∧W.heap[k]? = w.heap[k]? := by
  intro k hk
  refine ⟨⟨⟨hk.1.1,Nat.lt_of_lt_of_le hk.1.2 hsz⟩,fun b' y hy => ?_⟩,hkeep k hk.1.2 fun c hc=>hk.2 b _ hc rfl⟩
  rcases hback b' _ hy with ⟨rfl,h⟩|⟨_,h⟩
  ·obtain ⟨_,_,h1|⟨_,h1⟩⟩:=hx y h.symm
   ·have:=hk.1.2; omega
   ·have h2:=hk.2 b' _ h1
    exact h2
  ·exact hk.2 b' y h
 have hother:∀ (b':Nat) (y:Nat×Nat),b'≠b → ρ[b']? = some (some y)→W.heap[y.1]? = w.heap[y.1]? := by
  intro b' y hne hy
  exact hkeep y.1 (hI.own b' y hy).2 fun c hc=>hne (hI.nd b' b _ _ hy hc rfl)
 refine ⟨hI.size,hI.dfr,fun e he => ?_,by simp [St.kill,hI.len],fun b' y hy => ?_,fun b1 b2 y1 y2 h1 h2 he => ?_,fun b' o' hm' => ?_,fun y hy=>(hI.gl y hy).mono hm,Nat.le_trans hI.big hsz,hI.hκ,hI.fx,fun i x hk h=>hset i x (by have:=hI.fx; omega) (hI.fix i x hk h)⟩
 ·obtain ⟨e0,h0,rfl⟩:=List.mem_map.1 he
  have hk:=hI.tab e0 h0
  exact ⟨fun hp=>(hk.yes hp).kill hm hset,hk.no,hk.lt⟩
 ·rcases hback b' _ hy with ⟨rfl,h⟩|⟨_,h⟩
  ·obtain ⟨q1,q2,_⟩:=hx y h.symm
   exact ⟨q1,q2⟩
  ·exact ⟨(hI.own b' y h).1,Nat.lt_of_lt_of_le (hI.own b' y h).2 hsz⟩
 ·rcases hback b1 _ h1 with ⟨rfl,q1⟩|⟨n1,q1⟩ <;> rcases hback b2 _ h2 with ⟨rfl,q2⟩|⟨n2,q2⟩
  ·rfl
  ·obtain ⟨_,_,h3|⟨_,h3⟩⟩:=hx y1 q1.symm
   ·have:=(hI.own b2 y2 q2).2; omega
   ·exact absurd (hI.nd b2 b1 _ _ q2 h3 he.symm) n2
  ·obtain ⟨_,_,h3|⟨_,h3⟩⟩:=hx y2 q2.symm
   ·have:=(hI.own b1 y1 q1).2; omega
   ·exact absurd (hI.nd b1 b2 _ _ q1 h3 he) n1
  ·exact hI.nd b1 b2 _ _ q1 q2 he
 ·have hm2:((s.mem.map (Obj.kill b)).set b ob)[b']? = some o':=hm'
  by_cases hb:b'=b
  ·subst hb
   rw [List.getElem?_set_self (by rw [List.length_map,← hI.len]; exact hbl)] at hm2
   injection hm2 with hm2
   subst hm2
   exact ho
  ·rw [List.getElem?_set_ne (Ne.symm hb),List.getElem?_map] at hm2
   obtain ⟨o0,h3,rfl⟩:=Option.map_eq_some_iff.1 hm2
   have h4:=hI.mem b' o0 h3
   cases o0 with
   | dead=>exact hset _ _ hb h4
   | var t cs =>
    obtain ⟨g,vs,q1,q2,q3,q4⟩:=h4
    exact ⟨g,vs,by rw [List.length_map]; exact hset _ _ hb q1,(hother b' _ hb q1).trans q2,by simpa using q3,kill_list q4 hm hset⟩
   | row t z n f =>
    rcases h4 with ⟨q1,q2⟩|⟨g,c,cur,q1,q2,q3,q4,q5,q6⟩
    ·exact .inl ⟨hset _ _ hb q1,q2⟩
    ·refine .inr ⟨g,c,cur,hset _ _ hb q1,(hother b' _ hb q1).trans q2,q3,q4,q5,fun i hi=>⟨(q6 i hi).1,(q6 i hi).2.1,fun j d hj => ?_⟩⟩
     obtain ⟨v,hv,hr⟩:=(q6 i hi).2.2 j d hj
     exact ⟨v,hv,hr.mono hm⟩
theorem inv_app (hI:Inv κ B ρ s N a w) {b:Nat} (hbl:b < ρ.length) {x:Option (Nat×Nat)} {W:World} (hsz:w.heap.size≤W.heap.size) (hfx:s.fx≤b) (hx:∀ y,x=some y→B.has y.1∧y.1<W.heap.size∧(y.1=w.heap.size ∨ ρ[b]? = some (some (y.1,y.2))))
  (hkeep:∀ k,k<w.heap.size→(∀ c,ρ[b]? ≠ some (some (k,c)))→W.heap[k]? = w.heap[k]?) {ob:Obj} (ho:ObjOk κ W (ρ.set b x) b ob):Inv κ B (ρ.set b x) { s.kill b with mem:=(s.kill b).mem.set b ob } N a W :=
 inv_take hI hbl hsz hfx (fun y hy=>⟨(hx y hy).1,(hx y hy).2.1,(hx y hy).2.2.imp (fun h=>Nat.le_of_eq h.symm) fun h=>⟨_,h⟩⟩) hkeep ho
structure Src (w:World) (ok:Nat→Prop) (z k:Nat) (g:Nat→List D) (v:Value):Prop where
 is_:(v = .slice none 0 0∧k=0)∨∃ ad c,v = .slice (some ad) k c∧∃ news:List Value,news.length=k*z∧(∀ (j:Nat) (u:Value),news[j]? = some u→w.cell? (ad.add j)=some u) ∧
  ∀ i,i<k→(g i).length=z∧(g i).all D.one=true∧∀ (j:Nat) (d:D),(g i)[j]? = some d→∃ v,news[i*z+j]? = some v∧RepC w ok d v
theorem src_of (hI:Inv κ B ρ s N a w) {b z k:Nat} {d:D} {g:Nat→List D} {hk:Prop} {v:Value} (h:moreD s z b d=some (k,g,hk)) (hkk:hk) (hr:RepO w (okW κ w ρ) ρ d v) (hz:0<z):Src w (okW κ w ρ) z k g v:=by
  unfold moreD at h
  split at h
  · rename_i m z' g'
    split at h
    · rename_i hzz
      simp only [Option.some.injEq,Prod.mk.injEq] at h
      obtain ⟨rfl,rfl,rfl⟩:=h
      obtain rfl:z'=z:=by simpa using hzz
      cases hr with
      | one hr=>cases hr with
        | c hr=>cases hr with
          | s0 z f a c ha hc =>
            cases a with
            | none=>rw [ha rfl]; exact ⟨.inl ⟨rfl,rfl⟩⟩
            | some ad=>exact ⟨.inr ⟨ad,c,rfl,[],by simp,fun j u h=>by simp at h,fun i hi=>absurd hi (Nat.not_lt_zero _)⟩⟩
          | s vals hb hc hm hq hv hd =>
            rename_i b' off c
            refine ⟨.inr ⟨_,_,rfl,(List.range (m*z')).map fun x=>vals (x/z') (x%z'),by simp,fun j u hj => ?_,fun i hi=>⟨(hq i hi).1,(hq i hi).2,fun j d hj => ?_⟩⟩⟩
            · rw [List.getElem?_map] at hj
              obtain ⟨j',hj',rfl⟩:=Option.map_eq_some_iff.1 hj
              obtain ⟨h1,h2⟩:=List.getElem?_eq_some_iff.1 hj'
              rw [List.getElem_range] at h2
              subst h2
              have hjl:j<m*z':=by simpa using h1
              have:=hv (j/z') (j%z') (Nat.div_lt_of_lt_mul (by rw [Nat.mul_comm]; exact hjl)) (Nat.mod_lt _ hz)
              rw [Addr.add_mid,← this]
              congr 2
              have:=Nat.div_add_mod j z'
              rw [Nat.mul_comm] at this
              rw [this]
            · have hjl:j<z':=by rw [← (hq i hi).1]; exact (List.getElem?_eq_some_iff.1 hj).1
              have hlt:i*z'+j<m*z':=by
                have:(i+1)*z'≤m*z':=Nat.mul_le_mul_right _ hi
                rw [Nat.add_mul,Nat.one_mul] at this
                omega
              refine ⟨vals i j,?_,hd i j d hi hj⟩
              have e1:(i*z'+j)/z'=i:=by rw [Nat.mul_comm,Nat.mul_add_div hz,Nat.div_eq_of_lt hjl,Nat.add_zero]
              have e2:(i*z'+j)%z'=j:=by rw [Nat.add_comm,Nat.add_mul_mod_self_right,Nat.mod_eq_of_lt hjl]
              rw [List.getElem?_map,List.getElem?_range hlt]
              simp [e1,e2]
    · cases h
  · rename_i b' m
    split at h
    · rename_i T z' m' g' hm
      split at h
      · rename_i hc
        simp only [Bool.and_eq_true,beq_iff_eq,bne_iff_ne] at hc
        simp only [Option.some.injEq,Prod.mk.injEq] at h
        obtain ⟨rfl,rfl,rfl⟩:=h
        obtain ⟨rfl,hne⟩:=hc
        cases hr with
        | one hr=>cases hr with
          | c hr=>cases hr
          | h0 hr=>exact ⟨.inl ⟨rfl,rfl⟩⟩
          | h hr hc =>
            rename_i g c
            rcases hI.mem b' _ hm with ⟨q1,_⟩|⟨g2,c2,cur,q1,q2,q3,q4,q5,q6⟩
            · rw [hr] at q1; cases q1
            · rw [hr] at q1
              injection q1 with q1
              injection q1 with q1
              injection q1 with e1 e2
              subst e1 e2
              have hle:m*z'≤cur.toList.length:=by
                have:m*z'≤c*z':=Nat.mul_le_mul_right _ hc
                simpa [q5] using this
              refine ⟨.inr ⟨_,_,rfl,cur.toList.take (m*z'),by rw [List.length_take]; omega,fun j u hj => ?_,fun i hi => ?_⟩⟩
              · rw [List.getElem?_take] at hj
                split at hj
                · rw [Addr.add_mid,Nat.zero_add,cell_of_row w _ j cur T (0,0) q2]
                  simpa using hj
                · cases hj
              · obtain ⟨f1,f2,f3⟩:=q6 i (Nat.lt_of_lt_of_le hi hkk)
                refine ⟨f1,f2,fun j d hj => ?_⟩
                obtain ⟨v',k1,k2⟩:=f3 j d hj
                have hjl:j<z':=by rw [← f1]; exact (List.getElem?_eq_some_iff.1 hj).1
                have hlt:i*z'+j<m*z':=by
                  have:(i+1)*z'≤m*z':=Nat.mul_le_mul_right _ hi
                  rw [Nat.add_mul,Nat.one_mul] at this
                  omega
                exact ⟨v',by rw [List.getElem?_take,if_pos hlt]; simpa using k1,k2⟩
      · cases h
    · cases h
  · rename_i b' z1 q m
    split at h
    · rename_i T z' m' g' hm
      split at h
      · rename_i hc
        simp only [Bool.and_eq_true,beq_iff_eq,bne_iff_ne] at hc
        simp only [Option.some.injEq,Prod.mk.injEq] at h
        obtain ⟨rfl,rfl,rfl⟩:=h
        obtain ⟨⟨rfl,rfl⟩,hne⟩:=hc
        cases hr with
        | one hr=>cases hr with
          | c hr=>cases hr
          | m0 hr=>exact ⟨.inl ⟨rfl,rfl⟩⟩
          | m hr hk2 hc ho =>
            rename_i g c off kk
            rcases hI.mem b' _ hm with ⟨q1,_⟩|⟨g2,c2,cur,q1,q2,q3,q4,q5,q6⟩
            · rw [hr] at q1; cases q1
            · rw [hr] at q1
              injection q1 with q1
              injection q1 with q1
              injection q1 with e1 e2
              subst e1 e2
              rcases Nat.eq_zero_or_pos m with hm0|hm0
              · subst hm0
                exact ⟨.inr ⟨_,_,rfl,[],by simp,fun j u h=>by simp at h,fun i hi=>absurd hi (Nat.not_lt_zero _)⟩⟩
              obtain rfl:=ho oM
              have hle:q*z1+m*z1≤cur.toList.length:=by
                have:(q+m)*z1≤c*z1:=Nat.mul_le_mul_right _ oM
                rw [Nat.add_mul] at this
                simpa [q5] using this
              refine ⟨.inr ⟨_,_,rfl,(cur.toList.drop (q*z1)).take (m*z1),by rw [List.length_take,List.length_drop]; omega,fun j u hj => ?_,fun i hi => ?_⟩⟩
              · rw [List.getElem?_take] at hj
                split at hj
                · rw [List.getElem?_drop] at hj
                  rw [Addr.add_mid,cell_of_row w _ _ cur T (0,0) q2]
                  simpa using hj
                · cases hj
              · obtain ⟨f1,f2,f3⟩:=q6 (q+i) oM
                refine ⟨f1,f2,fun j d hj => ?_⟩
                obtain ⟨v',k1,k2⟩:=f3 j d hj
                have hjl:j<z1:=by rw [← f1]; exact (List.getElem?_eq_some_iff.1 hj).1
                have hlt:i*z1+j<m*z1:=by
                  have:(i+1)*z1≤m*z1:=Nat.mul_le_mul_right _ hi
                  rw [Nat.add_mul,Nat.one_mul] at this
                  omega
                refine ⟨v',?_,k2⟩
                rw [List.getElem?_take,if_pos hlt,List.getElem?_drop]
                rw [Nat.add_mul,Nat.add_assoc] at k1
                simpa using k1
      · cases h
    · cases h
  · simp only [Option.some.injEq,Prod.mk.injEq] at h
    obtain ⟨rfl,rfl,rfl⟩:=h
    rw [repO_v hr]
    exact ⟨.inl ⟨rfl,rfl⟩⟩
  · cases h
end
end Go.Proofs.Ytkhdnlkdcikdmaa.Dp
namespace Go.Proofs.Ytkhdnlkdcikdmaa.Dp
open Go.RowKit Go.Proofs.Ytkhdnlkdcikdmaa.Sm
open Go.Proofs.Ytkhdnlkdcikdmaa.Ev (Obl opnds dstB PT nx pt_put undef_bool pickB isRow_false)
set_option maxHeartbeats 1000000
set_option linter.unusedVariables false
set_option linter.unusedSimpArgs false
section
variable {κ : Nat→Prop} {B:Base} {N:Nat} {ρ ρ':Own} {s:St} {a:Act} {w w' w0:World} {A:List (Nat×Bool)} {o:Oper} {ops:Array Oper} {P:Program} {ok:Nat→Prop} {d:D} {v:Value} {Q:Exit→Act→World→Prop} {rest:List Oper}
theorem app_mem (hI:Inv κ B ρ s N a w) {b:Nat} (hbl:b < ρ.length) {x:Option (Nat×Nat)} {W:World} (hsz:w.heap.size≤W.heap.size) (hx:∀ y,x=some y→B.has y.1∧y.1<W.heap.size∧(y.1=w.heap.size ∨ ρ[b]? = some (some (y.1,y.2))))
  (hkeep:∀ k,k<w.heap.size→(∀ c,ρ[b]? ≠ some (some (k,c)))→W.heap[k]? = w.heap[k]?):∀ k,okW κ w ρ k→okW κ W (ρ.set b x) k∧W.heap[k]? = w.heap[k]? := by
 intro k hk
 refine ⟨⟨⟨hk.1.1,Nat.lt_of_lt_of_le hk.1.2 hsz⟩,fun b' y hy => ?_⟩,hkeep k hk.1.2 fun c hc=>hk.2 b _ hc rfl⟩
 by_cases hb:b'=b
 ·subst hb
  rw [List.getElem?_set_self hbl] at hy
  injection hy with h
  obtain ⟨_,_,h1|h1⟩:=hx y h
  ·have:=hk.1.2; omega
  ·exact hk.2 b' _ h1
 ·rw [List.getElem?_set_ne (Ne.symm hb)] at hy
  exact hk.2 b' y hy
def Els (w:World) (ok:Nat→Prop) (z n:Nat) (f:Nat→List D) (l:List Value):Prop :=
 ∀ i,i<n→(f i).length=z∧(f i).all D.one=true∧∀ (j:Nat) (d:D),(f i)[j]? = some d→∃ v,l[i*z+j]? = some v∧RepC w ok d v
theorem Els.app {z n k:Nat} {f g:Nat→List D} {l m:List Value} (hl:l.length=n*z) (hm:m.length=k*z) (h1:Els w ok z n f l) (h2:Els w ok z k g m) (r:List Value):Els w ok z (n+k) (fun j=>if j<n then f j else g (j-n)) (l++m++r):=by
 intro i hi
 dsimp only
 by_cases hin:i<n
 ·rw [if_pos hin]
  obtain ⟨q1,q2,q3⟩:=h1 i hin
  refine ⟨q1,q2,fun j d hj => ?_⟩
  obtain ⟨v,k1,k2⟩:=q3 j d hj
  refine ⟨v,?_,k2⟩
  have hlt:=(List.getElem?_eq_some_iff.1 k1).1
  rw [List.append_assoc,List.getElem?_append_left hlt]
  exact k1
 ·rw [if_neg hin]
  obtain ⟨q1,q2,q3⟩:=h2 (i-n) oM
  refine ⟨q1,q2,fun j d hj => ?_⟩
  obtain ⟨v,k1,k2⟩:=q3 j d hj
  refine ⟨v,?_,k2⟩
  have hlt:=(List.getElem?_eq_some_iff.1 k1).1
  have e:i*z+j=l.length+((i-n)*z+j):=by
   rw [hl,← Nat.add_assoc,← Nat.add_mul]
   congr 2
   omega
  rw [e,List.append_assoc,List.getElem?_append_right oM,Nat.add_sub_cancel_left,List.getElem?_append_left hlt]
  exact k1
theorem Els.mono {z n:Nat} {f:Nat→List D} {l:List Value} {ok':Nat→Prop} (h:Els w ok z n f l) (hk:∀ b,ok b→ok' b∧w'.heap[b]? = w.heap[b]?):Els w' ok' z n f l:=fun i hi=>⟨(h i hi).1,(h i hi).2.1,fun j d hj=>by
 obtain ⟨v,k1,k2⟩:=(h i hi).2.2 j d hj
 exact ⟨v,k1,k2.mono hk⟩⟩
theorem Els.one {z n:Nat} (hz:0<z) {f:Nat→List D} {l:List Value} (hl:l.length=n*z) (h:Els w ok z n f l):∀ u ∈ l,u.oneCell'=true:=by
 intro u hu
 obtain ⟨x,hx,rfl⟩:=List.getElem_of_mem hu
 have hi:x/z<n:=Nat.div_lt_of_lt_mul (by rw [Nat.mul_comm]; omega)
 obtain ⟨q1,q2,q3⟩:=h (x/z) hi
 have hm:=Nat.mod_lt x hz
 have hj:x%z<(f (x/z)).length:=by omega
 obtain ⟨v,k1,k2⟩:=q3 (x%z) _ (List.getElem?_eq_getElem hj)
 have e:x/z*z+x%z=x:=by rw [Nat.mul_comm]; exact Nat.div_add_mod x z
 rw [e,List.getElem?_eq_getElem hx] at k1
 injection k1 with k1
 rw [k1]
 exact k2.one (List.all_eq_true.1 q2 _ (List.getElem_mem hj))
theorem append_ok (hI:Inv κ B ρ s N a w) (hA:gpath ops s o=some []) (hd:dstB N [] o.dst=true) {c:Call} (hop:o.op = .call c) (hcal:c.callee = .builtin .append) {x y:Operand} {t e:TypeId} (hargs:c.args.toList=[x,y]) (htys:c.argTypes.toList=[t,t]) (hu:P.underlying t=some (.slice e)) {b n z k:Nat} {dy:D} {f g:Nat→List D} {hk:Prop} (hxr:RepO w (okW κ w ρ) ρ (.h b n) (a.eval x)) (hy:s.look [] y=some dy) (hm:s.mem[b]? = some (.row e z n f)) {i:TypeInfo} (hi:P.info? e=some i) {zv:Value} (hz:i.zero=some zv) (hzi:z=i.size) (hzs:zv.cells.size=z) (h0:0<z) (hmore:moreD s z b dy=some (k,g,hk)) (hkk:hk) (hbytes:(n+k)*i.bytes≤140737488355328) (h63:n+k≤9223372036854775807) (hfx:s.fx≤b)
  (K:∀ ρ' a' w',Inv κ B ρ' (({ s.kill b with mem:=(s.kill b).mem.set b (.row e z (n+k) fun j=>if j<n then f j else g (j-n)) }:St).put o.dst [] (.h b (n+k))) N a' w'→BelB B w w'→Fr [b] ρ w ρ' w'→wpList P ops Q rest a' w'):wpList P ops Q (o::rest) a w:=by
 have hbl:b < ρ.length:=by rw [hI.len]; exact (List.getElem?_eq_some_iff.1 hm).1
 have hsrc:=(src_of hI hmore hkk (look_rep hI hy pt_nil) h0).is_
 generalize hvx:a.eval x=vx at hxr
 generalize hvy:a.eval y=vy at hsrc
 have hmax:n+k≤maxLen:=by unfold maxLen; omega
 have fin:∀ (v':Value) (W:World) (xo:Option (Nat×Nat)),(Builtin.append_ #[t,t] o.type #[vx,vy]).run P w = .ok v' W→BelB B w W→(∀ y,xo=some y→B.has y.1∧y.1<W.heap.size∧(y.1=w.heap.size ∨ ρ[b]? = some (some (y.1,y.2)))) →
   (∀ k,k<w.heap.size→(∀ c,ρ[b]? ≠ some (some (k,c)))→W.heap[k]? = w.heap[k]?) →
   ((xo=none∧n+k=0∧v' = .slice none 0 0)∨∃ gg cc cur,xo=some (gg,cc)∧v' = .slice (some ⟨gg,0,none⟩) (n+k) cc∧W.heap[gg]? = some (.cells cur e (0,0))∧n+k≤cc∧cc≤maxLen∧cur.size=cc*z∧Els w (okW κ w ρ) z (n+k) (fun j=>if j<n then f j else g (j-n)) cur.toList)→wpList P ops Q (o::rest) a w:=by
  intro v' W xo hrun hbel hxo hkeep hres
  have hmem:=app_mem hI hbl hbel.size hxo hkeep
  refine BigFrame.wpList_want (gpath_nil hI hA) fun K' hK => ?_
  have e1:c.args = #[x,y]:=by rw [← hargs]
  have e2:c.argTypes = #[t,t]:=by rw [← htys]
  unfold Oper.wp execOp
  simp only [hop,resolve,hcal,e1,e2,invoke,builtin,Sem.run_bind,Sem.run_pure,Result.andThen_ok,List.map_toArray,List.map_cons,List.map_nil,hvx,hvy,hrun]
  refine hK _ _ (K (ρ.set b xo) _ W ?_ hbel ⟨fun k hk hne=>hkeep k hk fun c=>hne b (List.mem_singleton.2 rfl) c,fun b' k c h hk => ?_⟩)
  rotate_left 1
  ·by_cases hb:b'=b
   ·subst hb
    rw [List.getElem?_set_self hbl] at h
    injection h with h
    obtain ⟨_,_,h1|h1⟩:=hxo _ h
    ·have h1':k=w.heap.size:=h1
     omega
    ·exact ⟨c,h1⟩
   ·rw [List.getElem?_set_ne (Ne.symm hb)] at h
    exact ⟨c,h⟩
  have hset:(ρ.set b xo)[b]? = some xo:=List.getElem?_set_self hbl
  rcases hres with ⟨rfl,hn0,rfl⟩|⟨gg,cc,cur,rfl,rfl,c1,c2,c3,c4,c5⟩
  ·refine inv_put (inv_app hI hbl hbel.size hfx hxo hkeep (ob := .row e z (n+k) fun j=>if j<n then f j else g (j-n)) (.inl ⟨hset,hn0⟩)) hd (fun _ => .one ?_) (fun h=>absurd pt_nil h)
   rw [hn0]
   exact .h0 hset
  ·have c5':=c5.mono hmem
   refine inv_put (inv_app hI hbl hbel.size hfx hxo hkeep (ob := .row e z (n+k) fun j=>if j<n then f j else g (j-n)) (.inr ⟨gg,cc,cur,hset,c1,c2,c3,c4,fun i hi=>⟨(c5' i hi).1,(c5' i hi).2.1,fun j d hj => ?_⟩⟩)) hd (fun _ => .one (.h hset c2)) (fun h=>absurd pt_nil h)
   obtain ⟨v,k1,k2⟩:=(c5' i hi).2.2 j d hj
   exact ⟨v,by simpa using k1,k2⟩
 have hzero:∀ gg hh,Els w (okW κ w ρ) z 0 gg hh:=fun _ _ i hi=>absurd hi (Nat.not_lt_zero _)
 have hdrew:∀ (cur:Array Value),BelB B w (w.drew.alloc (.cells cur e)):=fun cur=>BelB.of_below ((Below.refl w.heap.size w).drew.alloc (Nat.le_refl _) _) hI.big
 cases hxr with
 | one hxr=>cases hxr with
  | c hxr=>cases hxr
  | h0 hg =>
   rcases hsrc with ⟨rfl,rfl⟩|⟨ad,c',rfl,news,n1,n2,n3⟩
   ·refine fin (.slice none 0 0) w none ?_ (BelB.refl _ _) (fun y h=>by cases h) (fun _ _ _=>rfl) (.inl ⟨rfl,rfl,rfl⟩)
    simp [Builtin.append_,run_underlying hu,sizeOf,typeInfo,hi,Builtin.lenOf,Builtin.firstCells]
   ·by_cases hk0:k=0
    ·subst hk0
     refine fin (.slice none 0 0) w none ?_ (BelB.refl _ _) (fun y h=>by cases h) (fun _ _ _=>rfl) (.inl ⟨rfl,rfl,rfl⟩)
     simp [Builtin.append_,run_underlying hu,sizeOf,typeInfo,hi,Builtin.lenOf,Builtin.firstCells,loadCells,loadCellsFrom]
    ·have hr:=run_append_nil (P:=P) w t o.type e i zv hu hi hz ad k c' news (by rw [n1,hzi]) n2 oM oM (by have h:=hbytes; rw [Nat.zero_add] at h; omega)
     have hge:=grownCap_ge w k 0 e
     refine fin _ _ (some (w.heap.size,grownCap w k 0 e)) hr (hdrew _) (fun y hy=>by injection hy with hy; subst hy; exact ⟨.inl hI.big,by simp,.inl rfl⟩) (fun j hj _=>Below.heap_alloc w.drew _ j hj) (.inr ⟨_,_,_,rfl,?_,heap_alloc_new w.drew _,?_,grownCap_le_maxLen w k 0 e oM,?_,?_⟩)
     ·rw [Nat.zero_add]
     ·omega
     ·simp only [Array.size_append,List.size_toArray,size_zeroCells,hzs,n1,← Nat.add_mul]
      congr 1
      omega
     ·have:=(Els.app (n:=0) (l:=[]) (by simp) n1 (hzero f []) n3 (Builtin.zeroCells zv.cells (grownCap w k 0 e-k)).toList)
      simpa using this
  | h hg hnc =>
   rename_i gg cc
   rcases hI.mem b _ hm with ⟨q1,_⟩|⟨g2,c2,cur,q1,q2,q3,q4,q5,q6⟩
   ·rw [hg] at q1; cases q1
   rw [hg] at q1
   injection q1 with q1
   injection q1 with q1
   injection q1 with e1 e2
   subst e1 e2
   have hgB:=hI.own b _ hg
   have hnz:n*z≤cur.toList.length:=by
    have:n*z≤cc*z:=Nat.mul_le_mul_right _ hnc
    simpa [q5] using this
   have hol:(cur.toList.take (n*z)).length=n*z:=by rw [List.length_take]; omega
   have hels:Els w (okW κ w ρ) z n f (cur.toList.take (n*z)):=by
    intro i hi
    obtain ⟨f1,f2,f3⟩:=q6 i hi
    refine ⟨f1,f2,fun j d hj => ?_⟩
    obtain ⟨v',k1,k2⟩:=f3 j d hj
    have hjl:j<z:=by rw [← f1]; exact (List.getElem?_eq_some_iff.1 hj).1
    have hlt:i*z+j<n*z:=by
     have:(i+1)*z≤n*z:=Nat.mul_le_mul_right _ hi
     rw [Nat.add_mul,Nat.one_mul] at this
     omega
    exact ⟨v',by rw [List.getElem?_take,if_pos hlt]; simpa using k1,k2⟩
   have hown:w.ownsRow 0 e z (.slice (some ⟨gg,0,none⟩) n cc) n (cur.toList.take (n*z)):=⟨hol,.inr ⟨gg,cc,cur,rfl,Nat.zero_le _,q2,hnc,q4,q5,rfl⟩⟩
   have hxs:∀ y,some (gg,cc)=some y→B.has y.1∧y.1<w.heap.size∧(y.1=w.heap.size ∨ ρ[b]? = some (some (y.1,y.2))):=fun y hy=>by injection hy with hy; subst hy; exact ⟨hgB.1,hgB.2,.inr hg⟩
   rcases hsrc with ⟨rfl,rfl⟩|⟨ad,c',rfl,news,n1,n2,n3⟩
   ·refine fin _ w (some (gg,cc)) (run_append_owned_none w 0 t o.type e i z hu hi _ _ _ hown) (BelB.refl _ _) hxs (fun _ _ _=>rfl) (.inr ⟨gg,cc,cur,rfl,rfl,q2,hnc,q4,q5,?_⟩)
    have:=Els.app (k:=0) (m:=[]) hol (by simp) hels (hzero g []) (cur.toList.drop (n*z))
    simpa using this
   ·by_cases hroom:n+k≤cc
    ·have hfit:n*i.size+news.length≤cur.size:=by rw [n1,q5,← hzi,← Nat.add_mul]; exact Nat.mul_le_mul_right _ hroom
     have hr:=run_append_room (P:=P) w t o.type e i hu hi gg n cc cur q2 ad k c' news (by rw [n1,hzi]) n2 (Els.one h0 n1 n3) hroom hfit
     rw [← hzi] at hr hfit
     refine fin _ _ (some (gg,cc)) hr ?_ (fun y hy=>by injection hy with hy; subst hy; exact ⟨hgB.1,by simp; exact hgB.2,.inr hg⟩) (fun j hj hne=>setRow_other w gg j _ fun e=>hne cc (by rw [e]; exact hg)) (.inr ⟨gg,cc,_,rfl,rfl,setRow_heap w gg cur _ e _ q2,hroom,q4,?_,?_⟩)
     ·exact BelB.of_beside (g:=gg) ⟨rfl,rfl,rfl,by simp,fun j _ hj=>setRow_other w gg j _ hj⟩ hgB.1 hI.big
     ·simp only [List.size_toArray,List.length_append,List.length_take,List.length_drop,Array.length_toList]
      omega
     ·have:=Els.app hol n1 hels n3 (cur.toList.drop (n*z+news.length))
      simpa using this
    ·have hr:=run_append_grow (P:=P) w t o.type e i zv hu hi hz ⟨gg,0,none⟩ n cc (cur.toList.take (n*z)) (by rw [hol,hzi]) (hown.cells (g:=gg) rfl) ad k c' news (by rw [n1,hzi]) n2 oM oM (growslice_fits oM hbytes)
     have hge:=grownCap_ge w (n+k) cc e
     refine fin _ _ (some (w.heap.size,grownCap w (n+k) cc e)) hr (hdrew _) (fun y hy=>by injection hy with hy; subst hy; exact ⟨.inl hI.big,by simp,.inl rfl⟩) (fun j hj _=>Below.heap_alloc w.drew _ j hj) (.inr ⟨_,_,_,rfl,rfl,heap_alloc_new w.drew _,hge,grownCap_le_maxLen w (n+k) cc e hmax,?_,?_⟩)
     ·simp only [Array.size_append,List.size_toArray,size_zeroCells,hzs,n1,hol,← Nat.add_mul]
      congr 1
      omega
     ·have:=Els.app hol n1 hels n3 (Builtin.zeroCells zv.cells (grownCap w (n+k) cc e-(n+k))).toList
      simpa using this
theorem Inv.remem (hI:Inv κ B ρ s N a w) {b:Nat} {t:TypeId} {z n:Nat} {f f':Nat→List D} (hm:s.mem[b]? = some (.row t z n f)) (hf:∀ i,i<n→f i=f' i):Inv κ B ρ (s.setMem b (.row t z n f')) N a w:=by
 refine ⟨hI.size,hI.dfr,hI.tab,by simp [St.setMem,hI.len],hI.own,hI.nd,fun k o hm' => ?_,hI.gl,hI.big,hI.hκ,hI.fx,hI.fix⟩
 have hm2:(s.mem.set b (.row t z n f'))[k]? = some o:=hm'
 by_cases hkb:k=b
 ·subst hkb
  rw [List.getElem?_set_self (List.getElem?_eq_some_iff.1 hm).1] at hm2
  injection hm2 with hm2
  subst hm2
  rcases hI.mem k _ hm with h|⟨g,c,cur,q1,q2,q3,q4,q5,q6⟩
  ·exact .inl h
  ·exact .inr ⟨g,c,cur,q1,q2,q3,q4,q5,fun i hi=>by rw [← hf i hi]; exact q6 i hi⟩
 ·rw [List.getElem?_set_ne (Ne.symm hkb)] at hm2
  exact hI.mem k o hm2
theorem beside_setRow {g:Nat} {w:World} (cs:Array Value):Beside g w (w.setRow g cs):=⟨rfl,rfl,rfl,by simp [World.setRow],fun k _ hk=>setRow_other w g k cs oM⟩
theorem run_copyZ {dT sT ty e:TypeId} {z:Nat} (hu:P.underlying dT=some (.slice e)) (hz:szOf P e=some z) (g q dLen dCap:Nat) (ad:Addr) (sLen sCap:Nat) (cur:Array Value) (t:TypeId) (hg:w.heap[g]? = some (.cells cur t (0,0))) (cs:List Value) (hn:cs.length=Nat.min sLen dLen*z)
  (hsrc:∀ (j:Nat) (v:Value),cs[j]? = some v→w.cell? (ad.add j)=some v) (hfit:q+cs.length≤cur.size) (h1:∀ v ∈ cs,v.oneCell'=true) :
  (Builtin.copy_ #[dT,sT] ty #[.slice (some ⟨g,q,none⟩) dLen dCap,.slice (some ad) sLen sCap]).run P w = .ok (goInt (Nat.min sLen dLen)) (w.setRow g (cur.toList.take q++cs++cur.toList.drop (q+cs.length)).toArray):=by
 have hl:=run_loadCells_list (P:=P) w ad cs hsrc
 have hst:=run_storeCells_at P g q t cs 0 cur w hg (by simpa using hfit) h1
 obtain ⟨it,h2,h3⟩:=Option.map_eq_some_iff.1 hz
 simp [Builtin.copy_,run_underlying hu,Builtin.lenOf,Builtin.firstCells,sizeOf,typeInfo,h2,h3,← hn,hl,hst]
theorem run_copy0 {dT sT ty e:TypeId} {z:Nat} (hu:P.underlying dT=some (.slice e)) (hz:szOf P e=some z) (dp sp:Option Addr) (dLen dCap sLen sCap:Nat) (hn:Nat.min sLen dLen=0) :
  (Builtin.copy_ #[dT,sT] ty #[.slice dp dLen dCap,.slice sp sLen sCap]).run P w = .ok (goInt 0) w:=by
 obtain ⟨it,h2,h3⟩:=Option.map_eq_some_iff.1 hz
 cases sp with
 | none=>cases dp <;> simp [Builtin.copy_,run_underlying hu,Builtin.lenOf,Builtin.firstCells,sizeOf,typeInfo,h2,h3,hn,storeCells]
 | some ad =>
  have hl:=run_loadCells_list (P:=P) w ad [] (fun j v h=>by simp at h)
  rw [List.length_nil] at hl
  cases dp <;> simp [Builtin.copy_,run_underlying hu,Builtin.lenOf,Builtin.firstCells,sizeOf,typeInfo,h2,h3,hn,hl,storeCells]
theorem copy_ok (hI:Inv κ B ρ s N a w) (hA:gpath ops s o=some []) (hd:dstB N [] o.dst=true) {cl:Call} (hop:o.op = .call cl) {x y:Operand} {t t' e:TypeId} (hcal:cl.callee = .builtin .copy) (hargs:cl.args.toList=[x,y]) (htys:cl.argTypes.toList=[t,t']) (hu:P.underlying t=some (.slice e)) {dx dy:D} (hx:s.look [] x=some dx) (hy:s.look [] y=some dy) {b z q n:Nat} (hp:placeD s dx=some (b,z,q,n)) (hz:szOf P e=some z) (h0:0<z) {T:TypeId} {m:Nat} {f:Nat→List D} (hm:s.mem[b]? = some (.row T z m f)) {k:Nat} {g:Nat→List D} {hk:Prop} (hmore:moreD s z s.mem.length dy=some (k,g,hk)) (hle:q+n≤m) (hkk:hk)
  (K:∀ ρ' a' w',Inv κ B ρ' ((s.setMem b (.row T z m fun j=>if q≤j∧j<q+min k n then g (j-q) else f j)).put o.dst [] (.v (.int .i64 ((min k n:Nat):Int)))) N a' w'→BelB B w w'→Fr [b] ρ w ρ' w'→wpList P ops Q rest a' w'):wpList P ops Q (o::rest) a w:=by
 have hsrc:=(src_of hI hmore hkk (look_rep hI hy pt_nil) h0).is_
 have hdst:(a.eval x = .slice none 0 0∧n=0)∨∃ gb c off kk,ρ[b]? = some (some (gb,c))∧a.eval x = .slice (some ⟨gb,off,none⟩) n kk∧n≤kk∧q+kk≤c∧(0<kk→off=q*z):=by
  have hr:=look_rep hI hx pt_nil
  generalize a.eval x=v at hr
  cases dx with
  | h b1 n1 =>
   simp only [placeD] at hp
   split at hp
   ·simp only [Option.some.injEq,Prod.mk.injEq] at hp
    obtain ⟨rfl,rfl,rfl,rfl⟩:=hp
    cases hr with
    | one hr=>cases hr with
     | c hr=>cases hr
     | h hr hc=>exact .inr ⟨_,_,_,_,hr,rfl,hc,by omega,fun _=>by simp⟩
     | h0 hr=>exact .inl ⟨rfl,rfl⟩
   ·cases hp
  | m b1 z1 q1 n1 =>
   simp only [placeD,Option.some.injEq,Prod.mk.injEq] at hp
   obtain ⟨rfl,rfl,rfl,rfl⟩:=hp
   cases hr with
   | one hr=>cases hr with
    | c hr=>cases hr
    | m hr hk hc ho=>exact .inr ⟨_,_,_,_,hr,rfl,hk,hc,ho⟩
    | m0 hr=>exact .inl ⟨rfl,rfl⟩
  | _=>simp [placeD] at hp
 have hcall:∀ r W,(Builtin.copy_ #[t,t'] o.type #[a.eval x,a.eval y]).run P w = .ok r W→(execOp a.eval o).run P w = .ok (.value r) W:=by
  intro r W h
  have h1:cl.args = #[x,y]:=by rw [← hargs]
  have h2:cl.argTypes = #[t,t']:=by rw [← htys]
  unfold execOp
  rw [hop]
  simp [resolve,hcal,h1,h2,invoke,builtin,h]
 have fin:∀ W,(Builtin.copy_ #[t,t'] o.type #[a.eval x,a.eval y]).run P w = .ok (goInt ((min k n:Nat):Int)) W→Inv κ B ρ (s.setMem b (.row T z m fun j=>if q≤j∧j<q+min k n then g (j-q) else f j)) N a W→BelB B w W→Fr [b] ρ w ρ W→wpList P ops Q (o::rest) a w:=by
  intro W hrun hI' hb' hf'
  refine BigFrame.wpList_want (gpath_nil hI hA) fun K' hK => ?_
  unfold Oper.wp
  rw [hcall _ _ hrun,Oper.upon_value]
  exact hK _ _ (K ρ _ W (inv_put hI' hd (fun _ => .one (.c (.v _))) fun h=>absurd pt_nil h) hb' hf')
 by_cases hmin:min k n=0
 ·have hI':Inv κ B ρ (s.setMem b (.row T z m fun j=>if q≤j∧j<q+min k n then g (j-q) else f j)) N a w :=
   hI.remem hm fun i hi=>by rw [if_neg oM]
  have hrun:(Builtin.copy_ #[t,t'] o.type #[a.eval x,a.eval y]).run P w = .ok (goInt ((min k n:Nat):Int)) w:=by
   rw [hmin]
   rcases hsrc with ⟨e1,rfl⟩|⟨ad,c',e1,_⟩ <;> rcases hdst with ⟨e2,rfl⟩|⟨gb,c,off,kk,_,e2,_⟩ <;> rw [e1,e2] <;> exact run_copy0 hu hz _ _ _ _ _ _ (by first|rfl|exact hmin|simp [Nat.min_def])
  exact fin w hrun hI' (BelB.refl _ _) (Fr.later _ (Below.refl _ _))
 ·rcases hsrc with ⟨e1,rfl⟩|⟨ad,c',e1,news,n1,n2,n3⟩
  ·exact absurd (Nat.zero_min _) hmin
  rcases hdst with ⟨e2,rfl⟩|⟨gb,c,off,kk,hg,e2,hk1,hk2,ho⟩
  ·exact absurd (Nat.min_zero _) hmin
  have hnp:0<n:=by omega
  obtain rfl:=ho oM
  rcases hI.mem b _ hm with ⟨r1,_⟩|⟨g',c2,cur,r1,r2,r3,r4,r5,r6⟩
  ·rw [hg] at r1; cases r1
  rw [hg] at r1
  injection r1 with r1
  injection r1 with r1
  injection r1 with e3 e4
  subst e3 e4
  have hcz:(q+min k n)*z≤c*z:=Nat.mul_le_mul_right _ oM
  rw [Nat.add_mul] at hcz
  have hkz:min k n*z≤k*z:=Nat.mul_le_mul_right _ oM
  have hln:(news.take (min k n*z)).length=min k n*z:=by rw [List.length_take]; omega
  have hone:∀ v ∈ news.take (min k n*z),v.oneCell'=true:=by
   intro v hv
   obtain ⟨j,hj,rfl⟩:=List.getElem_of_mem hv
   rw [hln] at hj
   have hdiv:j/z<k:=by
    have:j/z<min k n:=Nat.div_lt_of_lt_mul (by rw [Nat.mul_comm]; exact hj)
    omega
   obtain ⟨f1,f2,f3⟩:=n3 _ hdiv
   have hmod:=Nat.mod_lt j h0
   obtain ⟨v',k1,k2⟩:=f3 (j%z) _ (List.getElem?_eq_getElem oM)
   have hj2:=Nat.div_add_mod j z
   rw [Nat.mul_comm] at hj2
   rw [hj2] at k1
   have h5:(news.take (min k n*z))[j]=v':=by
    rw [List.getElem_take]
    exact (List.getElem?_eq_some_iff.1 k1).2
   rw [h5]
   exact k2.one (List.all_eq_true.1 f2 _ (List.getElem_mem _))
  have hrun:=run_copyZ (P:=P) (w:=w) (sT:=t') (ty:=o.type) hu hz gb (q*z) n kk ad k c' cur T r2 (news.take (min k n*z)) (by rw [hln]) (fun j v hj=>by
   rw [List.getElem?_take] at hj
   split at hj
   ·exact n2 j v hj
   ·cases hj) (by rw [hln]; omega) hone
  rw [← e1,← e2] at hrun
  have hbs:Beside gb w _:=beside_setRow (g:=gb) (w:=w) (cur.toList.take (q*z)++news.take (min k n*z)++cur.toList.drop (q*z+(news.take (min k n*z)).length)).toArray
  have hs:=Stay.beside (κ := κ) (ρ := ρ) hg hbs
  have hsp:q*z+(news.take (min k n*z)).length≤cur.toList.length:=by rw [hln]; simp; omega
  have hgB:=hI.own b _ hg
  refine fin _ hrun (inv_set hI hg hbs (.inr ⟨gb,c,_,hg,setRow_heap w gb cur _ T (0,0) r2,r3,r4,?_,?_⟩)) (BelB.of_beside hbs hgB.1 hI.big) ⟨fun k hk hne=>hbs.block k hk fun e=>hne b (List.mem_singleton.2 rfl) c (by rw [e]; exact hg),fun b k c h _=>⟨c,h⟩⟩
  ·rw [List.size_toArray,splice_len _ _ _ hsp]
   simpa using r5
  ·intro i hi
   obtain ⟨f1,f2,f3⟩:=r6 i hi
   dsimp only
   by_cases hin:q≤i∧i<q+min k n
   ·rw [if_pos hin]
    obtain ⟨f1',f2',f3'⟩:=n3 (i-q) oM
    refine ⟨f1',f2',fun j d hj => ?_⟩
    obtain ⟨v',k1,k2⟩:=f3' j d hj
    have hjz:j<z:=by rw [← f1']; exact (List.getElem?_eq_some_iff.1 hj).1
    have hi1:(i-q+1)*z≤min k n*z:=Nat.mul_le_mul_right _ oM
    rw [Nat.add_mul,Nat.one_mul] at hi1
    have hi2:i*z=q*z+(i-q)*z:=by rw [← Nat.add_mul]; congr 1; omega
    refine ⟨v',?_,k2.mono hs.mem⟩
    rw [List.getElem?_toArray,splice_get _ _ _ _ hsp,if_pos (by rw [hln]; omega),List.getElem?_take,if_pos oM,show i*z+j-q*z=(i-q)*z+j by omega]
    exact k1
   ·rw [if_neg hin]
    refine ⟨f1,f2,fun j d hj => ?_⟩
    obtain ⟨v',k1,k2⟩:=f3 j d hj
    have hjz:j<z:=by rw [← f1]; exact (List.getElem?_eq_some_iff.1 hj).1
    refine ⟨v',?_,k2.mono hs.mem⟩
    rw [List.getElem?_toArray,splice_get _ _ _ _ hsp,if_neg]
    ·simpa using k1
    ·rw [hln]
     rcases Nat.lt_or_ge i q with h|h
     ·have:(i+1)*z≤q*z:=Nat.mul_le_mul_right _ h
      rw [Nat.add_mul,Nat.one_mul] at this
      omega
     ·have:(q+min k n)*z≤i*z:=Nat.mul_le_mul_right _ oM
      rw [Nat.add_mul] at this
      omega
end
end Go.Proofs.Ytkhdnlkdcikdmaa.Dp
namespace Go.Proofs.Ytkhdnlkdcikdmaa.Dp
open Go.RowKit Go.Proofs.Ytkhdnlkdcikdmaa.Sm
open Go.Proofs.Ytkhdnlkdcikdmaa.Ev (Obl opnds dstB PT nx pt_put undef_bool pickB isRow_false seenL seenR seen_all)
set_option maxHeartbeats 1000000
set_option linter.unusedVariables false
set_option linter.unusedSimpArgs false
def isMem:Op→Bool
 | .alloc _=>true
 | .box _ _=>true
 | .store _ _ _=>true
 | .makeSlice _ _ _=>true
 | .buildSlice _ _ _=>true
 | .call c=>match c.callee with
  | .builtin .append=>true
  | .builtin .copy=>true
  | _=>false
 | _=>false
def pathP (s:St):List (Nat×Bool)→Prop
 | []=>True
 | (m,b)::r=>(match s.find m with
  | some e=>match e.dv with
   | .v (.bool z)=>z=b
   | _=>True
  | none=>True)∧pathP s r
def gneed (s:St) (A:List (Nat×Bool)) (l:List Prop):List Prop:=if A.isEmpty then l else l.map fun p=>pathP s A→p
def closedB (s:St) (A:List (Nat×Bool)):Bool:=A.all fun x=>match s.find x.1 with
 | some e=>e.path.all fun y=>A.contains y
 | none=>true
def touch (s:St) (o:Oper):List Nat:=match o.op with
 | .store _ x _=>match s.look [] x with
  | some (.p b _ _ _)=>[b]
  | _=>[]
 | .call c=>match c.args.toList with
  | x::_=>match s.look [] x with
   | some (.h b _)=>[b]
   | some (.m b _ _ _)=>[b]
   | _=>[]
  | []=>[]
 | _=>[]
def step (P:Program) (w0:World) (N:Nat) (ops:Array Oper) (s:St) (o:Oper):Option (St×List Obl×List Prop) :=
 match gpath ops s o with
 | none=>none
 | some A=>if dstB N A o.dst&&closedB s A then
   if isMem o.op then (if A.isEmpty then memD P w0 s o else none)
   else (valD P w0 s A o).map fun x=>(s.put o.dst A x.1,x.2.1,gneed s A x.2.2)
  else none
def steps (P:Program) (w0:World) (N:Nat) (ops:Array Oper):List Oper→St→Option (St×List Obl×List Prop)
 | [],s=>some (s,[],[])
 | o::r,s=>match step P w0 N ops s o with
  | none=>none
  | some (s1,x1,p1)=>match steps P w0 N ops r s1 with
   | none=>none
   | some (s2,x2,p2)=>some (s2,x1++x2,p1++p2)
def andL:List Prop→Prop
 | []=>True
 | [p]=>p
 | p::r=>p∧andL r
theorem andL_all:∀ {l:List Prop},andL l→∀ p ∈ l,p
 | [],_,p,hp=>(nomatch hp)
 | [q],h,p,hp=>by rw [List.mem_singleton.1 hp]; exact h
 | q::q'::r,h,p,hp=>by
  rcases List.mem_cons.1 hp with rfl|hp
  ·exact h.1
  ·exact andL_all (l:=q'::r) h.2 p hp
def D.under1 (m:Nat):D→Bool
 | .p b _ _ _=>decide (b<m)
 | .h b _=>decide (b<m)
 | .m b _ _ _=>decide (b<m)
 | _=>true
def D.under (m:Nat):D→Bool
 | .r cs=>cs.all (D.under1 m)
 | .k _ cs=>cs.all (D.under1 m)
 | d=>d.under1 m
def Obj.under (m:Nat):Obj→Bool
 | .var _ cs=>cs.all (D.under1 m)
 | _=>true
def St.sel (s:St) (ds:List Nat) (m:Nat):St:={ tab:=ds.filterMap s.find,mem:=s.mem.take m,gl:=s.gl,fx:=s.fx }
def St.underB (s:St) (m:Nat):Bool:=s.tab.all (fun e=>e.dv.under m)&&s.mem.all (Obj.under m)&&decide (s.fx≤m)
section
variable {κ : Nat→Prop} {B:Base} {N:Nat} {ρ ρ':Own} {s:St} {a:Act} {w w' w0:World} {A:List (Nat×Bool)} {o:Oper} {ops:Array Oper} {P:Program} {ok:Nat→Prop} {d:D} {v:Value} {Q:Exit→Act→World→Prop} {rest:List Oper}
theorem path_of (hI:Inv κ B ρ s N a w):∀ {A:List (Nat×Bool)},(∀ x ∈ A,∀ e,s.find x.1=some e→∀ y ∈ e.path,y ∈ A)→PT a A→pathP s A:=by
 have key:∀ {A A':List (Nat×Bool)},(∀ x ∈ A',x ∈ A)→(∀ x ∈ A,∀ e,s.find x.1=some e→∀ y ∈ e.path,y ∈ A)→PT a A→pathP s A':=by
  intro A A'
  induction A' with
  | nil=>intro _ _ _; trivial
  | cons x r ih =>
   intro hsub hcl hp
   obtain ⟨m,b⟩:=x
   refine ⟨?_,ih (fun y hy=>hsub y (List.mem_cons_of_mem _ hy)) hcl hp⟩
   split
   ·rename_i e he
    split
    ·rename_i z hz
     obtain ⟨hin,hd⟩:=find_mem he
     have h1:PT a e.path:=fun y hy=>hp y (hcl _ (hsub _ (List.mem_cons_self ..)) e he y hy)
     have h2:=(hI.tab e hin).yes h1
     rw [hz] at h2
     have h3:=repO_v h2
     have h4:=hp (m,b) (hsub _ (List.mem_cons_self ..))
     rw [hd] at h3
     rw [h3] at h4
     injection h4
    ·trivial
   ·trivial
 intro A hcl hp
 exact key (fun x hx=>hx) hcl hp
theorem closedB_of {A:List (Nat×Bool)} (h:closedB s A=true):∀ x ∈ A,∀ e,s.find x.1=some e→∀ y ∈ e.path,y ∈ A:=by
 intro x hx e he y hy
 have h1:=List.all_eq_true.1 h x hx
 rw [he] at h1
 have:=List.all_eq_true.1 h1 y hy
 simpa using this
theorem val_step (hI:Inv κ B ρ s N a w) (hA:gpath ops s o=some A) (hd:dstB N A o.dst=true) (dv:D)
  (hrun:PT a A→∃ v,(execOp a.eval o).run P w = .ok (.value v) w∧RepO w (okW κ w ρ) ρ dv v) (k:∀ a',Inv κ B ρ (s.put o.dst A dv) N a' w→wpList P ops Q rest a' w):wpList P ops Q (o::rest) a w:=by
 by_cases hp:PT a A
 ·obtain ⟨v,h1,h2⟩:=hrun hp
  exact wpList_go ((wanted_iff hI hA).2 hp) h1 (k _ (inv_put hI hd (fun _=>h2) (fun h=>absurd hp h)))
 ·have hw:Region.wanted o (yielded ops a.tmps)=false:=by
   rw [Bool.eq_false_iff]
   exact fun h=>hp ((wanted_iff hI hA).1 h)
  exact wpList_skip hw (k _ (inv_put hI hd (fun h=>absurd h hp) (fun _=>rfl)))
theorem hy_more {s:St} {x:Operand} {d:D} {ms:List Obj} (h:s.look [] x=some d):({ s with mem:=ms }:St).look [] x=some d:=by
 cases x <;> exact h
theorem memD_ok (hI:Inv κ B ρ s N a w) (hA:gpath ops s o=some []) (hd:dstB N [] o.dst=true) {s':St} {obs:List Obl} {need:List Prop} (h:memD P w0 s o=some (s',obs,need)) (hob:∀ q ∈ obs,∀ g u,q.l g u=q.r g u) (hn:∀ p ∈ need,p)
  (k:∀ ρ' a' w',Inv κ B ρ' s' N a' w'→BelB B w w'→Fr (touch s o) ρ w ρ' w'→wpList P ops Q rest a' w'):wpList P ops Q (o::rest) a w:=by
 unfold memD at h
 split at h
 ·rename_i t hop
  split at h
  ·rename_i z _ hz
   simp only [Option.some.injEq,Prod.mk.injEq] at h
   obtain ⟨rfl,rfl,rfl⟩:=h
   have hzu:∀ u,(zeroValue t).run P u = .ok z u:=by
    intro u
    have:=hob _ (List.mem_singleton.2 rfl) 0 u
    simp only at this
    cases hr:(zeroValue t).run P u with
    | ok v u' =>
     rw [hr] at this
     simp only [nx,Result.ok.injEq,Next.value.injEq] at this
     rw [this.1,this.2]
    | halt h u'=>rw [hr] at this; simp [nx] at this
   exact alloc_ok hI hA hd hop hzu fun ρ' a' w' h1 h2 h3=>k ρ' a' w' h1 h2 (by unfold touch; rw [hop]; exact h3)
  ·cases h
 ·rename_i t x hop
  split at h
  ·rename_i cs hc
   simp only [Option.some.injEq,Prod.mk.injEq] at h
   obtain ⟨rfl,rfl,rfl⟩:=h
   obtain ⟨d0,h1,h2⟩:=Option.bind_eq_some_iff.1 hc
   exact box_ok hI hA hd hop h1 h2 fun ρ' a' w' h1 h2 h3=>k ρ' a' w' h1 h2 (by unfold touch; rw [hop]; exact h3)
  ·cases h
 ·rename_i t x y hop
  split at h
  ·rename_i hdn
   have hdn':o.dst=none:=by simpa using hdn
   split at h
   ·rename_i b z i kk ds n hx hc hsz
    obtain ⟨d0,h1,h2⟩:=Option.bind_eq_some_iff.1 hc
    split at h
    ·rename_i hcond
     simp only [Bool.and_eq_true,beq_iff_eq] at hcond
     split at h
     ·rename_i T cs hm
      split at h
      ·rename_i hc2
       simp only [Bool.and_eq_true,beq_iff_eq,decide_eq_true_eq] at hc2
       simp only [Option.some.injEq,Prod.mk.injEq] at h
       obtain ⟨rfl,rfl,rfl⟩:=h
       exact store_ok hI hA hdn' hop hx h1 h2 hsz hcond.1 hcond.2 (.inl ⟨T,cs,hm,hc2.1,hc2.2,rfl⟩) fun ρ' a' w' h1 h2 h3=>k ρ' a' w' h1 h2 (by unfold touch; rw [hop]; simp only; rw [hx]; exact h3)
      ·cases h
     ·rename_i T z' m f hm
      split at h
      ·rename_i hc2
       simp only [Bool.and_eq_true,beq_iff_eq,decide_eq_true_eq] at hc2
       simp only [Option.some.injEq,Prod.mk.injEq] at h
       obtain ⟨rfl,rfl,rfl⟩:=h
       obtain ⟨⟨rfl,hsh⟩,hle⟩:=hc2
       exact store_ok hI hA hdn' hop hx h1 h2 hsz hcond.1 hcond.2 (.inr ⟨T,m,f,hm,hsh,hle,hn _ (List.mem_singleton.2 rfl),rfl⟩) fun ρ' a' w' h1 h2 h3=>k ρ' a' w' h1 h2 (by unfold touch; rw [hop]; simp only; rw [hx]; exact h3)
      ·cases h
     ·cases h
    ·cases h
   ·cases h
  ·cases h
 ·rename_i t l c hop
  split at h
  ·rename_i e kl n kc n' hu hl hc
   split at h
   ·rename_i i hi
    split at h
    ·rename_i zv hz
     split at h
     ·rename_i hcond
      simp only [Bool.and_eq_true,beq_iff_eq,decide_eq_true_eq] at hcond
      simp only [Option.some.injEq,Prod.mk.injEq] at h
      obtain ⟨rfl,rfl,rfl⟩:=h
      obtain ⟨n0,n1,n2,n3⟩:=hn _ (List.mem_singleton.2 rfl)
      exact make_ok hI hA hd hop hu hl hc hi hz hcond.1.1 hcond.1.2 hcond.2 n0 n1 n2 n3 fun ρ' a' w' h1 h2 h3=>k ρ' a' w' h1 h2 (by unfold touch; rw [hop]; exact h3)
     ·cases h
    ·cases h
   ·cases h
  ·cases h
 ·rename_i t len parts hop
  split at h
  ·rename_i e dss hu hl
   split at h
   ·rename_i i hi
    split at h
    ·rename_i hcond
     simp only [Bool.and_eq_true,decide_eq_true_eq] at hcond
     simp only [Option.some.injEq,Prod.mk.injEq] at h
     obtain ⟨rfl,rfl,rfl⟩:=h
     obtain ⟨⟨⟨⟨⟨c1,c2⟩,c3⟩,c4⟩,c5⟩,c6⟩:=hcond
     refine build_ok hI hA hd hop hu hl hi c1 ?_ c3 c4 c5 c6 fun ρ' a' w' h1 h2 h3=>k ρ' a' w' h1 h2 (by unfold touch; rw [hop]; exact h3)
     simpa only [Bool.and_eq_true] using c2
    ·cases h
   ·cases h
  ·cases h
 ·rename_i c hop
  split at h
  ·rename_i x y t t' hcal hargs htys
   split at h
   ·rename_i e b n dy hu hx hy
    split at h
    ·rename_i T z m f i hm hi
     split at h
     ·rename_i kk g hk zv hmore hz
      split at h
      ·rename_i hcond
       simp only [Bool.and_eq_true,beq_iff_eq,decide_eq_true_eq] at hcond
       simp only [Option.some.injEq,Prod.mk.injEq] at h
       obtain ⟨rfl,rfl,rfl⟩:=h
       obtain ⟨⟨rfl,n1⟩,n2,n3⟩:=hn _ (List.mem_singleton.2 rfl)
       obtain ⟨⟨⟨⟨⟨rfl,rfl⟩,c3⟩,c4⟩,c5⟩,c6⟩:=hcond
       exact append_ok hI hA hd hop hcal hargs htys hu (look_rep hI hx pt_nil) hy hm hi hz c3 c4 c5 hmore n1 n2 n3 c6 fun ρ' a' w' h1 h2 h3=>k ρ' a' w' h1 h2 (by unfold touch; rw [hop]; simp only; rw [hargs]; simp only; rw [hx]; exact h3)
      ·cases h
     ·cases h
    ·cases h
   ·rename_i e d hu hx hy
    split at h
    ·rename_i i hi
     split at h
     ·rename_i kk g hk zv hmore hz
      split at h
      ·rename_i hcond
       simp only [Bool.and_eq_true,beq_iff_eq,decide_eq_true_eq] at hcond
       simp only [Option.some.injEq,Prod.mk.injEq] at h
       obtain ⟨rfl,rfl,rfl⟩:=h
       obtain ⟨n1,n2,n3⟩:=hn _ (List.mem_singleton.2 rfl)
       obtain ⟨⟨⟨rfl,c4⟩,c5⟩,c6⟩:=hcond
       have hI1:=inv_new hI (Below.refl _ _) (x:=none) (ob := .row e i.size 0 fun _=>[]) (fun y hy=>by cases hy) (.inl ⟨by simp,rfl⟩)
       have hxe:a.eval x = .slice none 0 0:=repO_v (look_rep hI hx pt_nil)
       have hA1:gpath ops { s with mem:=s.mem++[.row e i.size 0 fun _=>[]] } o=some []:=hA
       have hlast:(ρ ++ [none])[s.mem.length]? = some (none:Option (Nat×Nat)):=by rw [← hI.len]; simp
       refine append_ok hI1 hA1 hd hop hcal hargs htys hu (b:=s.mem.length) (n:=0) (by rw [hxe]; exact .one (.h0 hlast)) (hy_more hy) (by simp) hi hz rfl c4 c5 hmore n1 n2 n3 c6 fun ρ' a' w' h1 h2 h3=>k ρ' a' w' h1 h2 ?_
       have ht:touch s o=[]:=by
        unfold touch
        rw [hop]
        simp only
        rw [hargs]
        simp only
        rw [hx]
       rw [ht]
       refine ⟨fun j hj _=>h3.keep j hj fun b hb c => ?_,fun b j c hb hj => ?_⟩
       ·rw [List.mem_singleton.1 hb,hlast]; intro h; cases h
       ·obtain ⟨c',hc'⟩:=h3.new b j c hb hj
        rcases Nat.lt_or_ge b ρ.length with h4|h4
        ·rw [List.getElem?_append_left h4] at hc'; exact ⟨c',hc'⟩
        ·rw [List.getElem?_append_right h4] at hc'
         rcases Nat.eq_zero_or_pos (b - ρ.length) with h5|h5
         ·rw [h5] at hc'; simp at hc'
         ·rw [List.getElem?_eq_none (by simp; omega)] at hc'; cases hc'
      ·cases h
     ·cases h
    ·cases h
   ·cases h
  ·rename_i x y t t' hcal hargs htys
   split at h
   ·rename_i e dx dy hu hx hy
    split at h
    ·rename_i b z q n z1 hp hz1
     split at h
     ·rename_i T z' m f kk g hk hm hmore
      split at h
      ·rename_i hcond
       simp only [Bool.and_eq_true,beq_iff_eq,decide_eq_true_eq] at hcond
       simp only [Option.some.injEq,Prod.mk.injEq] at h
       obtain ⟨rfl,rfl,rfl⟩:=h
       obtain ⟨n1,n2⟩:=hn _ (List.mem_singleton.2 rfl)
       obtain ⟨⟨rfl,rfl⟩,c3⟩:=hcond
       refine copy_ok hI hA hd hop hcal hargs htys hu hx hy hp hz1 c3 hm hmore n1 n2 fun ρ' a' w' h1 h2 h3=>k ρ' a' w' h1 h2 ?_
       have ht:touch s o=[b]:=by
        unfold touch
        rw [hop]
        simp only
        rw [hargs]
        simp only
        rw [hx]
        unfold placeD at hp
        split at hp
        ·split at hp
         ·simp only [Option.some.injEq,Prod.mk.injEq] at hp
          rw [hp.1]
         ·cases hp
        ·simp only [Option.some.injEq,Prod.mk.injEq] at hp
         simp only [hp.1]
        ·cases hp
       rw [ht]
       exact h3
      ·cases h
     ·cases h
    ·cases h
   ·cases h
  ·cases h
 ·cases h
theorem step_ok (hI:Inv κ B ρ s N a w) {s':St} {obs:List Obl} {need:List Prop} (hs:step P w0 N ops s o=some (s',obs,need)) (hob:∀ q ∈ obs,∀ g u,q.l g u=q.r g u) (hn:∀ p ∈ need,p)
  (k:∀ ρ' a' w',Inv κ B ρ' s' N a' w'→BelB B w w'→wpList P ops Q rest a' w'):wpList P ops Q (o::rest) a w:=by
 unfold step at hs
 split at hs
 ·cases hs
 ·rename_i A hA
  split at hs
  ·rename_i hdc
   simp only [Bool.and_eq_true] at hdc
   obtain ⟨hd,hcl⟩:=hdc
   split at hs
   ·split at hs
    ·rename_i hAe
     obtain rfl:A=[]:=by simpa using hAe
     exact memD_ok hI hA hd hs hob hn fun ρ' a' w' h1 h2 _=>k ρ' a' w' h1 h2
    ·cases hs
   ·obtain ⟨⟨dv,ob',nd'⟩,h1,e⟩:=Option.map_eq_some_iff.1 hs
    simp only [Prod.mk.injEq] at e
    obtain ⟨rfl,rfl,rfl⟩:=e
    refine val_step hI hA hd dv (fun hp=>valD_run hI h1 hob ?_ hp) fun a' hI'=>k ρ a' w hI' (BelB.refl _ _)
    intro p hp1
    unfold gneed at hn
    split at hn
    ·exact hn p hp1
    ·exact hn _ (List.mem_map.2 ⟨p,hp1,rfl⟩) (path_of hI (closedB_of hcl) hp)
  ·cases hs
theorem steps_ok:∀ (l:List Oper) {ρ : Own} {s s':St} {a:Act} {w:World} {obs:List Obl} {need:List Prop},Inv κ B ρ s N a w→steps P w0 N ops l s=some (s',obs,need)→(∀ q ∈ obs,∀ g u,q.l g u=q.r g u)→(∀ p ∈ need,p) →
  (∀ ρ' a' w',Inv κ B ρ' s' N a' w'→BelB B w w'→wpList P ops Q rest a' w')→wpList P ops Q (l++rest) a w
 | [],ρ,s,s',a,w,obs,need,hI,hs,_,_,k=>by
  simp only [steps,Option.some.injEq,Prod.mk.injEq] at hs
  obtain ⟨rfl,rfl,rfl⟩:=hs
  exact k ρ a w hI (BelB.refl _ _)
 | o::r,ρ,s,s',a,w,obs,need,hI,hs,hob,hn,k=>by
  simp only [steps] at hs
  split at hs
  ·cases hs
  ·rename_i s1 x1 p1 h1
   split at hs
   ·cases hs
   ·rename_i s2 x2 p2 h2
    simp only [Option.some.injEq,Prod.mk.injEq] at hs
    obtain ⟨rfl,rfl,rfl⟩:=hs
    refine step_ok hI h1 (fun q hq=>hob q (List.mem_append_left _ hq)) (fun p hp=>hn p (List.mem_append_left _ hp)) fun ρ1 a1 w1 hI1 hb1 => ?_
    exact steps_ok r hI1 h2 (fun q hq=>hob q (List.mem_append_right _ hq)) (fun p hp=>hn p (List.mem_append_right _ hp)) fun ρ2 a2 w2 hI2 hb2=>k ρ2 a2 w2 hI2 (hb1.trans hb2)
theorem take_get {m b:Nat} {x:Option (Nat×Nat)} (h:(ρ.take m)[b]? = some x) : ρ[b]? = some x∧b<m:=by
 rw [List.getElem?_take] at h
 split at h
 ·rename_i hb; exact ⟨h,hb⟩
 ·cases h
theorem okW_take {m:Nat} (b:Nat) (h:okW κ w ρ b):okW κ w (ρ.take m) b∧w.heap[b]? = w.heap[b]? := ⟨⟨h.1,fun b' x hx=>h.2 b' x (take_get hx).1⟩,rfl⟩
theorem Rep1.take {m:Nat} (h:Rep1 w (okW κ w ρ) ρ d v) (hu:d.under1 m=true):Rep1 w (okW κ w (ρ.take m)) (ρ.take m) d v:=by
 have get:∀ {b:Nat} {x:Option (Nat×Nat)},b<m → ρ[b]? = some x→(ρ.take m)[b]? = some x:=fun hb hx=>by rw [List.getElem?_take,if_pos hb]; exact hx
 cases h with
 | c h=>exact .c (h.mono okW_take)
 | p h=>exact .p (get (of_decide_eq_true hu) h)
 | h h hn=>exact .h (get (of_decide_eq_true hu) h) hn
 | h0 h=>exact .h0 (get (of_decide_eq_true hu) h)
 | m h hk hc ho=>exact .m (get (of_decide_eq_true hu) h) hk hc ho
 | m0 h=>exact .m0 (get (of_decide_eq_true hu) h)
theorem RepO.take {m:Nat} (h:RepO w (okW κ w ρ) ρ d v) (hu:d.under m=true):RepO w (okW κ w (ρ.take m)) (ρ.take m) d v:=by
 by_cases hr:∃ cs,d = .r cs
 ·obtain ⟨cs,rfl⟩:=hr
  obtain ⟨vs,rfl,hl,hd⟩:=repO_r h
  exact .r hl fun j d v h1 h2=>(hd j d v h1 h2).take (List.all_eq_true.1 hu d (List.mem_of_getElem? h1))
 ·cases h with
  | one h =>
   have e:d.under m=d.under1 m:=by cases d <;> first|rfl|exact absurd ⟨_,rfl⟩ hr|exact absurd h Rep1.not_k
   rw [e] at hu
   exact .one (h.take hu)
  | r hl hd=>exact absurd ⟨_,rfl⟩ hr
  | k hl hd=>exact .k hl fun j d v h1 h2=>(hd j d v h1 h2).take (List.all_eq_true.1 hu d (List.mem_of_getElem? h1))
theorem Inv.sel (hI:Inv κ B ρ s N a w) (ds:List Nat) (m:Nat) (hu:(s.sel ds m).underB m=true):Inv κ B (ρ.take m) (s.sel ds m) N a w:=by
 simp only [St.underB,Bool.and_eq_true,List.all_eq_true,decide_eq_true_eq] at hu
 obtain ⟨hu,hfm⟩:=hu
 refine ⟨hI.size,hI.dfr,fun e he => ?_,by simp [St.sel,hI.len],fun b x hx=>hI.own b x (take_get hx).1,fun b b' x x' h1 h2 e=>hI.nd b b' x x' (take_get h1).1 (take_get h2).1 e,fun b ob hm => ?_,fun x hx=>(hI.gl x hx).mono okW_take,hI.big,hI.hκ,hI.fx,fun i x hk h=>by rw [List.getElem?_take,if_pos (by have:=hI.fx; have h9:s.fx≤m:=hfm; omega)]; exact hI.fix i x hk h⟩
 ·have h1:=hu.1 e he
  obtain ⟨d0,_,hd⟩:=List.mem_filterMap.1 he
  have hk:=hI.tab e (find_mem hd).1
  exact ⟨fun hp=>(hk.yes hp).take h1,hk.no,hk.lt⟩
 ·have hm':(s.mem.take m)[b]? = some ob:=hm
  rw [List.getElem?_take] at hm'
  split at hm'
  ·rename_i hb
   have h1:=hu.2 ob (by show ob ∈ s.mem.take m; exact List.mem_of_getElem? hm)
   have h2:=hI.mem b ob hm'
   have get:∀ {x:Option (Nat×Nat)},ρ[b]? = some x→(ρ.take m)[b]? = some x:=fun hx=>by rw [List.getElem?_take,if_pos hb]; exact hx
   cases ob with
   | dead=>exact get h2
   | var t cs =>
    obtain ⟨g,vs,q1,q2,q3,q4⟩:=h2
    exact ⟨g,vs,get q1,q2,q3,fun j d v k1 k2=>(q4 j d v k1 k2).take (List.all_eq_true.1 h1 d (List.mem_of_getElem? k1))⟩
   | row t z n f =>
    rcases h2 with ⟨q1,q2⟩|⟨g,c,cur,q1,q2,q3,q4,q5,q6⟩
    ·exact .inl ⟨get q1,q2⟩
    ·refine .inr ⟨g,c,cur,get q1,q2,q3,q4,q5,fun i hi=>⟨(q6 i hi).1,(q6 i hi).2.1,fun j d hj => ?_⟩⟩
     obtain ⟨v,k1,k2⟩:=(q6 i hi).2.2 j d hj
     exact ⟨v,k1,k2.mono okW_take⟩
  ·cases hm'
end
end Go.Proofs.Ytkhdnlkdcikdmaa.Dp
