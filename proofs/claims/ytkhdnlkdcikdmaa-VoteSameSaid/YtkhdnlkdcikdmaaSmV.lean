/- Several texts in one: SmEv SmEvTop SmEvHeld. -/
import Derived.Test.YtkhdnlkdcikdmaaSmE
import Derived.StillTail
import Derived.WalkKit
import Derived.Great.BuildSlice
namespace Go.Proofs.Ytkhdnlkdcikdmaa.Ev
open Go.RowKit Go.Proofs.Ytkhdnlkdcikdmaa.Sm
set_option maxHeartbeats 1000000
set_option linter.unusedVariables false
def nth (ρ : List Nat) (b:Nat):Nat:=(ρ[b]?).getD 0
theorem nth_get {ρ : List Nat} {b:Nat} (h:b < ρ.length):nth ρ b = ρ[b]:=by unfold nth; rw [List.getElem?_eq_getElem h]; rfl
theorem nth_mem {ρ : List Nat} {b:Nat} (h:b < ρ.length):nth ρ b ∈ ρ := by rw [nth_get h]; exact List.getElem_mem h
theorem nth_left {ρ : List Nat} {b:Nat} (h:b < ρ.length) (l:List Nat):nth (ρ ++ l) b=nth ρ b:=by unfold nth; rw [List.getElem?_append_left h]
theorem nth_last (ρ : List Nat) (g:Nat):nth (ρ ++ [g]) ρ.length=g:=by unfold nth; rw [List.getElem?_append_right (Nat.le_refl _),Nat.sub_self]; rfl
inductive AV where
 | v (x:Value)
 | p (b o:Nat)
def AV.to (ρ : List Nat):AV→Value
 | .v x=>x
 | .p b o => .pointer (some ⟨nth ρ b,o,none⟩)
def AV.ok (n:Nat):AV→Prop
 | .v _=>True
 | .p b _=>b<n
structure Ent where
 d:Nat
 path:List (Nat×Bool)
 av:AV
structure St where
 tab:List Ent
 mem:List (TypeId×List Value)
 wr:List Nat:=[]
def St.find (s:St) (d:Nat):Option Ent:=s.tab.find? fun e=>e.d == d
def St.look (s:St) (A:List (Nat×Bool)):Operand→Option AV
 | .const x=>some (.v x)
 | .tmp d=>match s.find d with
  | some e=>if e.path.all (fun x=>A.contains x) then some e.av else none
  | none=>none
 | x=>some (.v ((⟨#[],[]⟩:Act).eval x))
def St.put (s:St) (d:Option Nat) (A:List (Nat×Bool)) (av:AV):St:=match d with
 | none=>s
 | some d=>{ s with tab:=⟨d,A,av⟩::s.tab.filter fun e=>e.d != d&&e.path.all fun x=>x.1 != d }
structure Obl where
 l:Nat→World→Result Next
 r:Nat→World→Result Next
def opnds:Op→Option (List Operand)
 | .binOp _ _ x y _=>some [x,y]
 | .unOp _ _ x=>some [x]
 | .convert _ _ x=>some [x]
 | .field _ x _=>some [x]
 | .extract x _=>some [x]
 | .build _ parts=>some (parts.toList.map (·.2))
 | .nilCheck x=>some [x]
 | .makeInterface _ x=>some [x]
 | .index _ x y=>some [x,y]
 | .call c=>some ((match c.callee with | .value f=>[f] | .invoke r _=>[r] | .builtin _=>[])++c.args.toList)
 | _=>none
def gpath (ops:Array Oper) (s:St) (o:Oper):Option (List (Nat×Bool)):=match o.guard with
 | none=>some []
 | some (j,want)=>match (ops[j]?).bind (·.dst) with
  | some m=>(s.find m).map fun e=>(m,want)::e.path
  | none=>none
def pickB (x y:Operand) (b p q:Bool):Bool:=match x,y with
 | .const (.bool true),_=>b||q
 | _,.const (.bool false)=>b&&p
 | _,_=>bif b then p else q
def plainV (s:St) (A:List (Nat×Bool)) (x:Operand):Option Value:=match s.look A x with
 | some (.v v)=>some v
 | _=>none
def pureS (P:Program) (w0:World) (s:St) (A:List (Nat×Bool)) (o:Oper):Option (AV×List Obl) :=
 match opnds o.op with
 | none=>none
 | some l =>
  if l.all (fun x=>(plainV s A x).isSome) then
   match (execOp (fun x=>(plainV s A x).getD undef) o).run P w0 with
   | .ok (.value v) _=>some (.v v,[⟨fun _ u=>(execOp (fun x=>(plainV s A x).getD undef) o).run P u,fun _ u => .ok (.value v) u⟩])
   | _=>none
  else none
def loadS (P:Program) (s:St) (b k:Nat) (t:TypeId):Option AV :=
 match s.mem[b]? with
 | none=>none
 | some (_,cs) =>
  match (P.underlying t).map (·.isRow) with
  | some false=>(cs[k]?).map .v
  | some true=>match (P.info? t).map (·.size) with
   | some n=>if decide (k+n≤cs.length) then some (.v (.agg ((cs.drop k).take n).toArray)) else none
   | none=>none
  | none=>none
def valS (P:Program) (w0:World) (s:St) (A:List (Nat×Bool)) (o:Oper):Option (AV×List Obl) :=
 match o.op with
 | .move x=>(s.look A x).map fun av=>(av,[])
 | .assign x=>(s.look A x).map fun av=>(av,[])
 | .pick (.tmp c) x y=>match s.look A (.tmp c),s.look ((c,true)::A) x,s.look ((c,false)::A) y with
  | some (.v (.bool b)),some (.v (.bool p)),some (.v (.bool q))=>some (.v (.bool (pickB x y b p q)),[])
  | _,_,_=>none
 | .fieldAddr _ x _=>match s.look A x with
  | some (.p b k)=>match (execOp (fun _ => .pointer (some ⟨0,k,none⟩)) o).run P w0 with
   | .ok (.value (.pointer (some a))) _=>some (.p b a.off,[⟨fun g u=>(execOp (fun _ => .pointer (some ⟨g,k,none⟩)) o).run P u,fun g u => .ok (.value (.pointer (some ⟨g,a.off,none⟩))) u⟩])
   | _=>none
  | _=>none
 | .load t x=>match s.look A x with
  | some (.p b k)=>(loadS P s b k t).map fun av=>(av,[])
  | _=>none
 | .nilCheck x=>match s.look A x with
  | some (.p b k)=>some (.p b k,[])
  | _=>pureS P w0 s A o
 | _=>pureS P w0 s A o
def nx:Result Value→Result Next
 | .ok v w => .ok (.value v) w
 | .halt h w => .halt h w
def St.setMem (s:St) (b:Nat) (x:TypeId×List Value):St:={ s with mem:=s.mem.set b x,wr:=b::s.wr }
def dstB (N:Nat) (A:List (Nat×Bool)) (dst:Option Nat):Bool:=match dst with
 | some d=>decide (d<N)&&A.all (fun x=>x.1 != d)
 | none=>true
def step (P:Program) (w0:World) (N:Nat) (ops:Array Oper) (s:St) (o:Oper):Option (St×List Obl) :=
  match gpath ops s o with
  | none=>none
  | some A =>
    if dstB N A o.dst then
      match o.op with
      | .alloc t=>if A.isEmpty then
          match (zeroValue t).run P w0 with
          | .ok z _=>some (({ s with mem:=s.mem++[(t,z.cells.toList)] }:St).put o.dst [] (.p s.mem.length 0),[⟨fun _ u=>nx ((zeroValue t).run P u),fun _ u => .ok (.value z) u⟩])
          | _=>none
        else none
      | .box t x=>if A.isEmpty then
          match plainV s [] x with
          | some v=>some (({ s with mem:=s.mem++[(t,v.cells.toList)] }:St).put o.dst [] (.p s.mem.length 0),[])
          | none=>none
        else none
      | .store t x y=>if A.isEmpty&&o.dst.isNone then
          match s.look [] x,plainV s [] y with
          | some (.p b k),some v=>match s.mem[b]? with
            | some (T,cs)=>if (P.info? t).map (·.size) == some v.cells.size&&v.cells.toList.all (·.oneCell')&&decide (k+v.cells.toList.length≤cs.length) then
                some (s.setMem b (T,cs.take k++v.cells.toList++cs.drop (k+v.cells.toList.length)),[])
              else none
            | none=>none
          | _,_=>none
        else none
      | _=>(valS P w0 s A o).map fun x=>(s.put o.dst A x.1,x.2)
    else none
def steps (P:Program) (w0:World) (N:Nat) (ops:Array Oper):List Oper→St→Option (St×List Obl)
 | [],s=>some (s,[])
 | o::r,s=>match step P w0 N ops s o with
  | none=>none
  | some (s1,x1)=>match steps P w0 N ops r s1 with
   | none=>none
   | some (s2,x2)=>some (s2,x1++x2)
def PT (a:Act) (A:List (Nat×Bool)):Prop:=∀ x ∈ A,sl a x.1 = .bool x.2
structure EntOk (ρ : List Nat) (a:Act) (e:Ent):Prop where
 yes:PT a e.path→sl a e.d=e.av.to ρ
 no:¬ PT a e.path→sl a e.d=undef
 lt:e.d<a.tmps.size
 ok:e.av.ok ρ.length
structure Inv (B:Nat) (ρ : List Nat) (s:St) (N:Nat) (a:Act) (w:World):Prop where
 size:a.tmps.size=N
 dfr:a.defers=[]
 tab:∀ e ∈ s.tab,EntOk ρ a e
 len : ρ.length=s.mem.length
 nd : ρ.Nodup
 mem:∀ b t cs,s.mem[b]? = some (t,cs)→Ob w (nth ρ b) t cs
 base:∀ g ∈ ρ,B≤g
 big:B≤w.heap.size
 wrok:∀ b ∈ s.wr,b < ρ.length
structure Ran (B:Nat) (ρ ρ':List Nat) (s s':St) (w w':World):Prop where
 below:Below B w w'
 pre:∀ b,b < ρ.length→nth ρ' b=nth ρ b
 new:∀ b,ρ.length≤b→b < ρ'.length→w.heap.size≤nth ρ' b
 le : ρ.length ≤ ρ'.length
 wrs:∀ b ∈ s.wr,b ∈ s'.wr
 keep:∀ j,j<w.heap.size→(∀ b ∈ s'.wr,nth ρ' b≠j)→w'.heap[j]? = w.heap[j]?
theorem Ran.refl (B:Nat) (ρ : List Nat) (s s':St) (h:∀ b ∈ s.wr,b ∈ s'.wr) (w:World):Ran B ρ ρ s s' w w :=
 ⟨Below.refl _ _,fun _ _=>rfl,fun _ h1 h2=>absurd h2 (Nat.not_lt.2 h1),Nat.le_refl _,h,fun _ _ _=>rfl⟩
theorem Ran.trans {B:Nat} {ρ ρ1 ρ2:List Nat} {s s1 s2:St} {w w1 w2:World} (h:Ran B ρ ρ1 s s1 w w1) (h':Ran B ρ1 ρ2 s1 s2 w1 w2) (hw:∀ b ∈ s1.wr,b < ρ1.length):Ran B ρ ρ2 s s2 w w2:=by
 refine ⟨h.below.trans h'.below,fun b hb=>(h'.pre b (Nat.lt_of_lt_of_le hb h.le)).trans (h.pre b hb),?_,Nat.le_trans h.le h'.le,fun b hb=>h'.wrs b (h.wrs b hb),?_⟩
 ·intro b h1 h2
  rcases Nat.lt_or_ge b ρ1.length with hb|hb
  ·rw [h'.pre b hb]; exact h.new b h1 hb
  ·exact Nat.le_trans h.below.size (h'.new b hb h2)
 ·intro j hj hn
  rw [h'.keep j (Nat.lt_of_lt_of_le hj h.below.size) hn]
  exact h.keep j hj fun b hb=>by rw [← h'.pre b (hw b hb)]; exact hn b (h'.wrs b hb)
theorem Ran.fresh {B:Nat} {ρ ρ':List Nat} {s s':St} {w w':World} (h:Ran B ρ ρ' s s' w w') (hl : ρ.length=s.mem.length) (hw:∀ b ∈ s'.wr,b < ρ'.length) (hf:s'.wr.all (fun b=>decide (s.mem.length≤b))=true):Below w.heap.size w w':=by
 refine ⟨h.below.os,h.below.tape,h.below.output,h.below.size,fun j hj=>h.keep j hj fun b hb => ?_⟩
 have h1:=of_decide_eq_true (List.all_eq_true.1 hf b hb)
 have:=h.new b oM (hw b hb)
 omega
section
variable {B N:Nat} {ρ : List Nat} {s:St} {a:Act} {w:World} {A:List (Nat×Bool)} {o:Oper} {ops:Array Oper} {P:Program}
theorem find_mem {d:Nat} {e:Ent} (h:s.find d=some e):e ∈ s.tab∧e.d=d:=by
 unfold St.find at h
 exact ⟨List.mem_of_find?_eq_some h,by simpa using List.find?_some h⟩
theorem undef_bool (b:Bool):(undef:Value) ≠ .bool b:=by intro h; cases h
theorem wanted_iff (hI:Inv B ρ s N a w) (hA:gpath ops s o=some A):Region.wanted o (yielded ops a.tmps)=true↔PT a A:=by
 unfold gpath at hA
 unfold Region.wanted
 split at hA
 ·rename_i hg
  injection hA with hA
  subst hA
  rw [hg]
  exact ⟨fun _ x hx=>(nomatch hx),fun _=>rfl⟩
 ·rename_i j want hg
  rw [hg]
  split at hA
  ·rename_i m hm
   obtain ⟨e,he,rfl⟩:=Option.map_eq_some_iff.1 hA
   obtain ⟨hin,rfl⟩:=find_mem he
   have hk:=hI.tab e hin
   have hy:yielded ops a.tmps j=some want↔sl a e.d = .bool want:=by
    unfold yielded
    rw [hm,Option.bind_some,sl_get hk.lt]
    cases hv:sl a e.d <;> simp
   show (yielded ops a.tmps j == some want)=true↔_
   rw [beq_iff_eq,hy]
   constructor
   ·intro hb
    intro x hx
    rcases List.mem_cons.1 hx with rfl|hx
    ·exact hb
    ·by_cases hp:PT a e.path
     ·exact hp x hx
     ·exact absurd ((hk.no hp).symm.trans hb) (undef_bool _)
   ·intro h
    exact h (e.d,want) (List.mem_cons_self ..)
  ·cases hA
theorem look_eval (hI:Inv B ρ s N a w) {x:Operand} {av:AV} (h:s.look A x=some av) (hp:PT a A):a.eval x=av.to ρ ∧ av.ok ρ.length:=by
 unfold St.look at h
 split at h
 ·injection h with h
  subst h
  exact ⟨rfl,trivial⟩
 ·rename_i d
  split at h
  ·rename_i e he
   split at h
   ·rename_i hall
    injection h with h
    subst h
    obtain ⟨hin,rfl⟩:=find_mem he
    have hk:=hI.tab e hin
    refine ⟨hk.yes fun x hx => ?_,hk.ok⟩
    have:=List.all_eq_true.1 hall x hx
    exact hp x (by simpa using this)
   ·cases h
  ·cases h
 ·rename_i h1 h2
  injection h with h
  subst h
  refine ⟨?_,trivial⟩
  cases x with
  | const y=>exact absurd rfl (h1 y)
  | tmp y=>exact absurd rfl (h2 y)
  | _=>rfl
theorem look_ok (hI:Inv B ρ s N a w) {x:Operand} {av:AV} (h:s.look A x=some av):av.ok ρ.length:=by
 unfold St.look at h
 split at h
 ·injection h with h
  subst h
  trivial
 ·split at h
  ·rename_i e he
   split at h
   ·injection h with h
    subst h
    exact (hI.tab e (find_mem he).1).ok
   ·cases h
  ·cases h
 ·injection h with h
  subst h
  trivial
theorem plainV_eval (hI:Inv B ρ s N a w) {x:Operand} {v:Value} (h:plainV s A x=some v) (hp:PT a A):a.eval x=v:=by
 unfold plainV at h
 split at h
 ·rename_i v' hv
  injection h with h
  subst h
  exact (look_eval hI hv hp).1
 ·cases h
theorem pt_put {d:Nat} {v:Value} {A:List (Nat×Bool)} (h:A.all (fun x=>x.1 != d)=true):PT (a.put (some d) v) A↔PT a A:=by
 have hk:∀ x ∈ A,sl (a.put (some d) v) x.1=sl a x.1:=fun x hx=>sl_put_ne (by simpa using List.all_eq_true.1 h x hx)
 exact ⟨fun hp x hx=>(hk x hx).symm.trans (hp x hx),fun hp x hx=>(hk x hx).trans (hp x hx)⟩
theorem inv_put (hI:Inv B ρ s N a w) {dst:Option Nat} {av:AV} {v:Value} (hd:dstB N A dst=true) (hok:av.ok ρ.length)
  (hy:PT a A→v=av.to ρ) (hn:¬ PT a A→v=undef):Inv B ρ (s.put dst A av) N (a.put dst v) w:=by
 cases dst with
 | none=>exact hI
 | some d =>
  simp only [dstB,Bool.and_eq_true,decide_eq_true_eq] at hd
  refine ⟨put_size.trans hI.size,hI.dfr,?_,hI.len,hI.nd,hI.mem,hI.base,hI.big,hI.wrok⟩
  intro e he
  have hlt:d<a.tmps.size:=by rw [hI.size]; exact hd.1
  rcases List.mem_cons.1 he with rfl|he
  ·refine ⟨fun hp => ?_,fun hp => ?_,by rw [put_size]; exact hlt,hok⟩
   ·rw [sl_put_same hlt]; exact hy ((pt_put hd.2).1 hp)
   ·rw [sl_put_same hlt]; exact hn fun h=>hp ((pt_put hd.2).2 h)
  ·obtain ⟨hin,hf⟩:=List.mem_filter.1 he
   simp only [Bool.and_eq_true,bne_iff_ne,ne_eq] at hf
   have hk:=hI.tab e hin
   refine ⟨fun hp => ?_,fun hp => ?_,by rw [put_size]; exact hk.lt,hk.ok⟩
   ·rw [sl_put_ne hf.1]; exact hk.yes ((pt_put hf.2).1 hp)
   ·rw [sl_put_ne hf.1]; exact hk.no fun h=>hp ((pt_put hf.2).2 h)
theorem AV.to_more {av:AV} (h:av.ok ρ.length) (g:Nat):av.to (ρ ++ [g])=av.to ρ := by
 cases av with
 | v x=>rfl
 | p b k =>
  have hb:b < ρ.length:=h
  simp only [AV.to]
  rw [nth_left hb]
theorem AV.ok_more {av:AV} (h:av.ok ρ.length) (g:Nat):av.ok (ρ ++ [g]).length:=by
 cases av with
 | v x=>trivial
 | p b k=>exact Nat.lt_of_lt_of_le h (by simp)
theorem inv_new (hI:Inv B ρ s N a w) {g:Nat} {W:World} {t:TypeId} {cs:List Value} (hn:NewB w W g t cs):Inv B (ρ ++ [g]) { s with mem:=s.mem++[(t,cs)] } N a W:=by
 have hlt:∀ b,b < ρ.length→nth ρ b<w.heap.size:=fun b hb=>by
  have hb':b<s.mem.length:=by rw [← hI.len]; exact hb
  exact (hI.mem b _ _ (List.getElem?_eq_getElem hb')).lt
 refine ⟨hI.size,hI.dfr,?_,by simp [hI.len],?_,?_,?_,Nat.le_trans hI.big hn.below.size,fun b hb=>Nat.lt_of_lt_of_le (hI.wrok b hb) (by simp)⟩
 ·intro e he
  have hk:=hI.tab e he
  exact ⟨fun hp=>by rw [AV.to_more hk.ok]; exact hk.yes hp,hk.no,hk.lt,AV.ok_more hk.ok g⟩
 ·refine List.nodup_append.2 ⟨hI.nd,by simp,?_⟩
  intro x hx y hy
  rw [List.mem_singleton.1 hy,hn.is_]
  obtain ⟨b,hb,rfl⟩:=List.getElem_of_mem hx
  have:=hlt b hb
  rw [nth_get hb] at this
  exact Nat.ne_of_lt this
 ·intro b t' cs' hm
  rcases Nat.lt_or_ge b s.mem.length with hb|hb
  ·rw [List.getElem?_append_left hb] at hm
   rw [nth_left (by rw [hI.len]; exact hb)]
   exact (hI.mem b t' cs' hm).below hn.below (hlt b (by rw [hI.len]; exact hb))
  ·rw [List.getElem?_append_right hb] at hm
   have h0:b-s.mem.length=0:=by
    rcases Nat.eq_zero_or_pos (b-s.mem.length) with h|h
    ·exact h
    ·rw [List.getElem?_eq_none (by simp; omega)] at hm; cases hm
   rw [h0] at hm
   simp only [List.getElem?_cons_zero,Option.some.injEq,Prod.mk.injEq] at hm
   obtain ⟨rfl,rfl⟩:=hm
   have hbl:b = ρ.length:=by have:=hI.len; omega
   subst hbl
   rw [nth_last]
   exact hn.ob
 ·intro x hx
  rcases List.mem_append.1 hx with h|h
  ·exact hI.base x h
  ·rw [List.mem_singleton.1 h,hn.is_]; exact hI.big
theorem inv_set (hI:Inv B ρ s N a w) {b:Nat} {T:TypeId} {cs:List Value} (hb:b < ρ.length) {W:World} (hbs:Beside (nth ρ b) w W) (ho:Ob W (nth ρ b) T cs):Inv B ρ (s.setMem b (T,cs)) N a W:=by
 refine ⟨hI.size,hI.dfr,hI.tab,by simp [St.setMem,hI.len],hI.nd,?_,hI.base,Nat.le_trans hI.big hbs.size,fun x hx=>by rcases List.mem_cons.1 hx with rfl|hx; exact hb; exact hI.wrok x hx⟩
 intro c t' cs' hm
 have hm':(s.mem.set b (T,cs))[c]? = some (t',cs'):=hm
 by_cases hc:c=b
 ·subst hc
  rw [List.getElem?_set_self (by rw [← hI.len]; exact hb)] at hm'
  simp only [Option.some.injEq,Prod.mk.injEq] at hm'
  obtain ⟨rfl,rfl⟩:=hm'
  exact ho
 ·rw [List.getElem?_set_ne (Ne.symm hc)] at hm'
  refine (hI.mem c t' cs' hm').beside hbs ?_
  have hcl:c < ρ.length:=by
   rw [hI.len]
   exact (List.getElem?_eq_some_iff.1 hm').1
  rw [nth_get hcl,nth_get hb]
  intro he
  exact hc ((List.getElem_inj hI.nd).1 he)
theorem Inv.later (hI:Inv B ρ s N a w) {W:World} (hb:Below w.heap.size w W):Inv B ρ s N a W:=by
 refine ⟨hI.size,hI.dfr,hI.tab,hI.len,hI.nd,fun b t cs hm => ?_,hI.base,Nat.le_trans hI.big hb.size,hI.wrok⟩
 have:=hI.mem b t cs hm
 exact this.below hb this.lt
theorem execOp_congr {ρ₁ ρ₂:Operand→Value} {l:List Operand} (hl:opnds o.op=some l) (h:∀ x ∈ l,ρ₁ x = ρ₂ x):execOp ρ₁ o=execOp ρ₂ o:=by
  unfold execOp
  unfold opnds at hl
  split at hl <;> rename_i hop <;> first|(cases hl; done)|(injection hl with hl; subst hl; rw [hop]; try simp only [List.mem_cons,List.not_mem_nil,or_false,forall_eq_or_imp,forall_eq] at h)
  all_goals first
    | (rw [h.1,h.2]; done)
    | (rw [h]; done)
    | (simp only [h]; done)
    | (rename_i t parts
       have e:(parts.map fun x=>(x.1,ρ₁ x.2))=parts.map fun x=>(x.1,ρ₂ x.2):=by
         refine Array.map_congr_left fun x hx => ?_
         rw [h x.2 (List.mem_map.2 ⟨x,by simpa using hx,rfl⟩)]
       exact congrArg (fun z=>(do pure (.value (← Instr.build t z)):Sem Next)) e)
    | (rename_i c
       have e:c.args.map ρ₁=c.args.map ρ₂:=Array.map_congr_left fun x hx=>h x (List.mem_append_right _ (by simpa using hx))
       have e2:resolve ρ₁ c o.type=resolve ρ₂ c o.type:=by
         unfold resolve
         rw [e]
         cases hc:c.callee with
         | value f=>rw [hc] at h; simp only [h f (List.mem_append_left _ (List.mem_singleton.2 rfl))]
         | invoke r n=>rw [hc] at h; simp only [h r (List.mem_append_left _ (List.mem_singleton.2 rfl))]
         | builtin b=>rfl
       simp only [e2])
section
variable {rest:List Oper} {Q:Exit→Act→World→Prop} {w0:World}
theorem val_step (hI:Inv B ρ s N a w) (hA:gpath ops s o=some A) (hd:dstB N A o.dst=true) (av:AV) (hok:av.ok ρ.length)
  (hrun:PT a A→(execOp a.eval o).run P w = .ok (.value (av.to ρ)) w) (k:∀ a',Inv B ρ (s.put o.dst A av) N a' w→wpList P ops Q rest a' w):wpList P ops Q (o::rest) a w:=by
 by_cases hp:PT a A
 ·exact wpList_go ((wanted_iff hI hA).2 hp) (hrun hp) (k _ (inv_put hI hd hok (fun _=>rfl) (fun h=>absurd hp h)))
 ·have hw:Region.wanted o (yielded ops a.tmps)=false:=by
   rw [Bool.eq_false_iff]
   exact fun h=>hp ((wanted_iff hI hA).1 h)
  exact wpList_skip hw (k _ (inv_put hI hd hok (fun h=>absurd h hp) (fun _=>rfl)))
theorem isRow_false {t:TypeId} (h:(P.underlying t).map (·.isRow)=some false) {d:Addr} {v:Value} {u:World} (hc:u.cell? d=some v):(Instr.loadAt t (.pointer (some d))).run P u = .ok v u:=by
 obtain ⟨y,hu,hd⟩:=Option.map_eq_some_iff.1 h
 have hagg:(isAgg t).run P u = .ok false u:=by
  unfold isAgg
  rw [Sem.run_bind,run_underlying hu u]
  cases y <;> simp_all
 simp [Instr.loadAt,Instr.sureAddr,loadVar,hagg,hc]
theorem loadS_run {b k:Nat} {t:TypeId} {av:AV} (hI:Inv B ρ s N a w) (h:loadS P s b k t=some av):(Instr.loadAt t (.pointer (some ⟨nth ρ b,k,none⟩))).run P w = .ok (av.to ρ) w∧av.ok ρ.length:=by
 unfold loadS at h
 split at h
 ·cases h
 ·rename_i T cs hm
  have ho:=hI.mem b T cs hm
  split at h
  ·rename_i hr
   obtain ⟨v,hv,rfl⟩:=Option.map_eq_some_iff.1 h
   exact ⟨isRow_false hr (ho.cell hv),trivial⟩
  ·rename_i hr
   split at h
   ·rename_i n hn
    split at h
    ·rename_i hle
     injection h with h
     subst h
     obtain ⟨y,hu,hd⟩:=Option.map_eq_some_iff.1 hr
     have hle':=of_decide_eq_true hle
     refine ⟨run_loadAt_mid w _ k t ((cs.drop k).take n) y ?_ hu hd ?_,trivial⟩
     ·intro j v hv
      refine ho.cell ?_
      rw [List.getElem?_take] at hv
      split at hv
      ·rwa [List.getElem?_drop] at hv
      ·cases hv
     ·rw [hn,List.length_take,List.length_drop]
      congr 1
      omega
    ·cases h
   ·cases h
  ·cases h
theorem pureS_run (hI:Inv B ρ s N a w) {av:AV} {obs:List Obl} (h:pureS P w0 s A o=some (av,obs)) (hob:∀ q ∈ obs,∀ g u,q.l g u=q.r g u) (hp:PT a A):(execOp a.eval o).run P w = .ok (.value (av.to ρ)) w:=by
 unfold pureS at h
 split at h
 ·cases h
 ·rename_i l hl
  split at h
  ·rename_i hall
   split at h
   ·rename_i v _ hv
    injection h with h
    injection h with h1 h2
    subst h1 h2
    have:=hob _ (List.mem_singleton.2 rfl) 0 w
    rw [execOp_congr hl (ρ₂:=fun x=>(plainV s A x).getD undef)]
    ·exact this
    ·intro x hx
     obtain ⟨y,hy⟩:=Option.isSome_iff_exists.1 (List.all_eq_true.1 hall x hx)
     rw [hy]
     exact plainV_eval hI hy hp
   ·cases h
  ·cases h
theorem pureS_ok {av:AV} {obs:List Obl} (h:pureS P w0 s A o=some (av,obs)) (n:Nat):av.ok n:=by
 unfold pureS at h
 split at h
 ·cases h
 ·split at h
  ·split at h
   ·injection h with h
    injection h with h1 h2
    subst h1
    trivial
   ·cases h
  ·cases h
theorem valS_run (hI:Inv B ρ s N a w) {av:AV} {obs:List Obl} (h:valS P w0 s A o=some (av,obs)) (hob:∀ q ∈ obs,∀ g u,q.l g u=q.r g u):(PT a A→(execOp a.eval o).run P w = .ok (.value (av.to ρ)) w)∧av.ok ρ.length:=by
 unfold valS at h
 split at h
 ·rename_i x hop
  obtain ⟨av',hx,e⟩:=Option.map_eq_some_iff.1 h
  injection e with e1 e2
  subst e1
  refine ⟨fun hp => ?_,look_ok hI hx⟩
  unfold execOp
  rw [hop,← (look_eval hI hx hp).1]
  rfl
 ·rename_i x hop
  obtain ⟨av',hx,e⟩:=Option.map_eq_some_iff.1 h
  injection e with e1 e2
  subst e1
  refine ⟨fun hp => ?_,look_ok hI hx⟩
  unfold execOp
  rw [hop,← (look_eval hI hx hp).1]
  rfl
 ·rename_i c x y hop
  split at h
  ·rename_i b p q hc hx hy
   injection h with h
   injection h with h1 h2
   subst h1
   refine ⟨fun hp => ?_,trivial⟩
   have ec:=(look_eval hI hc hp).1
   have hpk:pickB x y b p q=(if b=true then p else q):=by
    unfold pickB
    split
    ·have:p=true:=by
      simp only [St.look,Option.some.injEq,AV.v.injEq,Value.bool.injEq] at hx
      exact hx.symm
     subst this
     cases b <;> rfl
    ·have:q=false:=by
      simp only [St.look,Option.some.injEq,AV.v.injEq,Value.bool.injEq] at hy
      exact hy.symm
     subst this
     cases b <;> simp
    ·cases b <;> rfl
   unfold execOp
   rw [hop,hpk]
   have ec':a.eval (.tmp c) = .bool b:=ec
   cases b with
   | true =>
    have ex:=(look_eval hI hx (fun z hz=>by rcases List.mem_cons.1 hz with rfl|hz; exact ec'; exact hp z hz)).1
    simp [ec',ex,asBool,AV.to]
   | false =>
    have ey:=(look_eval hI hy (fun z hz=>by rcases List.mem_cons.1 hz with rfl|hz; exact ec'; exact hp z hz)).1
    simp [ec',ey,asBool,AV.to]
  ·cases h
 ·rename_i t x f hop
  split at h
  ·rename_i b k hx
   split at h
   ·rename_i a' _ hr
    injection h with h
    injection h with h1 h2
    subst h1 h2
    refine ⟨fun hp => ?_,(show b < ρ.length from look_ok hI hx)⟩
    have ex:=(look_eval hI hx hp).1
    have:=hob _ (List.mem_singleton.2 rfl) (nth ρ b) w
    have e:execOp a.eval o=execOp (fun _ => .pointer (some ⟨nth ρ b,k,none⟩)) o:=by
     unfold execOp
     rw [hop]
     simp only [ex,AV.to]
    rw [e]
    exact this
   ·cases h
  ·cases h
 ·rename_i t x hop
  split at h
  ·rename_i b k hx
   obtain ⟨av',hl,e⟩:=Option.map_eq_some_iff.1 h
   injection e with e1 e2
   subst e1
   have hr:=loadS_run hI hl
   refine ⟨fun hp => ?_,hr.2⟩
   unfold execOp
   rw [hop]
   have ex:a.eval x = .pointer (some ⟨nth ρ b,k,none⟩):=(look_eval hI hx hp).1
   simp only [ex,Sem.run_bind,hr.1,Result.andThen_ok,Sem.run_pure]
  ·cases h
 ·rename_i x hop
  split at h
  ·rename_i b k hx
   injection h with h
   injection h with h1 h2
   subst h1
   refine ⟨fun hp => ?_,(show b < ρ.length from look_ok hI hx)⟩
   have ex:a.eval x = .pointer (some ⟨nth ρ b,k,none⟩):=(look_eval hI hx hp).1
   unfold execOp
   rw [hop]
   simp only [ex,Sem.run_pure]
   rfl
  ·exact ⟨pureS_run hI h hob,pureS_ok h _⟩
 ·exact ⟨pureS_run hI h hob,pureS_ok h _⟩
theorem put_wr (s:St) (d:Option Nat) (A:List (Nat×Bool)) (av:AV):(s.put d A av).wr=s.wr:=by cases d <;> rfl
theorem Below.of_new {g:Nat} {W:World} {t:TypeId} {cs:List Value} (hn:NewB w W g t cs) (hB:B≤w.heap.size):Below B w W:=hn.below.mono hB
theorem gpath_nil (hI:Inv B ρ s N a w) (hA:gpath ops s o=some []):Region.wanted o (yielded ops a.tmps)=true:=(wanted_iff hI hA).2 fun _ hx=>(nomatch hx)
theorem step_ok (hI:Inv B ρ s N a w) {s':St} {obs:List Obl} (hs:step P w0 N ops s o=some (s',obs)) (hob:∀ q ∈ obs,∀ g u,q.l g u=q.r g u)
  (k:∀ ρ' a' w',Inv B ρ' s' N a' w'→Ran B ρ ρ' s s' w w'→wpList P ops Q rest a' w'):wpList P ops Q (o::rest) a w:=by
 unfold step at hs
 split at hs
 ·cases hs
 ·rename_i A hA
  split at hs
  ·rename_i hd
   split at hs
   ·rename_i t hop
    split at hs
    ·rename_i hAe
     obtain rfl:A=[]:=by simpa using hAe
     split at hs
     ·rename_i z _ hz
      injection hs with hs
      injection hs with h1 h2
      subst h1 h2
      have hzu:∀ u,(zeroValue t).run P u = .ok z u:=by
       intro u
       have:=hob _ (List.mem_singleton.2 rfl) 0 u
       simp only at this
       cases hr:(zeroValue t).run P u with
       | ok v u' =>
        rw [hr] at this
        simp only [nx,Result.ok.injEq,Next.value.injEq] at this
        rw [this.1,this.2]
       | halt h u'=>rw [hr] at this; simp [nx] at this
      refine BigFrame.wpList_want (gpath_nil hI hA) fun K hK => ?_
      unfold Oper.wp execOp
      simp only [hop,Sem.run_bind,Instr.alloc,hzu,newVar,newRow,run_newObj_alloc,Sem.run_pure,Result.andThen_ok]
      have hn:=NewB.of_alloc w t z.cells.toList
      have hI2:=inv_new hI hn
      have hI3:=inv_put hI2 (A:=[]) (dst:=o.dst) (av := .p s.mem.length 0) (v := .pointer (some ⟨w.heap.size,0,none⟩)) hd (by show _<_; rw [List.length_append,hI.len]; simp) (fun _=>by simp only [AV.to]; rw [← hI.len,nth_last]) (fun h=>absurd (fun _ hx=>(nomatch hx)) h)
      have hran:Ran B ρ (ρ ++ [w.heap.size]) s (({ s with mem:=s.mem++[(t,z.cells.toList)] }:St).put o.dst [] (.p s.mem.length 0)) w (w.alloc (.cells z.cells.toList.toArray t)):=by
       refine ⟨Below.of_new hn hI.big,fun b hb=>nth_left hb _,fun b h1 h2 => ?_,by simp,by rw [put_wr]; exact fun b hb=>hb,fun j hj _=>hn.below.block j hj⟩
       have hb:b = ρ.length:=by rw [List.length_append] at h2; simp at h2; omega
       rw [hb,nth_last]
       exact Nat.le_refl _
      exact hK _ _ (k _ _ _ hI3 hran)
     ·cases hs
    ·cases hs
   ·rename_i t x hop
    split at hs
    ·rename_i hAe
     obtain rfl:A=[]:=by simpa using hAe
     split at hs
     ·rename_i v hv
      injection hs with hs
      injection hs with h1 h2
      subst h1 h2
      have ev:=plainV_eval hI hv (fun _ hx=>(nomatch hx))
      refine BigFrame.wpList_want (gpath_nil hI hA) fun K hK => ?_
      unfold Oper.wp execOp
      simp only [hop,ev,Sem.run_bind,Instr.box,newVar,newRow,run_newObj_alloc,Sem.run_pure,Result.andThen_ok]
      have hn:=NewB.of_alloc w t v.cells.toList
      have hI2:=inv_new hI hn
      have hI3:=inv_put hI2 (A:=[]) (dst:=o.dst) (av := .p s.mem.length 0) (v := .pointer (some ⟨w.heap.size,0,none⟩)) hd (by show _<_; rw [List.length_append,hI.len]; simp) (fun _=>by simp only [AV.to]; rw [← hI.len,nth_last]) (fun h=>absurd (fun _ hx=>(nomatch hx)) h)
      have hran:Ran B ρ (ρ ++ [w.heap.size]) s (({ s with mem:=s.mem++[(t,v.cells.toList)] }:St).put o.dst [] (.p s.mem.length 0)) w (w.alloc (.cells v.cells.toList.toArray t)):=by
       refine ⟨Below.of_new hn hI.big,fun b hb=>nth_left hb _,fun b h1 h2 => ?_,by simp,by rw [put_wr]; exact fun b hb=>hb,fun j hj _=>hn.below.block j hj⟩
       have hb:b = ρ.length:=by rw [List.length_append] at h2; simp at h2; omega
       rw [hb,nth_last]
       exact Nat.le_refl _
      exact hK _ _ (k _ _ _ hI3 hran)
     ·cases hs
    ·cases hs
   ·rename_i t x y hop
    split at hs
    ·rename_i hAe
     simp only [Bool.and_eq_true] at hAe
     obtain rfl:A=[]:=by simpa using hAe.1
     have hdn:o.dst=none:=by simpa using hAe.2
     split at hs
     ·rename_i b kk v hx hy
      split at hs
      ·rename_i T cs hm
       split at hs
       ·rename_i hc
        simp only [Bool.and_eq_true,beq_iff_eq,decide_eq_true_eq] at hc
        obtain ⟨⟨hsz,hone⟩,hle⟩:=hc
        injection hs with hs
        injection hs with h1 h2
        subst h1 h2
        have ex:a.eval x = .pointer (some ⟨nth ρ b,kk,none⟩):=(look_eval hI hx (fun _ hx=>(nomatch hx))).1
        have ey:=plainV_eval hI hy (fun _ hx=>(nomatch hx))
        have ho:=hI.mem b T cs hm
        have hb:b < ρ.length:=by rw [hI.len]; exact (List.getElem?_eq_some_iff.1 hm).1
        have hrun:(storeVar t ⟨nth ρ b,kk,none⟩ v).run P w = .ok () (w.setCells (nth ρ b) kk v.cells.toList):=by
         have hth:w.there (nth ρ b) kk v.cells.size:=by
          intro j hj
          have hj':kk+j<cs.length:=by rw [Array.length_toList] at hle; omega
          exact ⟨by rw [ho.cell (List.getElem?_eq_getElem hj')]; rfl,ho.frozen _⟩
         have:=run_storeVar_mid (P:=P) w (nth ρ b) kk t v.cells hth hsz (by rw [← Array.all_toList]; exact hone)
         exact this
        refine BigFrame.wpList_want (gpath_nil hI hA) fun K hK => ?_
        unfold Oper.wp execOp
        simp only [hop,ex,ey,Instr.storeAt,Instr.sureAddr,Sem.run_bind,Sem.run_pure,Result.andThen_ok,hrun]
        have hbs:Beside (nth ρ b) w (w.setCells (nth ρ b) kk v.cells.toList):=beside_setCells _ _ _ (Beside.refl _ _)
        have hob2:=setCells_same w (nth ρ b) kk T v.cells.toList cs ho hle
        have hI2:=inv_set hI hb hbs hob2
        rw [Oper.upon_skip,hdn]
        refine hK _ _ (k _ _ _ hI2 ⟨hbs.below (hI.base _ (nth_mem hb)) hI.big,fun _ _=>rfl,fun b h1 h2=>absurd h2 (Nat.not_lt.2 h1),Nat.le_refl _,fun x hx=>List.mem_cons_of_mem _ hx,fun j hj hne => ?_⟩)
        exact hbs.block j hj (Ne.symm (hne b (List.mem_cons_self ..)))
       ·cases hs
      ·cases hs
     ·cases hs
    ·cases hs
   ·obtain ⟨⟨av,obs'⟩,hv,e⟩:=Option.map_eq_some_iff.1 hs
    injection e with e1 e2
    subst e1 e2
    obtain ⟨hr,hok⟩:=valS_run hI hv hob
    exact val_step hI hA hd av hok hr fun a' hI'=>k ρ a' w hI' (Ran.refl _ _ _ _ (by rw [put_wr]; exact fun b hb=>hb) _)
  ·cases hs
theorem steps_ok:∀ (l:List Oper) {ρ : List Nat} {s s':St} {a:Act} {w:World} {obs:List Obl},Inv B ρ s N a w→steps P w0 N ops l s=some (s',obs)→(∀ q ∈ obs,∀ g u,q.l g u=q.r g u) →
  (∀ ρ' a' w',Inv B ρ' s' N a' w'→Ran B ρ ρ' s s' w w'→wpList P ops Q rest a' w')→wpList P ops Q (l++rest) a w
 | [],ρ,s,s',a,w,obs,hI,hs,_,k=>by
  simp only [steps,Option.some.injEq,Prod.mk.injEq] at hs
  obtain ⟨rfl,rfl⟩:=hs
  exact k ρ a w hI (Ran.refl _ _ _ _ (fun _ h=>h) _)
 | o::r,ρ,s,s',a,w,obs,hI,hs,hob,k=>by
  simp only [steps] at hs
  split at hs
  ·cases hs
  ·rename_i s1 x1 h1
   split at hs
   ·cases hs
   ·rename_i s2 x2 h2
    simp only [Option.some.injEq,Prod.mk.injEq] at hs
    obtain ⟨rfl,rfl⟩:=hs
    refine step_ok hI h1 (fun q hq=>hob q (List.mem_append_left _ hq)) fun ρ1 a1 w1 hI1 hb1 => ?_
    exact steps_ok r hI1 h2 (fun q hq=>hob q (List.mem_append_right _ hq)) fun ρ2 a2 w2 hI2 hb2=>k ρ2 a2 w2 hI2 (hb1.trans hb2 hI1.wrok)
end
end
end Go.Proofs.Ytkhdnlkdcikdmaa.Ev
namespace Go.Proofs.Ytkhdnlkdcikdmaa.Ev
open Go.RowKit Go.Proofs.Ytkhdnlkdcikdmaa.Sm
set_option maxHeartbeats 1000000
set_option linter.unusedVariables false
noncomputable def res (P:Program) (N:Nat) (ops:Array Oper) (l:List Oper) (s:St):St:=((steps P default N ops l s).getD (s,[])).1
noncomputable def obs (P:Program) (N:Nat) (ops:Array Oper) (l:List Oper) (s:St):List Obl:=((steps P default N ops l s).getD (s,[])).2
def seenL (x:List Obl):Nat→World→List (Result Next):=fun g u=>x.map fun q=>q.l g u
def seenR (x:List Obl):Nat→World→List (Result Next):=fun g u=>x.map fun q=>q.r g u
theorem seen_all {x:List Obl} (h:seenL x=seenR x):∀ q ∈ x,∀ g u,q.l g u=q.r g u:=by
 intro q hq g u
 have h1:=congrFun (congrFun h g) u
 exact (List.map_inj_left.1 h1) q hq
section
variable {B N:Nat} {ρ : List Nat} {s:St} {a:Act} {w:World} {A:List (Nat×Bool)} {o:Oper} {ops:Array Oper} {P:Program} {Q:Exit→Act→World→Prop} {rest:List Oper}
theorem steps_is {l:List Oper} (h:(steps P default N ops l s).isSome=true):steps P default N ops l s=some (res P N ops l s,obs P N ops l s):=by
 obtain ⟨x,hx⟩:=Option.isSome_iff_exists.1 h
 unfold res obs
 rw [hx]
 rfl
theorem row_ok {l:List Oper} (n:Nat) (hI:Inv B ρ s N a w) (hs:(steps P default N ops (l.take n) s).isSome=true) (ho:seenL (obs P N ops (l.take n) s)=seenR (obs P N ops (l.take n) s))
  (k:∀ ρ' a' w',Inv B ρ' (res P N ops (l.take n) s) N a' w'→Ran B ρ ρ' s (res P N ops (l.take n) s) w w'→wpList P ops Q (l.drop n) a' w'):wpList P ops Q l a w:=by
 have:=steps_ok (P:=P) (ops:=ops) (Q:=Q) (rest:=l.drop n) (l.take n) hI (steps_is hs) (seen_all ho) k
 rwa [List.take_append_drop] at this
theorem region_ok {id:Nat} (hI:Inv B ρ s N a w) (hs:(steps P default N ops ops.toList s).isSome=true) (ho:seenL (obs P N ops ops.toList s)=seenR (obs P N ops ops.toList s))
  (k:∀ ρ' a' w',Inv B ρ' (res P N ops ops.toList s) N a' w'→Ran B ρ ρ' s (res P N ops ops.toList s) w w'→Q .normal a' w'):(Code.region id ops false).wp P Q a w:=by
 refine wp_region_list ?_
 have:=steps_ok (P:=P) (ops:=ops) (Q:=Q) (rest:=[]) ops.toList hI (steps_is hs) (seen_all ho) k
 rwa [List.append_nil] at this
theorem seq_ok {id:Nat} {y:Code} (hI:Inv B ρ s N a w) (hs:(steps P default N ops ops.toList s).isSome=true) (ho:seenL (obs P N ops ops.toList s)=seenR (obs P N ops ops.toList s))
  (k:∀ ρ' a' w',Inv B ρ' (res P N ops ops.toList s) N a' w'→Ran B ρ ρ' s (res P N ops ops.toList s) w w'→y.wp P Q a' w'):(Code.seq (Code.region id ops false) y).wp P Q a w :=
 wp_seq (region_ok hI hs ho k)
theorem row_q {l:List Oper} (n:Nat) (hI:Inv B ρ s N a w) (hs:(steps P default N ops (l.take n) s).isSome=true) (ho:seenL (obs P N ops (l.take n) s)=seenR (obs P N ops (l.take n) s)) (hf:(res P N ops (l.take n) s).wr.all (fun b=>decide (s.mem.length≤b))=true)
  (k:∀ ρ' a' w',Inv B ρ' (res P N ops (l.take n) s) N a' w'→Below w.heap.size w w'→wpList P ops Q (l.drop n) a' w'):wpList P ops Q l a w :=
 row_ok n hI hs ho fun ρ' a' w' hI' hr=>k ρ' a' w' hI' (hr.fresh hI.len hI'.wrok hf)
theorem region_q {id:Nat} (hI:Inv B ρ s N a w) (hs:(steps P default N ops ops.toList s).isSome=true) (ho:seenL (obs P N ops ops.toList s)=seenR (obs P N ops ops.toList s)) (hf:(res P N ops ops.toList s).wr.all (fun b=>decide (s.mem.length≤b))=true)
  (k:∀ ρ' a' w',Inv B ρ' (res P N ops ops.toList s) N a' w'→Below w.heap.size w w'→Q .normal a' w'):(Code.region id ops false).wp P Q a w :=
 region_ok hI hs ho fun ρ' a' w' hI' hr=>k ρ' a' w' hI' (hr.fresh hI.len hI'.wrok hf)
theorem seq_q {id:Nat} {y:Code} (hI:Inv B ρ s N a w) (hs:(steps P default N ops ops.toList s).isSome=true) (ho:seenL (obs P N ops ops.toList s)=seenR (obs P N ops ops.toList s)) (hf:(res P N ops ops.toList s).wr.all (fun b=>decide (s.mem.length≤b))=true)
  (k:∀ ρ' a' w',Inv B ρ' (res P N ops ops.toList s) N a' w'→Below w.heap.size w w'→y.wp P Q a' w'):(Code.seq (Code.region id ops false) y).wp P Q a w :=
 wp_seq (region_q hI hs ho hf k)
theorem seq_row {id:Nat} {y:Code} (h:wpList P ops (Exit.then (y.wp P Q) Q) ops.toList a w):(Code.seq (Code.region id ops false) y).wp P Q a w:=wp_seq (wp_region_list h)
theorem Inv.val (hI:Inv B ρ s N a w) {x:Operand} {v:Value} (h:s.look [] x=some (.v v)):a.eval x=v:=(look_eval hI h fun _ hx=>(nomatch hx)).1
theorem Inv.ptr (hI:Inv B ρ s N a w) {x:Operand} {b k:Nat} (h:s.look [] x=some (.p b k)):a.eval x = .pointer (some ⟨nth ρ b,k,none⟩):=(look_eval hI h fun _ hx=>(nomatch hx)).1
theorem Inv.blk (hI:Inv B ρ s N a w) {b:Nat} {t:TypeId} {cs:List Value} (h:s.mem[b]? = some (t,cs)):Ob w (nth ρ b) t cs∧B≤nth ρ b:=⟨hI.mem b t cs h,hI.base _ (nth_mem (by rw [hI.len]; exact (List.getElem?_eq_some_iff.1 h).1))⟩
def St.sel (s:St) (ds:List Nat):St:={ tab:=ds.filterMap s.find,mem:=s.mem }
theorem Inv.to (hI:Inv B ρ s N a w) (ds:List Nat) {s2:St} (h:s.sel ds=s2):Inv B ρ s2 N a w:=by
 subst h
 refine ⟨hI.size,hI.dfr,fun e he => ?_,hI.len,hI.nd,hI.mem,hI.base,hI.big,fun b hb=>(nomatch hb)⟩
 obtain ⟨d,_,hd⟩:=List.mem_filterMap.1 he
 exact hI.tab e (find_mem hd).1
def St.strip (s:St) (m:Nat) (b:Bool):St:={ s with tab:=s.tab.map fun e=>{ e with path:=e.path.filter fun x=>x != (m,b) } }
theorem Inv.strip (hI:Inv B ρ s N a w) {m:Nat} {b:Bool} (h:s.look [] (.tmp m)=some (.v (.bool b))):Inv B ρ (s.strip m b) N a w:=by
 refine ⟨hI.size,hI.dfr,fun e he => ?_,hI.len,hI.nd,hI.mem,hI.base,hI.big,hI.wrok⟩
 obtain ⟨e0,h0,rfl⟩:=List.mem_map.1 he
 have hk:=hI.tab e0 h0
 have hm:sl a m = .bool b:=hI.val h
 have hiff:PT a (e0.path.filter fun x=>x != (m,b))↔PT a e0.path:=by
  constructor
  ·intro hp x hx
   by_cases hxm:x=(m,b)
   ·rw [hxm]; exact hm
   ·exact hp x (List.mem_filter.2 ⟨hx,by simpa using hxm⟩)
  ·intro hp x hx
   exact hp x (List.mem_filter.1 hx).1
 exact ⟨fun hp=>hk.yes (hiff.1 hp),fun hp=>hk.no fun h=>hp (hiff.2 h),hk.lt,hk.ok⟩
theorem cond_ok {c:Operand} {x y:Code} {z:Bool} (hI:Inv B ρ s N a w) (h:s.look [] c=some (.v (.bool z))) (ht:z=true→x.wp P Q a w) (hf:z=false→y.wp P Q a w):(Code.cond c x y).wp P Q a w :=
 wp_cond_split (hI.val h) ht hf
theorem condT_ok {c:Operand} {x y:Code} {z:Bool} (hI:Inv B ρ s N a w) (h:s.look [] c=some (.v (.bool z))) (hz:z=true) (k:x.wp P Q a w):(Code.cond c x y).wp P Q a w :=
 wp_cond_split (hI.val h) (fun _=>k) (fun h'=>by rw [hz] at h'; cases h')
theorem condF_ok {c:Operand} {x y:Code} {z:Bool} (hI:Inv B ρ s N a w) (h:s.look [] c=some (.v (.bool z))) (hz:z=false) (k:y.wp P Q a w):(Code.cond c x y).wp P Q a w :=
 wp_cond_split (hI.val h) (fun h'=>by rw [hz] at h'; cases h') (fun _=>k)
theorem Inv.laterB (hI:Inv B ρ s N a w) {base:Nat} {W:World} (hb:Below base w W) (hlo:∀ g ∈ ρ,g<base):Inv B ρ s N a W:=by
 refine ⟨hI.size,hI.dfr,hI.tab,hI.len,hI.nd,fun b t cs hm => ?_,hI.base,Nat.le_trans hI.big hb.size,hI.wrok⟩
 exact (hI.mem b t cs hm).below hb (hlo _ (nth_mem (by rw [hI.len]; exact (List.getElem?_eq_some_iff.1 hm).1)))
noncomputable def lookV (ρ : List Nat) (s:St) (x:Operand):Value:=((s.look [] x).map (AV.to ρ)).getD undef
theorem lookV_eval (hI:Inv B ρ s N a w) {x:Operand} (h:(s.look [] x).isSome=true):a.eval x=lookV ρ s x:=by
 obtain ⟨av,hv⟩:=Option.isSome_iff_exists.1 h
 unfold lookV
 rw [hv]
 exact (look_eval hI hv fun _ hx=>(nomatch hx)).1
theorem pt_of (hI:Inv B ρ s N a w) (h:A.map (fun x=>s.look [] (.tmp x.1))=A.map fun x=>some (.v (.bool x.2))):PT a A:=by
 intro x hx
 have:=(List.map_inj_left.1 h) x hx
 exact hI.val this
theorem call_raw (hI:Inv B ρ s N a w) (hw:Region.wanted o (yielded ops a.tmps)=true) {l:List Operand} (hl:opnds o.op=some l) (hall:l.all (fun x=>(s.look [] x).isSome)=true) {f:FuncId} {args:Array Value}
  (hrun:∀ u,(execOp (lookV ρ s) o).run P u = .ok (.enter f args) u) {R:Value→World→Prop} (hc:Calls P f args w fun e w'=>∃ v,e = .returned v∧R v w')
  (k:∀ v w',R v w'→wpList P ops Q rest (a.put o.dst v) w'):wpList P ops Q (o::rest) a w:=by
 have he:(execOp a.eval o).run P w = .ok (.enter f args) w:=by
  rw [execOp_congr hl (ρ₂:=lookV ρ s)]
  ·exact hrun w
  ·exact fun x hx=>lookV_eval hI (List.all_eq_true.1 hall x hx)
 refine BigFrame.wpList_want hw fun K hK => ?_
 unfold Oper.wp
 rw [he,Oper.upon_enter]
 refine hc.mono ?_
 rintro e w' ⟨v,rfl,hr⟩
 exact hK _ _ (k v w' hr)
theorem call_ok (hI:Inv B ρ s N a w) (hA:gpath ops s o=some A) (hp:A.map (fun x=>s.look [] (.tmp x.1))=A.map fun x=>some (.v (.bool x.2))) (hd:dstB N [] o.dst=true) {l:List Operand} (hl:opnds o.op=some l) (hall:l.all (fun x=>(s.look [] x).isSome)=true) {f:FuncId} {args:Array Value}
  (hrun:∀ u,(execOp (lookV ρ s) o).run P u = .ok (.enter f args) u) {R:Value→World→Prop} (hc:Calls P f args w fun e w'=>∃ v,e = .returned v∧R v w') (hR:∀ v w',R v w'→Below w.heap.size w w')
  (k:∀ v a' w',R v w'→Inv B ρ (s.put o.dst [] (.v v)) N a' w'→wpList P ops Q rest a' w'):wpList P ops Q (o::rest) a w :=
 call_raw hI ((wanted_iff hI hA).2 (pt_of hI hp)) hl hall hrun hc fun v w' hr=>k v _ w' hr (inv_put (hI.later (hR v w' hr)) hd trivial (fun _=>rfl) fun h=>absurd (fun _ hx=>(nomatch hx)) h)
theorem call_okB (base:Nat) (hlo:∀ g ∈ ρ,g<base) (hI:Inv B ρ s N a w) (hA:gpath ops s o=some A) (hp:A.map (fun x=>s.look [] (.tmp x.1))=A.map fun x=>some (.v (.bool x.2))) (hd:dstB N [] o.dst=true) {l:List Operand} (hl:opnds o.op=some l) (hall:l.all (fun x=>(s.look [] x).isSome)=true) {f:FuncId} {args:Array Value}
  (hrun:∀ u,(execOp (lookV ρ s) o).run P u = .ok (.enter f args) u) {R:Value→World→Prop} (hc:Calls P f args w fun e w'=>∃ v,e = .returned v∧R v w') (hR:∀ v w',R v w'→Below base w w')
  (k:∀ v a' w',R v w'→Inv B ρ (s.put o.dst [] (.v v)) N a' w'→wpList P ops Q rest a' w'):wpList P ops Q (o::rest) a w :=
 call_raw hI ((wanted_iff hI hA).2 (pt_of hI hp)) hl hall hrun hc fun v w' hr=>k v _ w' hr (inv_put (hI.laterB (hR v w' hr) hlo) hd trivial (fun _=>rfl) fun h=>absurd (fun _ hx=>(nomatch hx)) h)
theorem quiet_ok (hI:Inv B ρ s N a w) (hA:gpath ops s o=some A) (hd:dstB N A o.dst=true) {l:List Operand} (hl:opnds o.op=some l) (hall:l.all (fun x=>(plainV s A x).isSome)=true) {f:FuncId} {args:Array Value}
  (hrun:∀ u,(execOp (fun x=>(plainV s A x).getD undef) o).run P u = .ok (.enter f args) u) {v:Value} (hc:Calls P f args w fun e w'=>e = .returned v∧w=w')
  (k:∀ a',Inv B ρ (s.put o.dst A (.v v)) N a' w→wpList P ops Q rest a' w):wpList P ops Q (o::rest) a w:=by
 by_cases hp:PT a A
 ·have he:(execOp a.eval o).run P w = .ok (.enter f args) w:=by
   rw [execOp_congr hl (ρ₂:=fun x=>(plainV s A x).getD undef)]
   ·exact hrun w
   ·intro x hx
    obtain ⟨y,hy⟩:=Option.isSome_iff_exists.1 (List.all_eq_true.1 hall x hx)
    rw [hy]
    exact plainV_eval hI hy hp
  refine BigFrame.wpList_want ((wanted_iff hI hA).2 hp) fun K hK => ?_
  unfold Oper.wp
  rw [he,Oper.upon_enter]
  refine hc.mono ?_
  rintro e w' ⟨rfl,rfl⟩
  exact hK _ _ (k _ (inv_put hI hd trivial (fun _=>rfl) fun h=>absurd hp h))
 ·have hw:Region.wanted o (yielded ops a.tmps)=false:=by
   rw [Bool.eq_false_iff]
   exact fun h=>hp ((wanted_iff hI hA).1 h)
  exact wpList_skip hw (k _ (inv_put hI hd trivial (fun h=>absurd h hp) fun _=>rfl))
theorem gcall_ok (hI:Inv B ρ s N a w) (hA:gpath ops s o=some A) (hd:dstB N A o.dst=true) {l:List Operand} (hl:opnds o.op=some l) (hall:l.all (fun x=>(plainV s A x).isSome)=true) {f:FuncId} {args:Array Value}
  (hrun:∀ u,(execOp (fun x=>(plainV s A x).getD undef) o).run P u = .ok (.enter f args) u) {v:Value} (hc:Calls P f args w fun e w'=>e = .returned v∧Below w.heap.size w w')
  (k:∀ a' w',Below w.heap.size w w'→Inv B ρ (s.put o.dst A (.v v)) N a' w'→wpList P ops Q rest a' w'):wpList P ops Q (o::rest) a w:=by
 by_cases hp:PT a A
 ·have he:(execOp a.eval o).run P w = .ok (.enter f args) w:=by
   rw [execOp_congr hl (ρ₂:=fun x=>(plainV s A x).getD undef)]
   ·exact hrun w
   ·intro x hx
    obtain ⟨y,hy⟩:=Option.isSome_iff_exists.1 (List.all_eq_true.1 hall x hx)
    rw [hy]
    exact plainV_eval hI hy hp
  refine BigFrame.wpList_want ((wanted_iff hI hA).2 hp) fun K hK => ?_
  unfold Oper.wp
  rw [he,Oper.upon_enter]
  refine hc.mono ?_
  rintro e w' ⟨rfl,hb⟩
  exact hK _ _ (k _ w' hb (inv_put (hI.later hb) hd trivial (fun _=>rfl) fun h=>absurd hp h))
 ·have hw:Region.wanted o (yielded ops a.tmps)=false:=by
   rw [Bool.eq_false_iff]
   exact fun h=>hp ((wanted_iff hI hA).1 h)
  exact wpList_skip hw (k _ w (Below.refl _ _) (inv_put hI hd trivial (fun h=>absurd h hp) fun _=>rfl))
def St.drop (s:St) (d:Option Nat):St:=match d with
 | none=>s
 | some d=>{ s with tab:=s.tab.filter fun e=>e.d != d&&e.path.all fun x=>x.1 != d }
theorem inv_drop (hI:Inv B ρ s N a w) (d:Option Nat) (v:Value):Inv B ρ (s.drop d) N (a.put d v) w:=by
 cases d with
 | none=>exact hI
 | some d =>
  refine ⟨put_size.trans hI.size,hI.dfr,?_,hI.len,hI.nd,hI.mem,hI.base,hI.big,hI.wrok⟩
  intro e he
  obtain ⟨hin,hf⟩:=List.mem_filter.1 he
  simp only [Bool.and_eq_true,bne_iff_ne,ne_eq] at hf
  have hk:=hI.tab e hin
  refine ⟨fun hp => ?_,fun hp => ?_,by rw [put_size]; exact hk.lt,hk.ok⟩
  ·rw [sl_put_ne hf.1]; exact hk.yes ((pt_put hf.2).1 hp)
  ·rw [sl_put_ne hf.1]; exact hk.no fun h=>hp ((pt_put hf.2).2 h)
theorem skip_ok (hI:Inv B ρ s N a w) (hA:gpath ops s o=some A) {m:Nat} {b:Bool} (hm:s.look [] (.tmp m)=some (.v (.bool b))) (hin:A.contains (m,!b)=true) (k:∀ a',Inv B ρ (s.drop o.dst) N a' w→wpList P ops Q rest a' w):wpList P ops Q (o::rest) a w:=by
 have hw:Region.wanted o (yielded ops a.tmps)=false:=by
  rw [Bool.eq_false_iff]
  intro h
  have h1:=(wanted_iff hI hA).1 h (m,!b) (by simpa using hin)
  have h2:=hI.val hm
  have h3:sl a m = .bool b:=h2
  rw [h3] at h1
  injection h1 with h1
  cases b <;> cases h1
 exact wpList_skip hw (k _ (inv_drop hI _ _))
theorem pick_ok (hI:Inv B ρ s N a w) (hA:gpath ops s o=some []) (hd:dstB N [] o.dst=true) {c x y:Operand} (hop:o.op = .pick c x y) {b:Bool} (hc:s.look [] c=some (.v (.bool b))) {av:AV} (hv:s.look [] (bif b then x else y)=some av)
  (k:∀ a',Inv B ρ (s.put o.dst [] av) N a' w→wpList P ops Q rest a' w):wpList P ops Q (o::rest) a w:=by
 refine val_step hI hA hd av (look_ok hI hv) (fun hp => ?_) k
 have e1:a.eval c = .bool b:=hI.val hc
 have e2:=(look_eval hI hv hp).1
 unfold execOp
 rw [hop]
 cases b with
 | true=>simp only [e1,asBool,Sem.run_bind,Sem.run_pure,Result.andThen_ok,if_true]; exact congrArg (fun z=>Result.ok (Next.value z) w) e2
 | false=>simp only [e1,asBool,Sem.run_bind,Sem.run_pure,Result.andThen_ok]; exact congrArg (fun z=>Result.ok (Next.value z) w) e2
def ents:Nat→List Value→List Ent
 | _,[]=>[]
 | i,v::r=>⟨i,[],.v v⟩::ents (i+1) r
theorem ents_mem:∀ (l:List Value) (i:Nat) (e:Ent),e ∈ ents i l→∃ j v,l[j]? = some v∧e=⟨i+j,[],.v v⟩
 | [],_,_,h=>(nomatch h)
 | v::r,i,e,h=>by
  rcases List.mem_cons.1 h with rfl|h
  ·exact ⟨0,v,rfl,rfl⟩
  ·obtain ⟨j,v',h1,h2⟩:=ents_mem r (i+1) e h
   exact ⟨j+1,v',h1,by rw [h2]; simp; omega⟩
theorem enter {f:FuncId} {fn:Func} {c:Code} {args:Array Value} {R:Ending→World→Prop} (hf:P.funcs[f]? = some fn) (hb:fn.body=some c) (hn:fn.ntmps=N) (hle:args.size≤N)
  (k:∀ a,Inv w.heap.size [] { tab:=ents 0 args.toList,mem:=[] } N a w→c.wp P (bodyPost P fn R) a w):Calls P f args w R:=by
 refine calls_of_wp hf hb (k _ ?_)
 have hsz:(args++Array.replicate (fn.ntmps-args.size) undef).size=N:=by simp; omega
 refine ⟨hsz,rfl,?_,rfl,List.nodup_nil,(fun b t cs h=>by simp at h),(fun g h=>(nomatch h)),Nat.le_refl _,(fun b h=>(nomatch h))⟩
 intro e he
 obtain ⟨j,v,h1,rfl⟩:=ents_mem _ _ _ he
 have hj:j<args.size:=by
  have:=(List.getElem?_eq_some_iff.1 h1).1
  simpa using this
 refine ⟨fun _ => ?_,fun h=>absurd (fun _ hx=>(nomatch hx)) h,?_,trivial⟩
 ·show sl _ (0+j)=v
  have h2:args[j]? = some v:=by simpa using h1
  have h3:(args++Array.replicate (fn.ntmps-args.size) undef)[j]? = some v:=by rw [Array.getElem?_append_left hj]; exact h2
  unfold sl
  rw [Nat.zero_add]
  simp [h3]
 ·show 0+j<(args++Array.replicate (fn.ntmps-args.size) undef).size
  rw [hsz]
  omega
theorem enterP {f:FuncId} {fn:Func} {c:Code} {args:Array Value} {R:Ending→World→Prop} (hf:P.funcs[f]? = some fn) (hb:fn.body=some c) (hn:fn.ntmps=N) (rest:List Value) (g:Nat) {t:TypeId} {cs:List Value} (ho:Ob w g t cs) (ha:args=(.pointer (some ⟨g,0,none⟩)::rest).toArray) (hle:rest.length+1≤N)
  (k:∀ a,Inv 0 [g] { tab:=⟨0,[],.p 0 0⟩::ents 1 rest,mem:=[(t,cs)] } N a w→c.wp P (bodyPost P fn R) a w):Calls P f args w R:=by
 subst ha
 refine calls_of_wp hf hb (k _ ?_)
 have hz:((Value.pointer (some ⟨g,0,none⟩)::rest).toArray).size=rest.length+1:=by simp
 have hsz:((Value.pointer (some ⟨g,0,none⟩)::rest).toArray++Array.replicate (fn.ntmps-((Value.pointer (some ⟨g,0,none⟩)::rest).toArray).size) undef).size=N:=by simp; omega
 have hget:∀ j v,(Value.pointer (some ⟨g,0,none⟩)::rest)[j]? = some v→sl ⟨(Value.pointer (some ⟨g,0,none⟩)::rest).toArray++Array.replicate (fn.ntmps-((Value.pointer (some ⟨g,0,none⟩)::rest).toArray).size) undef,[]⟩ j=v∧j<N:=by
  intro j v hv
  have hj:j<rest.length+1:=by have:=(List.getElem?_eq_some_iff.1 hv).1; simpa using this
  have h2:((Value.pointer (some ⟨g,0,none⟩)::rest).toArray)[j]? = some v:=by simpa using hv
  have h3:((Value.pointer (some ⟨g,0,none⟩)::rest).toArray++Array.replicate (fn.ntmps-((Value.pointer (some ⟨g,0,none⟩)::rest).toArray).size) undef)[j]? = some v:=by rw [Array.getElem?_append_left (by rw [hz]; exact hj)]; exact h2
  refine ⟨?_,by omega⟩
  unfold sl
  simp only [Array.getD_eq_getD_getElem?,h3,Option.getD_some]
 refine ⟨hsz,rfl,?_,rfl,by simp,?_,(fun _ _=>Nat.zero_le _),Nat.zero_le _,(fun b h=>(nomatch h))⟩
 ·intro e he
  rcases List.mem_cons.1 he with rfl|he
  ·have:=hget 0 _ rfl
   exact ⟨fun _=>this.1,fun h=>absurd (fun _ hx=>(nomatch hx)) h,by rw [hsz]; exact this.2,by show 0<1; omega⟩
  ·obtain ⟨j,v,h1,rfl⟩:=ents_mem _ _ _ he
   have:=hget (j+1) v h1
   refine ⟨fun _ => ?_,fun h=>absurd (fun _ hx=>(nomatch hx)) h,?_,trivial⟩
   ·show sl _ (1+j)=v
    rw [Nat.add_comm]; exact this.1
   ·show 1+j<Array.size _
    rw [hsz]; omega
 ·intro b t' cs' hm
  cases b with
  | zero =>
   simp only [List.getElem?_cons_zero,Option.some.injEq,Prod.mk.injEq] at hm
   obtain ⟨rfl,rfl⟩:=hm
   exact ho
  | succ b=>simp at hm
theorem Inv.remem {g:Nat} {W:World} {t:TypeId} {cs:List Value} (hI:Inv 0 [g] s N a w) (hl:s.mem.length=1) (ho:Ob W g t cs):Inv 0 [g] { s with mem:=[(t,cs)],wr:=[] } N a W:=by
 refine ⟨hI.size,hI.dfr,hI.tab,rfl,hI.nd,?_,hI.base,Nat.zero_le _,(fun b h=>(nomatch h))⟩
 intro b t' cs' hm
 cases b with
 | zero =>
  simp only [List.getElem?_cons_zero,Option.some.injEq,Prod.mk.injEq] at hm
  obtain ⟨rfl,rfl⟩:=hm
  exact ho
 | succ b=>simp at hm
theorem callP_ok {g:Nat} (hI:Inv 0 [g] s N a w) (hl1:s.mem.length=1) (hA:gpath ops s o=some []) (hd:dstB N [] o.dst=true) {l:List Operand} (hl:opnds o.op=some l) (hall:l.all (fun x=>(s.look [] x).isSome)=true) {f:FuncId} {args:Array Value}
  (hrun:∀ u,(execOp (lookV [g] s) o).run P u = .ok (.enter f args) u) {t:TypeId} {R:Value→List Value→World→Prop} (hc:Calls P f args w fun e w'=>∃ v cs,e = .returned v∧Ob w' g t cs∧R v cs w')
  (k:∀ v cs a' w',R v cs w'→Inv 0 [g] (({ s with mem:=[(t,cs)],wr:=[] }:St).put o.dst [] (.v v)) N a' w'→wpList P ops Q rest a' w'):wpList P ops Q (o::rest) a w:=by
 refine call_raw hI (gpath_nil hI hA) hl hall hrun (R:=fun v w'=>∃ cs,Ob w' g t cs∧R v cs w') (hc.mono ?_) ?_
 ·rintro e w' ⟨v,cs,rfl,h1,h2⟩
  exact ⟨v,rfl,cs,h1,h2⟩
 ·rintro v w' ⟨cs,h1,h2⟩
  exact k v cs _ w' h2 (inv_put (hI.remem hl1 h1) hd trivial (fun _=>rfl) fun h=>absurd (fun _ hx=>(nomatch hx)) h)
theorem row_s {g:Nat} {l:List Oper} (n:Nat) (hI:Inv 0 [g] s N a w) (hs:(steps P default N ops (l.take n) s).isSome=true) (ho:seenL (obs P N ops (l.take n) s)=seenR (obs P N ops (l.take n) s)) (hm:(res P N ops (l.take n) s).mem.length=1)
  (k:∀ a' w',Inv 0 [g] (res P N ops (l.take n) s) N a' w'→Beside g w w'→w'.heap.size=w'.heap.size→wpList P ops Q (l.drop n) a' w'):wpList P ops Q l a w:=by
 refine row_ok n hI hs ho fun ρ' a' w' hI' hr => ?_
 have hlen : ρ'.length=1:=by rw [hI'.len]; exact hm
 have h0:nth ρ' 0=g:=(hr.pre 0 (by simp)).trans rfl
 have hρ : ρ'=[g]:=by
  match ρ',hlen,h0 with
  | [x],_,h0=>rw [show x=g from h0]
 subst hρ
 refine k a' w' hI' ⟨hr.below.os,hr.below.tape,hr.below.output,hr.below.size,fun j hj hne=>hr.keep j hj fun b hb => ?_⟩ rfl
 have:=hI'.wrok b hb
 have hb0:b=0:=by simp at this; omega
 subst hb0
 exact Ne.symm hne
theorem lit1_ok (hI:Inv B ρ s N a w) (hgd:o.guard=none) (hd:dstB N [] o.dst=true) {t e:TypeId} {x:Operand} (hop:o.op = .buildSlice t 1 #[(0,x)]) (hu:P.underlying t=some (.slice e)) {ie:TypeInfo} (hie:P.info? e=some ie) {z:Value} (hz:ie.zero=some z) (hs:ie.size=1) {v:Value} (hx:s.look [] x=some (.v v)) (hv:v.cells = #[v]) (hzc:z.cells = #[z])
  (k:∀ a',Inv B ρ (s.put o.dst [] (.v (.slice (some ⟨w.heap.size,0,none⟩) 1 1))) N a' (w.alloc (.cells #[v] e))→wpList P ops Q rest a' (w.alloc (.cells #[v] e))):wpList P ops Q (o::rest) a w:=by
 have hb:Below w.heap.size w (w.alloc (.cells #[v] e)):=(Below.refl _ _).alloc (Nat.le_refl _) _
 refine wpList_buildSlice hgd t e 1 _ hop #[v] ie z hu hie hz (by rw [hs]; decide) (by rw [hs]; decide) ?_ (k _ (inv_put (hI.later hb) hd trivial (fun _=>rfl) fun h=>absurd (fun _ hx=>(nomatch hx)) h))
 simp [Instr.fill,hs,hI.val hx,hv,hzc]
 rw [show Array.range 1 = #[0] by decide]
 simp
theorem appendR_ok (hI:Inv B ρ s N a w) (hgd:o.guard=none) (hd:dstB N [] o.dst=true) (x y:Operand) (t:TypeId) (hop:o.op = .call { callee := .builtin .append,args := #[x,y],argTypes := #[t,t] })
  (base:Nat) (e:TypeId) (i:TypeInfo) (zv:Value) (z bytes:Nat) (ht:P.underlying t=some (.slice e)) (hi:P.info? e=some i) (hz:i.zero=some zv) (hsize:i.size=z) (hby:i.bytes=bytes) (hzs:zv.cells.size=z) (hz0:0<z)
  (v:Value) (n:Nat) (vs:List Value) (hs:s.look [] x=some (.v v)) (hown:w.ownsRow base e z v n vs)
  (B':Nat) (A:Option Addr) (m c:Nat) (us:List Value) (hx:s.look [] y=some (.v (.slice A m c))) (hr:RowC w B' A m c z us) (hone:∀ u ∈ us,u.oneCell'=true) (hlen:n+m≤maxLen) (hbytes:(n+m)*bytes≤140737488355328) (hbase:base≤w.heap.size) (hlo:∀ g ∈ ρ,g<base)
  (h:∀ v' a' w',w'.ownsRow base e z v' (n+m) (vs++us)→Below base w w'→Inv B ρ (s.put o.dst [] (.v v')) N a' w'→wpList P ops Q rest a' w'):wpList P ops Q (o::rest) a w:=by
 refine wpList_append_rows w hgd x y t hop base e i zv z bytes ht hi hz hsize hby hzs hz0 v n vs (hI.val hs) hown B' A m c us (hI.val hx) hr hone hlen hbytes hbase fun v' w' ho hg hl => ?_
 have hb:Below base w w':=(Below.refl base w).grown hg hbase hl
 exact h v' _ w' ho hb (inv_put (hI.laterB hb hlo) hd trivial (fun _=>rfl) fun h=>absurd (fun _ hx=>(nomatch hx)) h)
theorem callM_ok (b:Nat) (hI:Inv B ρ s N a w) (hbl:b<s.mem.length) (hA:gpath ops s o=some []) (hd:dstB N [] o.dst=true) {l:List Operand} (hl:opnds o.op=some l) (hall:l.all (fun x=>(s.look [] x).isSome)=true) {f:FuncId} {args:Array Value}
  (hrun:∀ u,(execOp (lookV ρ s) o).run P u = .ok (.enter f args) u) {t:TypeId} {R:Value→List Value→World→Prop} (hc:Calls P f args w fun e w'=>∃ v cs,e = .returned v∧Ob w' (nth ρ b) t cs∧Beside (nth ρ b) w w'∧R v cs w')
  (k:∀ v cs a' w',R v cs w'→Beside (nth ρ b) w w'→Inv B ρ ((s.setMem b (t,cs)).put o.dst [] (.v v)) N a' w'→wpList P ops Q rest a' w'):wpList P ops Q (o::rest) a w:=by
 have hb:b < ρ.length:=by rw [hI.len]; exact hbl
 refine call_raw hI (gpath_nil hI hA) hl hall hrun (R:=fun v w'=>∃ cs,Ob w' (nth ρ b) t cs∧Beside (nth ρ b) w w'∧R v cs w') (hc.mono ?_) ?_
 ·rintro e w' ⟨v,cs,rfl,h1,h2,h3⟩
  exact ⟨v,rfl,cs,h1,h2,h3⟩
 ·rintro v w' ⟨cs,h1,h2,h3⟩
  exact k v cs _ w' h3 h2 (inv_put (inv_set hI hb h2 h1) hd trivial (fun _=>rfl) fun h=>absurd (fun _ hx=>(nomatch hx)) h)
theorem row_m {l:List Oper} (n:Nat) (hI:Inv B ρ s N a w) (hs:(steps P default N ops (l.take n) s).isSome=true) (ho:seenL (obs P N ops (l.take n) s)=seenR (obs P N ops (l.take n) s)) (hm:(res P N ops (l.take n) s).mem.length=s.mem.length)
  (k:∀ a' w',Inv B ρ (res P N ops (l.take n) s) N a' w'→Ran B ρ ρ s (res P N ops (l.take n) s) w w'→wpList P ops Q (l.drop n) a' w'):wpList P ops Q l a w:=by
 refine row_ok n hI hs ho fun ρ' a' w' hI' hr => ?_
 have hlen : ρ'.length = ρ.length:=by rw [hI'.len,hI.len]; exact hm
 have hρ : ρ' = ρ := by
  refine List.ext_getElem hlen fun i h1 h2 => ?_
  rw [← nth_get h1,← nth_get h2]
  exact hr.pre i h2
 subst hρ
 exact k a' w' hI' hr
theorem ran_beside {s':St} {w':World} (h:Ran B ρ ρ s s' w w') (b:Nat) (hw:s'.wr.all (fun x=>x == b)=true):Beside (nth ρ b) w w' :=
 ⟨h.below.os,h.below.tape,h.below.output,h.below.size,fun j hj hne=>h.keep j hj fun x hx=>by
  have:=List.all_eq_true.1 hw x hx
  rw [beq_iff_eq] at this
  rw [this]
  exact Ne.symm hne⟩
def resOne (P:Program) (s:St):ResultVar→Option Value
 | .tmp t=>plainV s [] (.tmp t)
 | .cell q ty=>match s.look [] (.tmp q) with
  | some (.p b k)=>match loadS P s b k ty with
   | some (.v v)=>some v
   | _=>none
  | _=>none
noncomputable def resRun (tmps:Array Value):ResultVar→Sem Value
 | .tmp t=>pure (tmps.getD t undef)
 | .cell q ty=>do loadVar ty (← asAddr (tmps.getD q undef))
theorem resOne_run (hI:Inv B ρ s N a w) {r:ResultVar} {v:Value} (h:resOne P s r=some v):(resRun a.tmps r).run P w = .ok v w:=by
 cases r with
 | tmp t =>
  have:=plainV_eval hI h fun _ hx=>(nomatch hx)
  show (pure _:Sem Value).run P w=_
  rw [Sem.run_pure]
  exact congrArg (fun z=>Result.ok z w) this
 | cell q ty =>
  simp only [resOne] at h
  split at h
  ·rename_i b k hq
   split at h
   ·rename_i v' hl
    injection h with h
    subst h
    have hr:=(loadS_run hI hl).1
    have hp:a.tmps.getD q undef = .pointer (some ⟨nth ρ b,k,none⟩):=hI.ptr hq
    simp only [Instr.loadAt,Instr.sureAddr,Sem.run_bind,Sem.run_pure,Result.andThen_ok] at hr
    simp only [resRun,hp,asAddr,Sem.run_bind,Sem.run_pure,Result.andThen_ok]
    exact hr
   ·cases h
  ·cases h
theorem ret1 {fn:Func} {R:Ending→World→Prop} (hI:Inv B ρ s N a w) {r:ResultVar} (hr:fn.results = #[r]) {v:Value} (h:resOne P s r=some v) (hR:R (.returned v) w):bodyPost P fn R .ret a w:=by
 refine ⟨hI.dfr,v,?_,hR⟩
 have e:=resOne_run hI h
 show (do let vs ← fn.results.mapM (resRun a.tmps); pure (if h:vs.size=1 then vs[0] else .tuple vs):Sem Value).run P w=_
 simp [hr,e]
theorem ret2 {fn:Func} {R:Ending→World→Prop} (hI:Inv B ρ s N a w) {r r':ResultVar} (hr:fn.results = #[r,r']) {v v':Value} (h:resOne P s r=some v) (h':resOne P s r'=some v') (hR:R (.returned (.tuple #[v,v'])) w):bodyPost P fn R .ret a w:=by
 refine ⟨hI.dfr,_,?_,hR⟩
 have e:=resOne_run hI h
 have e':=resOne_run hI h'
 show (do let vs ← fn.results.mapM (resRun a.tmps); pure (if h:vs.size=1 then vs[0] else .tuple vs):Sem Value).run P w=_
 simp [hr,e,e']
theorem ret3 {fn:Func} {R:Ending→World→Prop} (hI:Inv B ρ s N a w) {r r' r'':ResultVar} (hr:fn.results = #[r,r',r'']) {v v' v'':Value} (h:resOne P s r=some v) (h':resOne P s r'=some v') (h'':resOne P s r''=some v'') (hR:R (.returned (.tuple #[v,v',v''])) w):bodyPost P fn R .ret a w:=by
 refine ⟨hI.dfr,_,?_,hR⟩
 have e:=resOne_run hI h
 have e':=resOne_run hI h'
 have e'':=resOne_run hI h''
 show (do let vs ← fn.results.mapM (resRun a.tmps); pure (if h:vs.size=1 then vs[0] else .tuple vs):Sem Value).run P w=_
 simp [hr,e,e',e'']
theorem ret0 {fn:Func} {R:Ending→World→Prop} (hI:Inv B ρ s N a w) (hr:fn.results = #[]) (hR:R (.returned (.tuple #[])) w):bodyPost P fn R .normal a w:=by
 refine ⟨hI.dfr,_,?_,hR⟩
 show (do let vs ← fn.results.mapM (resRun a.tmps); pure (if h:vs.size=1 then vs[0] else .tuple vs):Sem Value).run P w=_
 simp [hr]
def vsteps (P:Program) (w0:World) (N:Nat) (ops:Array Oper):List Oper→St→Option (St×List Obl)
 | [],s=>some (s,[])
 | o::r,s=>match gpath ops s o with
  | none=>none
  | some A=>if dstB N A o.dst then
    match valS P w0 s A o with
    | none=>none
    | some (av,x1)=>match vsteps P w0 N ops r (s.put o.dst A av) with
     | none=>none
     | some (s2,x2)=>some (s2,x1++x2)
   else none
noncomputable def vres (P:Program) (N:Nat) (ops:Array Oper) (l:List Oper) (s:St):St:=((vsteps P default N ops l s).getD (s,[])).1
noncomputable def vobs (P:Program) (N:Nat) (ops:Array Oper) (l:List Oper) (s:St):List Obl:=((vsteps P default N ops l s).getD (s,[])).2
theorem vsteps_is {l:List Oper} (h:(vsteps P default N ops l s).isSome=true):vsteps P default N ops l s=some (vres P N ops l s,vobs P N ops l s):=by
 obtain ⟨x,hx⟩:=Option.isSome_iff_exists.1 h
 unfold vres vobs
 rw [hx]
 rfl
theorem vsteps_ok {w0:World} {K:Act→Prop}:∀ (l:List Oper) {s s':St} {a:Act} {obs:List Obl},Inv B ρ s N a w→vsteps P w0 N ops l s=some (s',obs)→(∀ q ∈ obs,∀ g u,q.l g u=q.r g u) →
  (∀ a',Inv B ρ s' N a' w→K a')→wpStill P ops w K l a
 | [],s,s',a,obs,hI,hs,_,k=>by
  simp only [vsteps,Option.some.injEq,Prod.mk.injEq] at hs
  obtain ⟨rfl,rfl⟩:=hs
  exact k a hI
 | o::r,s,s',a,obs,hI,hs,hob,k=>by
  simp only [vsteps] at hs
  split at hs
  ·cases hs
  ·rename_i A hA
   split at hs
   ·rename_i hd
    split at hs
    ·cases hs
    ·rename_i av x1 hv
     split at hs
     ·cases hs
     ·rename_i s2 x2 h2
      simp only [Option.some.injEq,Prod.mk.injEq] at hs
      obtain ⟨rfl,rfl⟩:=hs
      obtain ⟨hr,hok⟩:=valS_run hI hv fun q hq=>hob q (List.mem_append_left _ hq)
      have ih:∀ a',Inv B ρ (s.put o.dst A av) N a' w→wpStill P ops w K r a':=fun a' hI'=>vsteps_ok r hI' h2 (fun q hq=>hob q (List.mem_append_right _ hq)) k
      unfold wpStill
      by_cases hp:PT a A
      ·rw [if_pos ((wanted_iff hI hA).2 hp)]
       unfold Oper.still
       rw [hr hp,Oper.stillUpon_value]
       exact ih _ (inv_put hI hd hok (fun _=>rfl) fun h=>absurd hp h)
      ·rw [if_neg fun h=>hp ((wanted_iff hI hA).1 h)]
       exact ih _ (inv_put hI hd hok (fun h=>absurd h hp) fun _=>rfl)
   ·cases hs
theorem vsteps_list {w0:World}:∀ (l:List Oper) {s s':St} {a:Act} {obs:List Obl},Inv B ρ s N a w→vsteps P w0 N ops l s=some (s',obs)→(∀ q ∈ obs,∀ g u,q.l g u=q.r g u) →
  (∀ a',Inv B ρ s' N a' w→wpList P ops Q rest a' w)→wpList P ops Q (l++rest) a w
 | [],s,s',a,obs,hI,hs,_,k=>by
  simp only [vsteps,Option.some.injEq,Prod.mk.injEq] at hs
  obtain ⟨rfl,rfl⟩:=hs
  exact k a hI
 | o::r,s,s',a,obs,hI,hs,hob,k=>by
  simp only [vsteps] at hs
  split at hs
  ·cases hs
  ·rename_i A hA
   split at hs
   ·rename_i hd
    split at hs
    ·cases hs
    ·rename_i av x1 hv
     split at hs
     ·cases hs
     ·rename_i s2 x2 h2
      simp only [Option.some.injEq,Prod.mk.injEq] at hs
      obtain ⟨rfl,rfl⟩:=hs
      obtain ⟨hr,hok⟩:=valS_run hI hv fun q hq=>hob q (List.mem_append_left _ hq)
      exact val_step hI hA hd av hok hr fun a' hI'=>vsteps_list r hI' h2 (fun q hq=>hob q (List.mem_append_right _ hq)) k
   ·cases hs
theorem row_v {l:List Oper} (n:Nat) (hI:Inv B ρ s N a w) (hs:(vsteps P default N ops (l.take n) s).isSome=true) (ho:seenL (vobs P N ops (l.take n) s)=seenR (vobs P N ops (l.take n) s))
  (k:∀ a',Inv B ρ (vres P N ops (l.take n) s) N a' w→wpList P ops Q (l.drop n) a' w):wpList P ops Q l a w:=by
 have:=vsteps_list (P:=P) (ops:=ops) (Q:=Q) (rest:=l.drop n) (l.take n) hI (vsteps_is hs) (seen_all ho) k
 rwa [List.take_append_drop] at this
theorem region_v {id:Nat} (hI:Inv B ρ s N a w) (hs:(vsteps P default N ops ops.toList s).isSome=true) (ho:seenL (vobs P N ops ops.toList s)=seenR (vobs P N ops ops.toList s))
  (k:∀ a',Inv B ρ (vres P N ops ops.toList s) N a' w→Q .normal a' w):(Code.region id ops false).wp P Q a w:=by
 refine wp_region_list ?_
 have:=vsteps_list (P:=P) (ops:=ops) (Q:=Q) (rest:=[]) ops.toList hI (vsteps_is hs) (seen_all ho) k
 rwa [List.append_nil] at this
theorem seq_v {id:Nat} {y:Code} (hI:Inv B ρ s N a w) (hs:(vsteps P default N ops ops.toList s).isSome=true) (ho:seenL (vobs P N ops ops.toList s)=seenR (vobs P N ops ops.toList s))
 (k:∀ a',Inv B ρ (vres P N ops ops.toList s) N a' w→y.wp P Q a' w):(Code.seq (Code.region id ops false) y).wp P Q a w:=wp_seq (region_v hI hs ho k)
theorem wrap_i64 {x:Int} (h1 : -9223372036854775808≤x) (h2:x≤9223372036854775807):IntKind.i64.wrap x=x:=by rw [IntKind.wrap_i64]; omega
theorem run_rem {t:TypeId} {x y:Int} (hy:y≠0):(binOp .rem t (.int .i64 x) (.int .i64 y)).run P w = .ok (.int .i64 (x.tmod y)) w:=by simp [go_sem,hy]
theorem bin_ok (hI:Inv B ρ s N a w) (hA:gpath ops s o=some []) (hd:dstB N [] o.dst=true) {op:BinOp} {t t2:TypeId} {x y:Operand} (hop:o.op = .binOp op t x y t2) {xv yv v:Value} (hx:s.look [] x=some (.v xv)) (hy:s.look [] y=some (.v yv))
  (hrun:(eqGuard op t x y xv yv).run P w = .ok () w∧(binOp op t xv yv).run P w = .ok v w) (k:∀ a',Inv B ρ (s.put o.dst [] (.v v)) N a' w→wpList P ops Q rest a' w):wpList P ops Q (o::rest) a w:=by
 refine val_step hI hA hd (.v v) trivial (fun _ => ?_) k
 unfold execOp
 rw [hop]
 simp only [hI.val hx,hI.val hy,Sem.run_bind,hrun.1,hrun.2,Result.andThen_ok,Sem.run_pure]
 rfl
theorem slice_ok (hI:Inv B ρ s N a w) (hA:gpath ops s o=some []) (hd:dstB N [] o.dst=true) {t:TypeId} {x:Operand} {lo hi:Option Operand} (hop:o.op = .slice t x lo hi none) {xv v:Value} {lov hiv:Option Value} (hx:s.look [] x=some (.v xv)) (hlo:lo.map (s.look [])=lov.map fun y=>some (.v y)) (hhi:hi.map (s.look [])=hiv.map fun y=>some (.v y))
  (hrun:(Instr.sliceAt t xv lov hiv none).run P w = .ok v w) (k:∀ a',Inv B ρ (s.put o.dst [] (.v v)) N a' w→wpList P ops Q rest a' w):wpList P ops Q (o::rest) a w:=by
 refine val_step hI hA hd (.v v) trivial (fun _ => ?_) k
 have e:∀ (z:Option Operand) (zv:Option Value),z.map (s.look [])=zv.map (fun y=>some (.v y))→z.map a.eval=zv:=by
  intro z zv h
  cases z with
  | none=>cases zv with
   | none=>rfl
   | some y=>cases h
  | some y=>cases zv with
   | none=>cases h
   | some u =>
    simp only [Option.map_some,Option.some.injEq] at h
    simp only [Option.map_some,hI.val h]
 unfold execOp
 rw [hop]
 simp only [hI.val hx,e _ _ hlo,e _ _ hhi,Option.map_none,Sem.run_bind,hrun,Result.andThen_ok,Sem.run_pure]
 rfl
theorem idx_ok (hI:Inv B ρ s N a w) (hA:gpath ops s o=some A) (hd:dstB N A o.dst=true) {t:TypeId} {x y:Operand} (hop:o.op = .indexAddr t x y) {xv yv v:Value} (hx:s.look A x=some (.v xv)) (hy:s.look A y=some (.v yv))
  (hrun:(Instr.indexAt t xv yv).run P w = .ok v w) (k:∀ a',Inv B ρ (s.put o.dst A (.v v)) N a' w→wpList P ops Q rest a' w):wpList P ops Q (o::rest) a w:=by
 refine val_step hI hA hd (.v v) trivial (fun hp => ?_) k
 have ex:a.eval x=xv:=(look_eval hI hx hp).1
 have ey:a.eval y=yv:=(look_eval hI hy hp).1
 unfold execOp
 rw [hop]
 simp only [ex,ey,Sem.run_bind,hrun,Result.andThen_ok,Sem.run_pure]
 rfl
theorem ld_ok (hI:Inv B ρ s N a w) (hA:gpath ops s o=some A) (hd:dstB N A o.dst=true) {t:TypeId} {x:Operand} (hop:o.op = .load t x) {xv v:Value} (hx:s.look A x=some (.v xv))
  (hrun:(Instr.loadAt t xv).run P w = .ok v w) (k:∀ a',Inv B ρ (s.put o.dst A (.v v)) N a' w→wpList P ops Q rest a' w):wpList P ops Q (o::rest) a w:=by
 refine val_step hI hA hd (.v v) trivial (fun hp => ?_) k
 have ex:a.eval x=xv:=(look_eval hI hx hp).1
 unfold execOp
 rw [hop]
 simp only [ex,Sem.run_bind,hrun,Result.andThen_ok,Sem.run_pure]
 rfl
theorem st_ok (hI:Inv B ρ s N a w) (hA:gpath ops s o=some []) (hdn:o.dst=none) {t:TypeId} {x y:Operand} (hop:o.op = .store t x y) {xv yv:Value} (hx:s.look [] x=some (.v xv)) (hy:s.look [] y=some (.v yv)) {W:World}
  (hrun:(Instr.storeAt t xv yv).run P w = .ok () W) (hI':Inv B ρ s N a W) (k:Inv B ρ s N a W→wpList P ops Q rest a W):wpList P ops Q (o::rest) a w:=by
 refine BigFrame.wpList_want (gpath_nil hI hA) fun K hK => ?_
 unfold Oper.wp execOp
 simp only [hop,hI.val hx,hI.val hy,Sem.run_bind,hrun,Sem.run_pure,Result.andThen_ok]
 rw [Oper.upon_skip,hdn]
 exact hK _ _ (k hI')
theorem run_index1 {t e:TypeId} (hu:P.underlying t=some (.slice e)) (hi:(P.info? e).map (·.size)=some 1) (g n c i:Nat) (h:i<n) (w:World):(Instr.indexAt t (.slice (some ⟨g,0,none⟩) n c) (.int .i64 (i:Int))).run P w = .ok (.pointer (some ⟨g,i,none⟩)) w:=by
 have he:P.elem t=e:=by unfold Program.elem; rw [hu]
 have hu':P.underlying t=some (.slice (P.elem t)):=by rw [he]; exact hu
 obtain ⟨ti,h1,h2⟩:=Option.map_eq_some_iff.1 hi
 rw [run_indexAt_slice (P:=P) (w:=w) t _ _ _ _ _ hu',he]
 simp [sizeOf,typeInfo,h1,h2,Result.andThen,h,Addr.add_mid]
theorem run_store1 {t:TypeId} (hi:(P.info? t).map (·.size)=some 1) (g i:Nat) (v:Value) (h1:v.oneCell'=true) (w:World) {old:Value} (hc:w.cell? ⟨g,i,none⟩=some old) (hf:w.frozen? ⟨g,i,none⟩=false):(Instr.storeAt t (.pointer (some ⟨g,i,none⟩)) v).run P w = .ok () (w.setCell ⟨g,i,none⟩ v):=by
 have hv:v.cells = #[v]:=by cases v <;> first|rfl|cases h1
 have:=run_storeVar_mid (P:=P) w g i t #[v] (by
  intro j hj
  have hj0:j=0:=by simp at hj; omega
  subst hj0
  exact ⟨by rw [Nat.add_zero,hc]; rfl,by rw [Nat.add_zero]; exact hf⟩) (by simpa using hi) (by simp [h1])
 have e:storeVar t ⟨g,i,none⟩ (.agg #[v])=storeVar t ⟨g,i,none⟩ v:=by unfold storeVar; rw [hv]; rfl
 rw [e] at this
 simp only [Instr.storeAt,Instr.sureAddr,Sem.run_bind,Sem.run_pure,Result.andThen_ok]
 exact this
theorem Inv.lt (hI:Inv B ρ s N a w) {g:Nat} (h:g ∈ ρ):g<w.heap.size:=by
 obtain ⟨b,hb,rfl⟩:=List.getElem_of_mem h
 have:=(hI.mem b _ _ (List.getElem?_eq_getElem (by rw [← hI.len]; exact hb))).lt
 rwa [nth_get hb] at this
theorem append_ok (hI:Inv B ρ s N a w) (hgd:o.guard=none) (hd:dstB N [] o.dst=true) (x y:Operand) (t:TypeId) (hop:o.op = .call { callee := .builtin .append,args := #[x,y],argTypes := #[t,t] })
  (base:Nat) (e:TypeId) (i:TypeInfo) (z:Value) (ht:P.underlying t=some (.slice e)) (hi:P.info? e=some i) (hz:i.zero=some z) (hsize:i.size=1) (hby:i.bytes=1) (hzs:z.cells.size=1)
  (v:Value) (l:List UInt8) (hs:s.look [] x=some (.v v)) (hown:w.ownsRow base e 1 v l.length (cells8 l))
  (B':Nat) (A:Option Addr) (m c:Nat) (k:List UInt8) (hx:s.look [] y=some (.v (.slice A m c))) (hr:Row8 w B' A m c k) (hbytes:l.length+m≤140737488355328) (hbase:base≤w.heap.size) (hlo:∀ g ∈ ρ,g<base)
  (h:∀ v' a' w',w'.ownsRow base e 1 v' (l++k).length (cells8 (l++k))→Below base w w'→Inv B ρ (s.put o.dst [] (.v v')) N a' w'→wpList P ops Q rest a' w'):wpList P ops Q (o::rest) a w:=by
 refine wpList_append_row w hgd x y t hop base e i z ht hi hz hsize hby hzs v l (hI.val hs) hown B' A m c k (hI.val hx) hr hbytes hbase fun v' w' ho hg hl => ?_
 have hb:Below base w w':=(Below.refl base w).grown hg hbase hl
 have hI':Inv B ρ s N a w':=⟨hI.size,hI.dfr,hI.tab,hI.len,hI.nd,fun b t cs hm=>by
   have h1:=hI.mem b t cs hm
   exact h1.below hb (hlo _ (nth_mem (by rw [hI.len]; exact (List.getElem?_eq_some_iff.1 hm).1))),hI.base,Nat.le_trans hI.big hb.size,hI.wrok⟩
 exact h v' _ w' ho hb (inv_put hI' hd trivial (fun _=>rfl) fun h=>absurd (fun _ hx=>(nomatch hx)) h)
theorem Inv.draw (hI:Inv B ρ s N a w):Inv B ρ s N a { w with drawn:=w.drawn+1 }:=⟨hI.size,hI.dfr,hI.tab,hI.len,hI.nd,hI.mem,hI.base,hI.big,hI.wrok⟩
theorem open_ok {id:Nat} {l:List Oper} (hI:Inv B ρ s N a w) (hm:P.follows .mixedOrders=true) (hB:Region.lexB .any l.toArray=true) (hs:(vsteps P default N l.toArray l s).isSome=true) (ho:seenL (vobs P N l.toArray l s)=seenR (vobs P N l.toArray l s))
  (k:∀ a',Inv B ρ (vres P N l.toArray l s) N a' { w with drawn:=w.drawn+1 }→Q .normal a' { w with drawn:=w.drawn+1 }):(Code.region id l.toArray true).wp P Q a w :=
 wp_region_still_lit hm hB (vsteps_ok l hI.draw (vsteps_is hs) (seen_all ho) k)
theorem tail_ok {id:Nat} {l:List Oper} (n:Nat) (hI:Inv B ρ s N a w) (hm:P.follows .mixedOrders=true) (hB:Region.lexTailB .any l.toArray n=true) (hs:(vsteps P default N l.toArray (l.take n) s).isSome=true) (ho:seenL (vobs P N l.toArray (l.take n) s)=seenR (vobs P N l.toArray (l.take n) s))
  (k:∀ a',Inv B ρ (vres P N l.toArray (l.take n) s) N a' { w with drawn:=w.drawn+1 }→wpList P l.toArray Q (l.drop n) a' { w with drawn:=w.drawn+1 }):(Code.region id l.toArray true).wp P Q a w :=
 wp_region_still_tail n hm hB (vsteps_ok (l.take n) hI.draw (vsteps_is hs) (seen_all ho) k)
end
end Go.Proofs.Ytkhdnlkdcikdmaa.Ev
namespace Go.Proofs.Ytkhdnlkdcikdmaa.Ev
open Go.RowKit Go.Proofs.Ytkhdnlkdcikdmaa.Sm
set_option maxHeartbeats 1000000
set_option linter.unusedVariables false
def Mem (B:Nat) (ρ : List Nat) (s:St) (X:World→Prop) (u:World):Prop:=(∀ b t cs,s.mem[b]? = some (t,cs)→Ob u (nth ρ b) t cs)∧B≤u.heap.size∧X u
def Deaf (Q:Exit→Act→World→Prop):Prop:=∀ c a d v w,Q (.panic c) (Act.put a d v) w→Q (.panic c) a w
def takesB (ops:Array Oper):List Nat→Array Bool→Bool
 | [],_=>true
 | i::r,listed=>Region.free .any ops listed i&&(Region.ready .any ops listed).contains i&&takesB ops r (listed.setIfInBounds i true)
def after:List Nat→Array Bool→Array Bool
 | [],listed=>listed
 | i::r,listed=>after r (listed.setIfInBounds i true)
def isteps (P:Program) (w0:World) (N:Nat) (ops:Array Oper):List Nat→St→Option (St×List Obl)
  | [],s=>some (s,[])
  | i::r,s=>match ops[i]? with
    | none=>none
    | some o=>match gpath ops s o with
      | none=>none
      | some A=>if dstB N A o.dst then
          match valS P w0 s A o with
          | none=>none
          | some (av,x1)=>match isteps P w0 N ops r (s.put o.dst A av) with
            | none=>none
            | some (s2,x2)=>some (s2,x1++x2)
        else none
noncomputable def ires (P:Program) (N:Nat) (ops:Array Oper) (l:List Nat) (s:St):St:=((isteps P default N ops l s).getD (s,[])).1
noncomputable def iobs (P:Program) (N:Nat) (ops:Array Oper) (l:List Nat) (s:St):List Obl:=((isteps P default N ops l s).getD (s,[])).2
section
variable {B N:Nat} {ρ : List Nat} {s:St} {a:Act} {w:World} {A:List (Nat×Bool)} {o:Oper} {ops:Array Oper} {P:Program} {Q:Exit→Act→World→Prop} {X:World→Prop}
theorem isteps_is {l:List Nat} (h:(isteps P default N ops l s).isSome=true):isteps P default N ops l s=some (ires P N ops l s,iobs P N ops l s):=by
 obtain ⟨x,hx⟩:=Option.isSome_iff_exists.1 h
 unfold ires iobs
 rw [hx]
 rfl
theorem put_mem (s:St) (d:Option Nat) (A:List (Nat×Bool)) (av:AV):(s.put d A av).mem=s.mem:=by cases d <;> rfl
theorem Inv.at_ (hI:Inv B ρ s N a w) {s0:St} (hm:s.mem=s0.mem) {u:World} (hu:Mem B ρ s0 X u):Inv B ρ s N a u :=
 ⟨hI.size,hI.dfr,hI.tab,hI.len,hI.nd,by rw [hm]; exact hu.1,hI.base,hu.2.1,hI.wrok⟩
theorem isteps_ok {w0:World} {s0:St} (hX:X w) (hQ:Deaf Q) (hsel:Region.noSelect ops=true) {fuel:Nat}:∀ (l:List Nat) {s s':St} {a:Act} {obs:List Obl} {listed:Array Bool},s.mem=s0.mem→Inv B ρ s N a w→isteps P w0 N ops l s=some (s',obs)→(∀ q ∈ obs,∀ g u,q.l g u=q.r g u)→takesB ops l listed=true →
  (∀ a',s'.mem=s0.mem→Inv B ρ s' N a' w→wpAnyH P .any ops Q (Mem B ρ s0 X) fuel (after l listed) a' w)→wpAnyH P .any ops Q (Mem B ρ s0 X) (fuel+l.length) listed a w
 | [],s,s',a,obs,listed,hm,hI,hs,_,_,k=>by
  simp only [isteps,Option.some.injEq,Prod.mk.injEq] at hs
  obtain ⟨rfl,rfl⟩:=hs
  exact k a hm hI
 | i::r,s,s',a,obs,listed,hm,hI,hs,hob,ht,k=>by
  simp only [isteps] at hs
  split at hs
  ·cases hs
  ·rename_i o ho
   split at hs
   ·cases hs
   ·rename_i A hA
    split at hs
    ·rename_i hd
     split at hs
     ·cases hs
     ·rename_i av x1 hv
      split at hs
      ·cases hs
      ·rename_i s2 x2 h2
       simp only [Option.some.injEq,Prod.mk.injEq] at hs
       obtain ⟨rfl,rfl⟩:=hs
       simp only [takesB,Bool.and_eq_true] at ht
       have hok:=(valS_run hI hv fun q hq=>hob q (List.mem_append_left _ hq)).2
       have ih:∀ a',Inv B ρ (s.put o.dst A av) N a' w→wpAnyH P .any ops Q (Mem B ρ s0 X) (fuel+r.length) (listed.setIfInBounds i true) a' w:=fun a' hI'=>isteps_ok hX hQ hsel r (by rw [put_mem]; exact hm) hI' h2 (fun q hq=>hob q (List.mem_append_right _ hq)) ht.2 k
       have hS:Mem B ρ s0 X w:=⟨by rw [← hm]; exact hI.mem,hI.big,hX⟩
       show wpAnyH P .any ops Q (Mem B ρ s0 X) (fuel+r.length+1) listed a w
       by_cases hp:PT a A
       ·refine wpAnyH_take ho hsel ht.1.1 ht.1.2 (fun c a w h=>hQ c a _ _ w h) (.inl ⟨(wanted_iff hI hA).2 hp,fun u hu => ?_⟩) hS (ih _ (inv_put hI hd hok (fun _=>rfl) fun h=>absurd hp h))
        exact (valS_run (hI.at_ hm hu) hv fun q hq=>hob q (List.mem_append_left _ hq)).1 hp
       ·refine wpAnyH_take ho hsel ht.1.1 ht.1.2 (fun c a w h=>hQ c a _ _ w h) (.inr ⟨?_,rfl⟩) hS (ih _ (inv_put hI hd hok (fun h=>absurd h hp) fun _=>rfl))
        rw [Bool.eq_false_iff]
        exact fun h=>hp ((wanted_iff hI hA).1 h)
    ·cases hs
theorem held_begin {id:Nat} (X:World→Prop) (l:List Nat) (fuel:Nat) (hX:X w.drew) (hI:Inv B ρ s N a w) (hm:P.follows .mixedOrders=true) (hsel:Region.noSelect ops=true) (hQ:Deaf Q) (hf:fuel+l.length=ops.size) (ht:takesB ops l (Array.replicate ops.size false)=true) (hs:(isteps P default N ops l s).isSome=true) (ho:seenL (iobs P N ops l s)=seenR (iobs P N ops l s))
  (k:∀ a',Inv B ρ (ires P N ops l s) N a' w.drew→wpAnyH P .any ops Q (Mem B ρ s X) fuel (after l (Array.replicate ops.size false)) a' w.drew):(Code.region id ops true).wp P Q a w:=by
 refine wp_region_held (S:=Mem B ρ s X) hm ?_
 have:=isteps_ok (P:=P) (ops:=ops) (w:=w.drew) (s0:=s) (fuel:=fuel) hX hQ hsel l rfl (hI.draw) (isteps_is hs) (seen_all ho) ht fun a' _ hI'=>k a' hI'
 rwa [hf] at this
theorem held_more {s0:St} (l:List Nat) {n fuel:Nat} {listed:Array Bool} (hX:X w) (hI:Inv B ρ s N a w) (hm:s.mem=s0.mem) (hsel:Region.noSelect ops=true) (hQ:Deaf Q) (hf:fuel+l.length=n) (ht:takesB ops l listed=true) (hs:(isteps P default N ops l s).isSome=true) (ho:seenL (iobs P N ops l s)=seenR (iobs P N ops l s))
  (k:∀ a',Inv B ρ (ires P N ops l s) N a' w→wpAnyH P .any ops Q (Mem B ρ s0 X) fuel (after l listed) a' w):wpAnyH P .any ops Q (Mem B ρ s0 X) n listed a w:=by
 subst hf
 exact isteps_ok hX hQ hsel l hm hI (isteps_is hs) (seen_all ho) ht fun a' _ hI'=>k a' hI'
theorem held_call {s0:St} {i n:Nat} {listed:Array Bool} (hI:Inv B ρ s N a w) (hm:s.mem=s0.mem) (ho:ops[i]? = some o) (hr:Region.ready .any ops listed=[i]) (hA:gpath ops s o=some A) (hp:A.map (fun x=>s.look [] (.tmp x.1))=A.map fun x=>some (.v (.bool x.2))) (hd:dstB N [] o.dst=true) {l:List Operand} (hl:opnds o.op=some l) (hall:l.all (fun x=>(s.look [] x).isSome)=true)
  {f:FuncId} {args:Array Value} (hrun:∀ u,(execOp (lookV ρ s) o).run P u = .ok (.enter f args) u) {R:Value→World→Prop} (hc:Calls P f args w fun e w'=>∃ v,e = .returned v∧R v w') (hR:∀ v w',R v w'→Below w.heap.size w w') (hX:∀ v w',R v w'→X w')
  (k:∀ v a' w',R v w'→Inv B ρ (s.put o.dst [] (.v v)) N a' w'→wpAnyH P .any ops Q (Mem B ρ s0 X) n (listed.setIfInBounds i true) a' w'):wpAnyH P .any ops Q (Mem B ρ s0 X) (n+1) listed a w:=by
 refine Sm.Held.later_call ho hr fun K hK => ?_
 rw [if_pos ((wanted_iff hI hA).2 (pt_of hI hp))]
 have he:(execOp a.eval o).run P w = .ok (.enter f args) w:=by
  rw [execOp_congr hl (ρ₂:=lookV ρ s)]
  ·exact hrun w
  ·exact fun x hx=>lookV_eval hI (List.all_eq_true.1 hall x hx)
 unfold Oper.wp
 rw [he,Oper.upon_enter]
 refine hc.mono ?_
 rintro e w' ⟨v,rfl,hr⟩
 have hI':=hI.later (hR v w' hr)
 exact hK.out _ _ ⟨by rw [← hm]; exact hI'.mem,hI'.big,hX v w' hr⟩ (k v _ w' hr (inv_put hI' hd trivial (fun _=>rfl) fun h=>absurd (fun _ hx=>(nomatch hx)) h))
theorem held_callB (base:Nat) (hlo:∀ g ∈ ρ,g<base) {s0:St} {i n:Nat} {listed:Array Bool} (hI:Inv B ρ s N a w) (hm:s.mem=s0.mem) (ho:ops[i]? = some o) (hr:Region.ready .any ops listed=[i]) (hA:gpath ops s o=some A) (hp:A.map (fun x=>s.look [] (.tmp x.1))=A.map fun x=>some (.v (.bool x.2))) (hd:dstB N [] o.dst=true) {l:List Operand} (hl:opnds o.op=some l) (hall:l.all (fun x=>(s.look [] x).isSome)=true)
  {f:FuncId} {args:Array Value} (hrun:∀ u,(execOp (lookV ρ s) o).run P u = .ok (.enter f args) u) {R:Value→World→Prop} (hc:Calls P f args w fun e w'=>∃ v,e = .returned v∧R v w') (hR:∀ v w',R v w'→Below base w w') (hX:∀ v w',R v w'→X w')
  (k:∀ v a' w',R v w'→Inv B ρ (s.put o.dst [] (.v v)) N a' w'→wpAnyH P .any ops Q (Mem B ρ s0 X) n (listed.setIfInBounds i true) a' w'):wpAnyH P .any ops Q (Mem B ρ s0 X) (n+1) listed a w:=by
 refine Sm.Held.later_call ho hr fun K hK => ?_
 rw [if_pos ((wanted_iff hI hA).2 (pt_of hI hp))]
 have he:(execOp a.eval o).run P w = .ok (.enter f args) w:=by
  rw [execOp_congr hl (ρ₂:=lookV ρ s)]
  ·exact hrun w
  ·exact fun x hx=>lookV_eval hI (List.all_eq_true.1 hall x hx)
 unfold Oper.wp
 rw [he,Oper.upon_enter]
 refine hc.mono ?_
 rintro e w' ⟨v,rfl,hr⟩
 have hI':=hI.laterB (hR v w' hr) hlo
 exact hK.out _ _ ⟨by rw [← hm]; exact hI'.mem,hI'.big,hX v w' hr⟩ (k v _ w' hr (inv_put hI' hd trivial (fun _=>rfl) fun h=>absurd (fun _ hx=>(nomatch hx)) h))
theorem held_gcall {s0:St} {i n:Nat} {listed:Array Bool} (hX0:X w) (hI:Inv B ρ s N a w) (hm:s.mem=s0.mem) (ho:ops[i]? = some o) (hr:Region.ready .any ops listed=[i]) (hA:gpath ops s o=some A) (hd:dstB N A o.dst=true) {l:List Operand} (hl:opnds o.op=some l) (hall:l.all (fun x=>(plainV s A x).isSome)=true)
  {f:FuncId} {args:Array Value} (hrun:∀ u,(execOp (fun x=>(plainV s A x).getD undef) o).run P u = .ok (.enter f args) u) {v:Value} (hc:Calls P f args w fun e w'=>e = .returned v∧Below w.heap.size w w') (hX:∀ w',Below w.heap.size w w'→X w')
  (k:∀ a' w',Below w.heap.size w w'→Inv B ρ (s.put o.dst A (.v v)) N a' w'→wpAnyH P .any ops Q (Mem B ρ s0 X) n (listed.setIfInBounds i true) a' w'):wpAnyH P .any ops Q (Mem B ρ s0 X) (n+1) listed a w:=by
 refine Sm.Held.later_call ho hr fun K hK => ?_
 by_cases hp:PT a A
 ·rw [if_pos ((wanted_iff hI hA).2 hp)]
  have he:(execOp a.eval o).run P w = .ok (.enter f args) w:=by
   rw [execOp_congr hl (ρ₂:=fun x=>(plainV s A x).getD undef)]
   ·exact hrun w
   ·intro x hx
    obtain ⟨y,hy⟩:=Option.isSome_iff_exists.1 (List.all_eq_true.1 hall x hx)
    rw [hy]
    exact plainV_eval hI hy hp
  unfold Oper.wp
  rw [he,Oper.upon_enter]
  refine hc.mono ?_
  rintro e w' ⟨rfl,hb⟩
  have hI':=hI.later hb
  exact hK.out _ _ ⟨by rw [← hm]; exact hI'.mem,hI'.big,hX w' hb⟩ (k _ w' hb (inv_put hI' hd trivial (fun _=>rfl) fun h=>absurd hp h))
 ·rw [if_neg fun h=>hp ((wanted_iff hI hA).1 h)]
  exact hK.out _ _ ⟨by rw [← hm]; exact hI.mem,hI.big,hX0⟩ (k _ w (Below.refl _ _) (inv_put hI hd trivial (fun h=>absurd h hp) fun _=>rfl))
theorem held_skip {s0:St} {i n:Nat} {listed:Array Bool} (hX:X w) (hI:Inv B ρ s N a w) (hmm:s.mem=s0.mem) (hsel:Region.noSelect ops=true) (hQ:Deaf Q) (ho:ops[i]? = some o) (ht:(Region.free .any ops listed i&&(Region.ready .any ops listed).contains i)=true) (hA:gpath ops s o=some A) {m:Nat} {b:Bool} (hm:s.look [] (.tmp m)=some (.v (.bool b))) (hin:A.contains (m,!b)=true)
  (k:∀ a',Inv B ρ (s.drop o.dst) N a' w→wpAnyH P .any ops Q (Mem B ρ s0 X) n (listed.setIfInBounds i true) a' w):wpAnyH P .any ops Q (Mem B ρ s0 X) (n+1) listed a w:=by
 simp only [Bool.and_eq_true] at ht
 have hw:Region.wanted o (yielded ops a.tmps)=false:=by
  rw [Bool.eq_false_iff]
  intro h
  have h1:=(wanted_iff hI hA).1 h (m,!b) (by simpa using hin)
  have h3:sl a m = .bool b:=hI.val hm
  rw [h3] at h1
  injection h1 with h1
  cases b <;> cases h1
 exact wpAnyH_take ho hsel ht.1 ht.2 (fun c a w h=>hQ c a _ _ w h) (.inr ⟨hw,rfl⟩) ⟨by rw [← hmm]; exact hI.mem,hI.big,hX⟩ (k _ (inv_drop hI _ _))
theorem held_pick {s0:St} {i n:Nat} {listed:Array Bool} (hX:X w) (hI:Inv B ρ s N a w) (hmm:s.mem=s0.mem) (hsel:Region.noSelect ops=true) (hQ:Deaf Q) (ho:ops[i]? = some o) (ht:(Region.free .any ops listed i&&(Region.ready .any ops listed).contains i)=true) (hA:gpath ops s o=some []) (hd:dstB N [] o.dst=true) {c x y:Operand} (hop:o.op = .pick c x y) {b:Bool} (hc:s.look [] c=some (.v (.bool b))) {av:AV} (hv:s.look [] (bif b then x else y)=some av)
  (k:∀ a',Inv B ρ (s.put o.dst [] av) N a' w→wpAnyH P .any ops Q (Mem B ρ s0 X) n (listed.setIfInBounds i true) a' w):wpAnyH P .any ops Q (Mem B ρ s0 X) (n+1) listed a w:=by
 simp only [Bool.and_eq_true] at ht
 have hp:PT a []:=fun _ hx=>(nomatch hx)
 refine wpAnyH_take ho hsel ht.1 ht.2 (fun c a w h=>hQ c a _ _ w h) (.inl ⟨(wanted_iff hI hA).2 hp,fun u hu => ?_⟩) ⟨by rw [← hmm]; exact hI.mem,hI.big,hX⟩ (k _ (inv_put hI hd (look_ok hI hv) (fun _=>rfl) fun h=>absurd hp h))
 have e1:a.eval c = .bool b:=hI.val hc
 have e2:=(look_eval hI hv hp).1
 unfold execOp
 rw [hop]
 cases b with
 | true=>simp only [e1,asBool,Sem.run_bind,Sem.run_pure,Result.andThen_ok,if_true]; exact congrArg (fun z=>Result.ok (Next.value z) u) e2
 | false=>simp only [e1,asBool,Sem.run_bind,Sem.run_pure,Result.andThen_ok]; exact congrArg (fun z=>Result.ok (Next.value z) u) e2
theorem held_conv {s0:St} {i n:Nat} {listed:Array Bool} (hX:X w) (hI:Inv B ρ s N a w) (hmm:s.mem=s0.mem) (hsel:Region.noSelect ops=true) (hQ:Deaf Q) (ho:ops[i]? = some o) (ht:(Region.free .any ops listed i&&(Region.ready .any ops listed).contains i)=true) (hA:gpath ops s o=some A) (hd:dstB N A o.dst=true) {src dst:TypeId} {x:Operand} (hop:o.op = .convert src dst x) {xv v:Value} (hx:s.look A x=some (.v xv)) (hc:∀ u,X u→(convert src dst xv).run P u = .ok v u)
  (k:∀ a',Inv B ρ (s.put o.dst A (.v v)) N a' w→wpAnyH P .any ops Q (Mem B ρ s0 X) n (listed.setIfInBounds i true) a' w):wpAnyH P .any ops Q (Mem B ρ s0 X) (n+1) listed a w:=by
 simp only [Bool.and_eq_true] at ht
 by_cases hp:PT a A
 ·refine wpAnyH_take (v:=v) ho hsel ht.1 ht.2 (fun c a w h=>hQ c a _ _ w h) (.inl ⟨(wanted_iff hI hA).2 hp,fun u hu => ?_⟩) ⟨by rw [← hmm]; exact hI.mem,hI.big,hX⟩ (k _ (inv_put hI hd trivial (fun _=>rfl) fun h=>absurd hp h))
  have ex:a.eval x=xv:=(look_eval hI hx hp).1
  unfold execOp
  rw [hop]
  simp only [ex,Sem.run_bind,hc u hu.2.2,Result.andThen_ok,Sem.run_pure]
 ·refine wpAnyH_take (v:=undef) ho hsel ht.1 ht.2 (fun c a w h=>hQ c a _ _ w h) (.inr ⟨?_,rfl⟩) ⟨by rw [← hmm]; exact hI.mem,hI.big,hX⟩ (k _ (inv_put hI hd trivial (fun h=>absurd h hp) fun _=>rfl))
  rw [Bool.eq_false_iff]
  exact fun h=>hp ((wanted_iff hI hA).1 h)
theorem held_slice {s0:St} {i n:Nat} {listed:Array Bool} (hX:X w) (hI:Inv B ρ s N a w) (hmm:s.mem=s0.mem) (hsel:Region.noSelect ops=true) (hQ:Deaf Q) (ho:ops[i]? = some o) (ht:(Region.free .any ops listed i&&(Region.ready .any ops listed).contains i)=true) (hA:gpath ops s o=some []) (hd:dstB N [] o.dst=true) {t:TypeId} {x:Operand} {lo hi:Option Operand} (hop:o.op = .slice t x lo hi none) {xv v:Value} {lov hiv:Option Value} (hx:s.look [] x=some (.v xv)) (hlo:lo.map (s.look [])=lov.map fun y=>some (.v y)) (hhi:hi.map (s.look [])=hiv.map fun y=>some (.v y))
  (hrun:∀ u,(Instr.sliceAt t xv lov hiv none).run P u = .ok v u) (k:∀ a',Inv B ρ (s.put o.dst [] (.v v)) N a' w→wpAnyH P .any ops Q (Mem B ρ s0 X) n (listed.setIfInBounds i true) a' w):wpAnyH P .any ops Q (Mem B ρ s0 X) (n+1) listed a w:=by
 simp only [Bool.and_eq_true] at ht
 have hp:PT a []:=fun _ hx=>(nomatch hx)
 refine wpAnyH_take (v:=v) ho hsel ht.1 ht.2 (fun c a w h=>hQ c a _ _ w h) (.inl ⟨(wanted_iff hI hA).2 hp,fun u hu => ?_⟩) ⟨by rw [← hmm]; exact hI.mem,hI.big,hX⟩ (k _ (inv_put hI hd trivial (fun _=>rfl) fun h=>absurd hp h))
 have e:∀ (z:Option Operand) (zv:Option Value),z.map (s.look [])=zv.map (fun y=>some (.v y))→z.map a.eval=zv:=by
  intro z zv h
  cases z with
  | none=>cases zv with
   | none=>rfl
   | some y=>cases h
  | some y=>cases zv with
   | none=>cases h
   | some u =>
    simp only [Option.map_some,Option.some.injEq] at h
    simp only [Option.map_some,hI.val h]
 unfold execOp
 rw [hop]
 simp only [hI.val hx,e _ _ hlo,e _ _ hhi,Option.map_none,Sem.run_bind,hrun,Result.andThen_ok,Sem.run_pure]
theorem conv_ok {rest:List Oper} (hI:Inv B ρ s N a w) (hA:gpath ops s o=some []) (hd:dstB N [] o.dst=true) {src dst:TypeId} {x:Operand} (hop:o.op = .convert src dst x) {xv v:Value} (hx:s.look [] x=some (.v xv)) (hc:(convert src dst xv).run P w = .ok v w) (k:∀ a',Inv B ρ (s.put o.dst [] (.v v)) N a' w→wpList P ops Q rest a' w):wpList P ops Q (o::rest) a w:=by
 refine val_step hI hA hd (.v v) trivial (fun _ => ?_) k
 unfold execOp
 rw [hop]
 simp only [hI.val hx,Sem.run_bind,hc,Result.andThen_ok,Sem.run_pure]
 rfl
theorem held_same {s0:St} {i n b:Nat} {listed:Array Bool} (hI:Inv B ρ s N a w) (hm0:s.mem=s0.mem) (hX:∀ w',Beside (nth ρ b) w w'→X w') (ho:ops[i]? = some o) (hr:Region.ready .any ops listed=[i]) (hA:gpath ops s o=some []) (hdn:o.dst=none) {t:TypeId} {x y:Operand} (hop:o.op = .store t x y) (hx:s.look [] x=some (.p b 0)) {v:Value} (hy:s.look [] y=some (.v v)) {T:TypeId} (hmb:s.mem[b]? = some (T,v.cells.toList))
  (hsz:(P.info? t).map (·.size)=some v.cells.size) (hone:v.cells.toList.all (·.oneCell')=true)
  (k:∀ w',Beside (nth ρ b) w w'→Inv B ρ s N a w'→wpAnyH P .any ops Q (Mem B ρ s0 X) n (listed.setIfInBounds i true) a w'):wpAnyH P .any ops Q (Mem B ρ s0 X) (n+1) listed a w:=by
 refine Sm.Held.later_call ho hr fun K hK => ?_
 rw [if_pos (gpath_nil hI hA)]
 have ex:a.eval x = .pointer (some ⟨nth ρ b,0,none⟩):=hI.ptr hx
 have ey:=hI.val hy
 have hob:=hI.mem b T _ hmb
 have hb:b < ρ.length:=by rw [hI.len]; exact (List.getElem?_eq_some_iff.1 hmb).1
 have hrun:(storeVar t ⟨nth ρ b,0,none⟩ v).run P w = .ok () (w.setCells (nth ρ b) 0 v.cells.toList):=by
  have hth:w.there (nth ρ b) 0 v.cells.size:=by
   intro j hj
   have hj':0+j<v.cells.toList.length:=by rw [Array.length_toList]; omega
   exact ⟨by rw [hob.cell (List.getElem?_eq_getElem hj')]; rfl,hob.frozen _⟩
  exact run_storeVar_mid (P:=P) w (nth ρ b) 0 t v.cells hth hsz (by rw [← Array.all_toList]; exact hone)
 have hbs:Beside (nth ρ b) w (w.setCells (nth ρ b) 0 v.cells.toList):=beside_setCells _ _ _ (Beside.refl _ _)
 have hob2:=setCells_same w (nth ρ b) 0 T v.cells.toList v.cells.toList hob oM
 rw [List.take_zero,List.nil_append,Nat.zero_add,List.drop_of_length_le (Nat.le_refl _),List.append_nil] at hob2
 have hI2:Inv B ρ s N a (w.setCells (nth ρ b) 0 v.cells.toList):=by
  have h:=inv_set hI hb hbs hob2
  have e:s.mem.set b (T,v.cells.toList)=s.mem:=by
   refine List.ext_getElem? fun c => ?_
   by_cases hc:c=b
   ·subst hc
    rw [List.getElem?_set_self (by rw [← hI.len]; exact hb),hmb]
   ·rw [List.getElem?_set_ne (Ne.symm hc)]
  refine ⟨h.size,h.dfr,h.tab,hI.len,h.nd,fun c t' cs' hc=>h.mem c t' cs' ?_,h.base,h.big,hI.wrok⟩
  show (s.mem.set b (T,v.cells.toList))[c]? = _
  rw [e]
  exact hc
 unfold Oper.wp execOp
 simp only [hop,ex,ey,Instr.storeAt,Instr.sureAddr,Sem.run_bind,Sem.run_pure,Result.andThen_ok,hrun]
 rw [Oper.upon_skip,hdn]
 exact hK.out _ _ ⟨by rw [← hm0]; exact hI2.mem,hI2.big,hX _ hbs⟩ (k _ hbs hI2)
theorem held_append {s0:St} {i n:Nat} {listed:Array Bool} (hI:Inv B ρ s N a w) (hm:s.mem=s0.mem) (ho:ops[i]? = some o) (hr:Region.ready .any ops listed=[i]) (hgd:o.guard=none) (hd:dstB N [] o.dst=true) (x y:Operand) (t:TypeId) (hop:o.op = .call { callee := .builtin .append,args := #[x,y],argTypes := #[t,t] })
  (base:Nat) (e:TypeId) (ti:TypeInfo) (z:Value) (ht:P.underlying t=some (.slice e)) (hti:P.info? e=some ti) (hz:ti.zero=some z) (hsize:ti.size=1) (hby:ti.bytes=1) (hzs:z.cells.size=1)
  (v:Value) (l:List UInt8) (hs:s.look [] x=some (.v v)) (hown:w.ownsRow base e 1 v l.length (cells8 l))
  (B':Nat) (A:Option Addr) (m c:Nat) (k:List UInt8) (hx:s.look [] y=some (.v (.slice A m c))) (hrow:Row8 w B' A m c k) (hbytes:l.length+m≤1000000) (hbase:base≤w.heap.size) (hlo:∀ g ∈ ρ,g<base) (hX:∀ w',Below base w w'→X w')
  (h:∀ v' a' w',w'.ownsRow base e 1 v' (l++k).length (cells8 (l++k))→Below base w w'→Inv B ρ (s.put o.dst [] (.v v')) N a' w'→wpAnyH P .any ops Q (Mem B ρ s0 X) n (listed.setIfInBounds i true) a' w'):wpAnyH P .any ops Q (Mem B ρ s0 X) (n+1) listed a w:=by
 refine Sm.Held.later_call ho hr fun K hK => ?_
 rw [if_pos (Sm.Held.wanted_of hgd _)]
 have hlt:∀ g,v.ownBlock=some g→base≤g:=fun g hg=>(hown.lt g hg).1
 have fin:∀ v' w',w'.ownsRow base e 1 v' (l++k).length (cells8 (l++k))→w.grownBy w' v.ownBlock→K (a.put o.dst v') w':=by
  intro v' w' h1 h2
  have hb:Below base w w':=(Below.refl base w).grown h2 hbase hlt
  have hI':=hI.laterB hb hlo
  exact hK.out _ _ ⟨by rw [← hm]; exact hI'.mem,hI'.big,hX w' hb⟩ (h v' _ w' h1 hb (inv_put hI' hd trivial (fun _=>rfl) fun h=>absurd (fun _ hx=>(nomatch hx)) h))
 cases A with
 | none =>
  have hc0:=hrow.none_ rfl
  have hm0:m=0:=by have:=hrow.room; omega
  subst hc0 hm0
  have hk:k=[]:=List.eq_nil_of_length_eq_zero hrow.len
  subst hk
  have hrun:=run_append_owned_none (P:=P) (w:=w) base t o.type e ti 1 ht hti v _ _ hown
  have e1:=hI.val hs
  have e2:=hI.val hx
  unfold Oper.wp
  simp [execOp,hop,resolve,invoke,builtin,e1,e2,hrun,Result.andThen]
  exact fin v w (by simpa using hown) (World.grownBy.refl w _)
 | some ad =>
  refine wp_append_own w x y t hop base e ti z 1 1 ht hti hz hsize hby hzs (by decide) v _ _ (hI.val hs) hown ad m c (cells8 k) (hI.val hx) (by rw [cells8_length,hrow.len]; omega) hrow.news (cells8_one k) (by unfold maxLen; omega) oM hbase ?_
  intro v' w' h1 h2 _
  have hl:l.length+m=(l++k).length:=by rw [List.length_append,hrow.len]
  rw [hl,← cells8_append] at h1
  exact fin v' w' h1 h2
theorem held_done {s0:St} {n:Nat} {listed:Array Bool} (hr:Region.ready .any ops listed=[]) (h:Q .normal a w):wpAnyH P .any ops Q (Mem B ρ s0 X) n listed a w:=wpAnyH_done hr h n
end
end Go.Proofs.Ytkhdnlkdcikdmaa.Ev
