/- Several texts in one: SmEv SmEvTop SmEvHeld. -/
import Derived.StillTail
import Derived.WalkKit
import Derived.Great.BuildSlice
import Derived.Test.YtdomlccfjnkbjaaGreatDoorSmE
namespace Go.Proofs.YtdomlccfjnkbjaaGreatDoor.Ev
open Go.RowKit Go.Proofs.YtdomlccfjnkbjaaGreatDoor.Sm
set_option maxHeartbeats 1000000
set_option linter.unusedVariables false
def nth (ρ : List Nat) (b:Nat):Nat:=(ρ[b]?).getD 0
theorem nth_get {ρ : List Nat} {b:Nat} (h:b < ρ.length):nth ρ b = ρ[b]:=by unfold nth; rw [List.getElem?_eq_getElem h]; rfl
inductive AV where
 | v (x:Value)
 | p (b o:Nat)
def AV.to (ρ : List Nat):AV→Value
 | .v x=>x
 | .p b o => .pointer (some ⟨nth ρ b,o,none⟩)
def AV.ok (n:Nat):AV→Prop
 | .v _=>True
 | .p b _=>b<n
structure Ent where
 d:Nat
 path:List (Nat×Bool)
 av:AV
structure St where
 tab:List Ent
 mem:List (TypeId×List Value)
 wr:List Nat:=[]
def St.find (s:St) (d:Nat):Option Ent:=s.tab.find? fun e=>e.d == d
def St.look (s:St) (A:List (Nat×Bool)):Operand→Option AV
 | .const x=>some (.v x)
 | .tmp d=>match s.find d with
  | some e=>if e.path.all (fun x=>A.contains x) then some e.av else none
  | none=>none
 | x=>some (.v ((⟨#[],[]⟩:Act).eval x))
def St.put (s:St) (d:Option Nat) (A:List (Nat×Bool)) (av:AV):St:=match d with
 | none=>s
 | some d=>{ s with tab:=⟨d,A,av⟩::s.tab.filter fun e=>e.d != d&&e.path.all fun x=>x.1 != d }
structure Obl where
 l:Nat→World→Result Next
 r:Nat→World→Result Next
def opnds:Op→Option (List Operand)
 | .binOp _ _ x y _=>some [x,y]
 | .unOp _ _ x=>some [x]
 | .convert _ _ x=>some [x]
 | .field _ x _=>some [x]
 | .extract x _=>some [x]
 | .build _ parts=>some (parts.toList.map (·.2))
 | .nilCheck x=>some [x]
 | .makeInterface _ x=>some [x]
 | .index _ x y=>some [x,y]
 | .call c=>some ((match c.callee with | .value f=>[f] | .invoke r _=>[r] | .builtin _=>[])++c.args.toList)
 | _=>none
def gpath (ops:Array Oper) (s:St) (o:Oper):Option (List (Nat×Bool)):=match o.guard with
 | none=>some []
 | some (j,want)=>match (ops[j]?).bind (·.dst) with
  | some m=>(s.find m).map fun e=>(m,want)::e.path
  | none=>none
def pickB (x y:Operand) (b p q:Bool):Bool:=match x,y with
 | .const (.bool true),_=>b||q
 | _,.const (.bool false)=>b&&p
 | _,_=>bif b then p else q
def plainV (s:St) (A:List (Nat×Bool)) (x:Operand):Option Value:=match s.look A x with
 | some (.v v)=>some v
 | _=>none
def pureS (P:Program) (w0:World) (s:St) (A:List (Nat×Bool)) (o:Oper):Option (AV×List Obl) :=
 match opnds o.op with
 | none=>none
 | some l =>
  if l.all (fun x=>(plainV s A x).isSome) then
   match (execOp (fun x=>(plainV s A x).getD undef) o).run P w0 with
   | .ok (.value v) _=>some (.v v,[⟨fun _ u=>(execOp (fun x=>(plainV s A x).getD undef) o).run P u,fun _ u => .ok (.value v) u⟩])
   | _=>none
  else none
def loadS (P:Program) (s:St) (b k:Nat) (t:TypeId):Option AV :=
 match s.mem[b]? with
 | none=>none
 | some (_,cs) =>
  match (P.underlying t).map (·.isRow) with
  | some false=>(cs[k]?).map .v
  | some true=>match (P.info? t).map (·.size) with
   | some n=>if decide (k+n≤cs.length) then some (.v (.agg ((cs.drop k).take n).toArray)) else none
   | none=>none
  | none=>none
def valS (P:Program) (w0:World) (s:St) (A:List (Nat×Bool)) (o:Oper):Option (AV×List Obl) :=
 match o.op with
 | .move x=>(s.look A x).map fun av=>(av,[])
 | .assign x=>(s.look A x).map fun av=>(av,[])
 | .pick (.tmp c) x y=>match s.look A (.tmp c),s.look ((c,true)::A) x,s.look ((c,false)::A) y with
  | some (.v (.bool b)),some (.v (.bool p)),some (.v (.bool q))=>some (.v (.bool (pickB x y b p q)),[])
  | _,_,_=>none
 | .fieldAddr _ x _=>match s.look A x with
  | some (.p b k)=>match (execOp (fun _ => .pointer (some ⟨0,k,none⟩)) o).run P w0 with
   | .ok (.value (.pointer (some a))) _=>some (.p b a.off,[⟨fun g u=>(execOp (fun _ => .pointer (some ⟨g,k,none⟩)) o).run P u,fun g u => .ok (.value (.pointer (some ⟨g,a.off,none⟩))) u⟩])
   | _=>none
  | _=>none
 | .load t x=>match s.look A x with
  | some (.p b k)=>(loadS P s b k t).map fun av=>(av,[])
  | _=>none
 | .nilCheck x=>match s.look A x with
  | some (.p b k)=>some (.p b k,[])
  | _=>pureS P w0 s A o
 | _=>pureS P w0 s A o
def nx:Result Value→Result Next
 | .ok v w => .ok (.value v) w
 | .halt h w => .halt h w
def St.setMem (s:St) (b:Nat) (x:TypeId×List Value):St:={ s with mem:=s.mem.set b x,wr:=b::s.wr }
def dstB (N:Nat) (A:List (Nat×Bool)) (dst:Option Nat):Bool:=match dst with
 | some d=>decide (d<N)&&A.all (fun x=>x.1 != d)
 | none=>true
def step (P:Program) (w0:World) (N:Nat) (ops:Array Oper) (s:St) (o:Oper):Option (St×List Obl) :=
  match gpath ops s o with
  | none=>none
  | some A =>
    if dstB N A o.dst then
      match o.op with
      | .alloc t=>if A.isEmpty then
          match (zeroValue t).run P w0 with
          | .ok z _=>some (({ s with mem:=s.mem++[(t,z.cells.toList)] }:St).put o.dst [] (.p s.mem.length 0),[⟨fun _ u=>nx ((zeroValue t).run P u),fun _ u => .ok (.value z) u⟩])
          | _=>none
        else none
      | .box t x=>if A.isEmpty then
          match plainV s [] x with
          | some v=>some (({ s with mem:=s.mem++[(t,v.cells.toList)] }:St).put o.dst [] (.p s.mem.length 0),[])
          | none=>none
        else none
      | .store t x y=>if A.isEmpty&&o.dst.isNone then
          match s.look [] x,plainV s [] y with
          | some (.p b k),some v=>match s.mem[b]? with
            | some (T,cs)=>if (P.info? t).map (·.size) == some v.cells.size&&v.cells.toList.all (·.oneCell')&&decide (k+v.cells.toList.length≤cs.length) then
                some (s.setMem b (T,cs.take k++v.cells.toList++cs.drop (k+v.cells.toList.length)),[])
              else none
            | none=>none
          | _,_=>none
        else none
      | _=>(valS P w0 s A o).map fun x=>(s.put o.dst A x.1,x.2)
    else none
def steps (P:Program) (w0:World) (N:Nat) (ops:Array Oper):List Oper→St→Option (St×List Obl)
 | [],s=>some (s,[])
 | o::r,s=>match step P w0 N ops s o with
  | none=>none
  | some (s1,x1)=>match steps P w0 N ops r s1 with
   | none=>none
   | some (s2,x2)=>some (s2,x1++x2)
def PT (a:Act) (A:List (Nat×Bool)):Prop:=∀ x ∈ A,sl a x.1 = .bool x.2
structure EntOk (ρ : List Nat) (a:Act) (e:Ent):Prop where
 yes:PT a e.path→sl a e.d=e.av.to ρ
 no:¬ PT a e.path→sl a e.d=undef
 lt:e.d<a.tmps.size
 ok:e.av.ok ρ.length
structure Inv (B:Nat) (ρ : List Nat) (s:St) (N:Nat) (a:Act) (w:World):Prop where
 size:a.tmps.size=N
 dfr:a.defers=[]
 tab:∀ e ∈ s.tab,EntOk ρ a e
 len : ρ.length=s.mem.length
 nd : ρ.Nodup
 mem:∀ b t cs,s.mem[b]? = some (t,cs)→Ob w (nth ρ b) t cs
 base:∀ g ∈ ρ,B≤g
 big:B≤w.heap.size
 wrok:∀ b ∈ s.wr,b < ρ.length
structure Ran (B:Nat) (ρ ρ':List Nat) (s s':St) (w w':World):Prop where
 below:Below B w w'
 pre:∀ b,b < ρ.length→nth ρ' b=nth ρ b
 new:∀ b,ρ.length≤b→b < ρ'.length→w.heap.size≤nth ρ' b
 le : ρ.length ≤ ρ'.length
 wrs:∀ b ∈ s.wr,b ∈ s'.wr
 keep:∀ j,j<w.heap.size→(∀ b ∈ s'.wr,nth ρ' b≠j)→w'.heap[j]? = w.heap[j]?
theorem Ran.refl (B:Nat) (ρ : List Nat) (s s':St) (h:∀ b ∈ s.wr,b ∈ s'.wr) (w:World):Ran B ρ ρ s s' w w :=
 ⟨Below.refl _ _,fun _ _=>rfl,fun _ h1 h2=>absurd h2 (Nat.not_lt.2 h1),Nat.le_refl _,h,fun _ _ _=>rfl⟩
theorem Ran.trans {B:Nat} {ρ ρ1 ρ2:List Nat} {s s1 s2:St} {w w1 w2:World} (h:Ran B ρ ρ1 s s1 w w1) (h':Ran B ρ1 ρ2 s1 s2 w1 w2) (hw:∀ b ∈ s1.wr,b < ρ1.length):Ran B ρ ρ2 s s2 w w2:=by
 refine ⟨h.below.trans h'.below,fun b hb=>(h'.pre b (Nat.lt_of_lt_of_le hb h.le)).trans (h.pre b hb),?_,Nat.le_trans h.le h'.le,fun b hb=>h'.wrs b (h.wrs b hb),?_⟩
 ·intro b h1 h2
  rcases Nat.lt_or_ge b ρ1.length with hb|hb
  ·rw [h'.pre b hb]; exact h.new b h1 hb
  ·exact Nat.le_trans h.below.size (h'.new b hb h2)
 ·intro j hj hn
  rw [h'.keep j (Nat.lt_of_lt_of_le hj h.below.size) hn]
  exact h.keep j hj fun b hb=>by rw [← h'.pre b (hw b hb)]; exact hn b (h'.wrs b hb)
section
variable {B N:Nat} {ρ : List Nat} {s:St} {a:Act} {w:World} {A:List (Nat×Bool)} {o:Oper} {ops:Array Oper} {P:Program}
theorem find_mem {d:Nat} {e:Ent} (h:s.find d=some e):e ∈ s.tab∧e.d=d:=by
 unfold St.find at h
 exact ⟨List.mem_of_find?_eq_some h,by simpa using List.find?_some h⟩
theorem undef_bool (b:Bool):(undef:Value) ≠ .bool b:=by intro h; cases h
theorem look_eval (hI:Inv B ρ s N a w) {x:Operand} {av:AV} (h:s.look A x=some av) (hp:PT a A):a.eval x=av.to ρ ∧ av.ok ρ.length:=by
 unfold St.look at h
 split at h
 ·injection h with h
  subst h
  exact ⟨rfl,trivial⟩
 ·rename_i d
  split at h
  ·rename_i e he
   split at h
   ·rename_i hall
    injection h with h
    subst h
    obtain ⟨hin,rfl⟩:=find_mem he
    have hk:=hI.tab e hin
    refine ⟨hk.yes fun x hx => ?_,hk.ok⟩
    have:=List.all_eq_true.1 hall x hx
    exact hp x (by simpa using this)
   ·cases h
  ·cases h
 ·rename_i h1 h2
  injection h with h
  subst h
  refine ⟨?_,trivial⟩
  cases x with
  | const y=>exact absurd rfl (h1 y)
  | tmp y=>exact absurd rfl (h2 y)
  | _=>rfl
theorem pt_put {d:Nat} {v:Value} {A:List (Nat×Bool)} (h:A.all (fun x=>x.1 != d)=true):PT (a.put (some d) v) A↔PT a A:=by
 have hk:∀ x ∈ A,sl (a.put (some d) v) x.1=sl a x.1:=fun x hx=>sl_put_ne (by simpa using List.all_eq_true.1 h x hx)
 exact ⟨fun hp x hx=>(hk x hx).symm.trans (hp x hx),fun hp x hx=>(hk x hx).trans (hp x hx)⟩
theorem Inv.later (hI:Inv B ρ s N a w) {W:World} (hb:Below w.heap.size w W):Inv B ρ s N a W:=by
 refine ⟨hI.size,hI.dfr,hI.tab,hI.len,hI.nd,fun b t cs hm => ?_,hI.base,Nat.le_trans hI.big hb.size,hI.wrok⟩
 have:=hI.mem b t cs hm
 exact this.below hb this.lt
theorem execOp_congr {ρ₁ ρ₂:Operand→Value} {l:List Operand} (hl:opnds o.op=some l) (h:∀ x ∈ l,ρ₁ x = ρ₂ x):execOp ρ₁ o=execOp ρ₂ o:=by
  unfold execOp
  unfold opnds at hl
  split at hl <;> rename_i hop <;> first|(cases hl; done)|(injection hl with hl; subst hl; rw [hop]; try simp only [List.mem_cons,List.not_mem_nil,or_false,forall_eq_or_imp,forall_eq] at h)
  all_goals first
    | (rw [h.1,h.2]; done)
    | (rw [h]; done)
    | (simp only [h]; done)
    | (rename_i t parts
       have e:(parts.map fun x=>(x.1,ρ₁ x.2))=parts.map fun x=>(x.1,ρ₂ x.2):=by
         refine Array.map_congr_left fun x hx => ?_
         rw [h x.2 (List.mem_map.2 ⟨x,by simpa using hx,rfl⟩)]
       exact congrArg (fun z=>(do pure (.value (← Instr.build t z)):Sem Next)) e)
    | (rename_i c
       have e:c.args.map ρ₁=c.args.map ρ₂:=Array.map_congr_left fun x hx=>h x (List.mem_append_right _ (by simpa using hx))
       have e2:resolve ρ₁ c o.type=resolve ρ₂ c o.type:=by
         unfold resolve
         rw [e]
         cases hc:c.callee with
         | value f=>rw [hc] at h; simp only [h f (List.mem_append_left _ (List.mem_singleton.2 rfl))]
         | invoke r n=>rw [hc] at h; simp only [h r (List.mem_append_left _ (List.mem_singleton.2 rfl))]
         | builtin b=>rfl
       simp only [e2])
section
variable {rest:List Oper} {Q:Exit→Act→World→Prop} {w0:World}
theorem isRow_false {t:TypeId} (h:(P.underlying t).map (·.isRow)=some false) {d:Addr} {v:Value} {u:World} (hc:u.cell? d=some v):(Instr.loadAt t (.pointer (some d))).run P u = .ok v u:=by
 obtain ⟨y,hu,hd⟩:=Option.map_eq_some_iff.1 h
 have hagg:(isAgg t).run P u = .ok false u:=by
  unfold isAgg
  rw [Sem.run_bind,run_underlying hu u]
  cases y <;> simp_all
 simp [Instr.loadAt,Instr.sureAddr,loadVar,hagg,hc]
end
end
end Go.Proofs.YtdomlccfjnkbjaaGreatDoor.Ev
namespace Go.Proofs.YtdomlccfjnkbjaaGreatDoor.Ev
open Go.RowKit Go.Proofs.YtdomlccfjnkbjaaGreatDoor.Sm
set_option maxHeartbeats 1000000
set_option linter.unusedVariables false
noncomputable def res (P:Program) (N:Nat) (ops:Array Oper) (l:List Oper) (s:St):St:=((steps P default N ops l s).getD (s,[])).1
def seenL (x:List Obl):Nat→World→List (Result Next):=fun g u=>x.map fun q=>q.l g u
def seenR (x:List Obl):Nat→World→List (Result Next):=fun g u=>x.map fun q=>q.r g u
theorem seen_all {x:List Obl} (h:seenL x=seenR x):∀ q ∈ x,∀ g u,q.l g u=q.r g u:=by
 intro q hq g u
 have h1:=congrFun (congrFun h g) u
 exact (List.map_inj_left.1 h1) q hq
section
variable {B N:Nat} {ρ : List Nat} {s:St} {a:Act} {w:World} {A:List (Nat×Bool)} {o:Oper} {ops:Array Oper} {P:Program} {Q:Exit→Act→World→Prop} {rest:List Oper}
theorem Inv.val (hI:Inv B ρ s N a w) {x:Operand} {v:Value} (h:s.look [] x=some (.v v)):a.eval x=v:=(look_eval hI h fun _ hx=>(nomatch hx)).1
theorem Inv.ptr (hI:Inv B ρ s N a w) {x:Operand} {b k:Nat} (h:s.look [] x=some (.p b k)):a.eval x = .pointer (some ⟨nth ρ b,k,none⟩):=(look_eval hI h fun _ hx=>(nomatch hx)).1
def St.sel (s:St) (ds:List Nat):St:={ tab:=ds.filterMap s.find,mem:=s.mem }
theorem Inv.to (hI:Inv B ρ s N a w) (ds:List Nat) {s2:St} (h:s.sel ds=s2):Inv B ρ s2 N a w:=by
 subst h
 refine ⟨hI.size,hI.dfr,fun e he => ?_,hI.len,hI.nd,hI.mem,hI.base,hI.big,fun b hb=>(nomatch hb)⟩
 obtain ⟨d,_,hd⟩:=List.mem_filterMap.1 he
 exact hI.tab e (find_mem hd).1
def St.drop (s:St) (d:Option Nat):St:=match d with
 | none=>s
 | some d=>{ s with tab:=s.tab.filter fun e=>e.d != d&&e.path.all fun x=>x.1 != d }
def ents:Nat→List Value→List Ent
 | _,[]=>[]
 | i,v::r=>⟨i,[],.v v⟩::ents (i+1) r
theorem ents_mem:∀ (l:List Value) (i:Nat) (e:Ent),e ∈ ents i l→∃ j v,l[j]? = some v∧e=⟨i+j,[],.v v⟩
 | [],_,_,h=>(nomatch h)
 | v::r,i,e,h=>by
  rcases List.mem_cons.1 h with rfl|h
  ·exact ⟨0,v,rfl,rfl⟩
  ·obtain ⟨j,v',h1,h2⟩:=ents_mem r (i+1) e h
   exact ⟨j+1,v',h1,by rw [h2]; simp; omega⟩
theorem enter {f:FuncId} {fn:Func} {c:Code} {args:Array Value} {R:Ending→World→Prop} (hf:P.funcs[f]? = some fn) (hb:fn.body=some c) (hn:fn.ntmps=N) (hle:args.size≤N)
  (k:∀ a,Inv w.heap.size [] { tab:=ents 0 args.toList,mem:=[] } N a w→c.wp P (bodyPost P fn R) a w):Calls P f args w R:=by
 refine calls_of_wp hf hb (k _ ?_)
 have hsz:(args++Array.replicate (fn.ntmps-args.size) undef).size=N:=by simp; omega
 refine ⟨hsz,rfl,?_,rfl,List.nodup_nil,(fun b t cs h=>by simp at h),(fun g h=>(nomatch h)),Nat.le_refl _,(fun b h=>(nomatch h))⟩
 intro e he
 obtain ⟨j,v,h1,rfl⟩:=ents_mem _ _ _ he
 have hj:j<args.size:=by
  have:=(List.getElem?_eq_some_iff.1 h1).1
  simpa using this
 refine ⟨fun _ => ?_,fun h=>absurd (fun _ hx=>(nomatch hx)) h,?_,trivial⟩
 ·show sl _ (0+j)=v
  have h2:args[j]? = some v:=by simpa using h1
  have h3:(args++Array.replicate (fn.ntmps-args.size) undef)[j]? = some v:=by rw [Array.getElem?_append_left hj]; exact h2
  unfold sl
  rw [Nat.zero_add]
  simp [h3]
 ·show 0+j<(args++Array.replicate (fn.ntmps-args.size) undef).size
  rw [hsz]
  omega
theorem Inv.remem {g:Nat} {W:World} {t:TypeId} {cs:List Value} (hI:Inv 0 [g] s N a w) (hl:s.mem.length=1) (ho:Ob W g t cs):Inv 0 [g] { s with mem:=[(t,cs)],wr:=[] } N a W:=by
 refine ⟨hI.size,hI.dfr,hI.tab,rfl,hI.nd,?_,hI.base,Nat.zero_le _,(fun b h=>(nomatch h))⟩
 intro b t' cs' hm
 cases b with
 | zero =>
  simp only [List.getElem?_cons_zero,Option.some.injEq,Prod.mk.injEq] at hm
  obtain ⟨rfl,rfl⟩:=hm
  exact ho
 | succ b=>simp at hm
noncomputable def resRun (tmps:Array Value):ResultVar→Sem Value
 | .tmp t=>pure (tmps.getD t undef)
 | .cell q ty=>do loadVar ty (← asAddr (tmps.getD q undef))
theorem wrap_i64 {x:Int} (h1 : -9223372036854775808≤x) (h2:x≤9223372036854775807):IntKind.i64.wrap x=x:=by rw [IntKind.wrap_i64]; omega
theorem Inv.lt (hI:Inv B ρ s N a w) {g:Nat} (h:g ∈ ρ):g<w.heap.size:=by
 obtain ⟨b,hb,rfl⟩:=List.getElem_of_mem h
 have:=(hI.mem b _ _ (List.getElem?_eq_getElem (by rw [← hI.len]; exact hb))).lt
 rwa [nth_get hb] at this
end
end Go.Proofs.YtdomlccfjnkbjaaGreatDoor.Ev
namespace Go.Proofs.YtdomlccfjnkbjaaGreatDoor.Ev
open Go.RowKit Go.Proofs.YtdomlccfjnkbjaaGreatDoor.Sm
set_option maxHeartbeats 1000000
set_option linter.unusedVariables false
def Mem (B:Nat) (ρ : List Nat) (s:St) (X:World→Prop) (u:World):Prop:=(∀ b t cs,s.mem[b]? = some (t,cs)→Ob u (nth ρ b) t cs)∧B≤u.heap.size∧X u
def takesB (ops:Array Oper):List Nat→Array Bool→Bool
 | [],_=>true
 | i::r,listed=>Region.free .any ops listed i&&(Region.ready .any ops listed).contains i&&takesB ops r (listed.setIfInBounds i true)
def after:List Nat→Array Bool→Array Bool
 | [],listed=>listed
 | i::r,listed=>after r (listed.setIfInBounds i true)
section
variable {B N:Nat} {ρ : List Nat} {s:St} {a:Act} {w:World} {A:List (Nat×Bool)} {o:Oper} {ops:Array Oper} {P:Program} {Q:Exit→Act→World→Prop} {X:World→Prop}
theorem Inv.at_ (hI:Inv B ρ s N a w) {s0:St} (hm:s.mem=s0.mem) {u:World} (hu:Mem B ρ s0 X u):Inv B ρ s N a u :=
 ⟨hI.size,hI.dfr,hI.tab,hI.len,hI.nd,by rw [hm]; exact hu.1,hI.base,hu.2.1,hI.wrok⟩
end
end Go.Proofs.YtdomlccfjnkbjaaGreatDoor.Ev
