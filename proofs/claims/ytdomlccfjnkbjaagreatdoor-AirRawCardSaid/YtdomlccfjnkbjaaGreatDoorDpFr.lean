/- Deep reckoning, more rules: calls that are lent some of the caller's objects alone (PI.frame); pointers and errors compared with nil. No function of the program in it. -/
import Derived.Test.YtdomlccfjnkbjaaGreatDoorDpC
namespace Go.Proofs.YtdomlccfjnkbjaaGreatDoor.Dp
open Go.RowKit Go.Proofs.YtdomlccfjnkbjaaGreatDoor.Sm
open Go.Proofs.YtdomlccfjnkbjaaGreatDoor.Ev (Obl opnds dstB PT nx pt_put undef_bool pickB isRow_false seenL seenR seen_all resRun)
set_option maxHeartbeats 1000000
set_option linter.unusedVariables false
set_option linter.unusedSimpArgs false
section
variable {w w':World} {ok ok':Nat→Prop} {ρ ρ':Own} {d:D} {v:Value}
theorem Rep1.to (h:Rep1 w ok ρ d v) (hk:∀ b,ok b→ok' b∧w'.heap[b]? = w.heap[b]?) (hρ : ∀ (b:Nat) (x:Option (Nat×Nat)),D.under1 b d=false → ρ[b]? = some x → ρ'[b]? = some x):Rep1 w' ok' ρ' d v:=by
 have ir:∀ b:Nat,decide (b<b)=false:=fun b=>decide_eq_false (Nat.lt_irrefl b)
 cases h with
 | c h=>exact .c (h.mono hk)
 | p h=>exact .p (hρ _ _ (ir _) h)
 | h h hn=>exact .h (hρ _ _ (ir _) h) hn
 | h0 h=>exact .h0 (hρ _ _ (ir _) h)
 | m h h1 h2 h3=>exact .m (hρ _ _ (ir _) h) h1 h2 h3
 | m0 h=>exact .m0 (hρ _ _ (ir _) h)
theorem under1_lt {n b:Nat} (h:D.under1 n d=true) (hb:D.under1 b d=false):b<n:=by
 cases d <;> simp only [D.under1,decide_eq_true_eq,decide_eq_false_iff_not] at h hb <;> first|omega|cases hb
theorem RepO.to (h:RepO w ok ρ d v) (hk:∀ b,ok b→ok' b∧w'.heap[b]? = w.heap[b]?) {n:Nat} (hd:D.under n d=true) (hρ : ∀ (b:Nat) (x:Option (Nat×Nat)),b<n → ρ[b]? = some x → ρ'[b]? = some x):RepO w' ok' ρ' d v:=by
 cases h with
 | one h =>
  refine .one ?_
  cases h with
  | c h=>exact .c (h.mono hk)
  | p h=>exact (Rep1.p h).to hk fun b x h1 h2=>hρ b x (under1_lt (show D.under1 n (.p _ _ _ _)=true from hd) h1) h2
  | h h hn=>exact (Rep1.h h hn).to hk fun b x h1 h2=>hρ b x (under1_lt (show D.under1 n (.h _ _)=true from hd) h1) h2
  | h0 h=>exact (Rep1.h0 h).to hk fun b x h1 h2=>hρ b x (under1_lt (show D.under1 n (.h _ _)=true from hd) h1) h2
  | m h h1 h2 h3=>exact (Rep1.m h h1 h2 h3).to hk fun b x h1 h2=>hρ b x (under1_lt (show D.under1 n (.m _ _ _ _)=true from hd) h1) h2
  | m0 h=>exact (Rep1.m0 h).to hk fun b x h1 h2=>hρ b x (under1_lt (show D.under1 n (.m _ _ _ _)=true from hd) h1) h2
 | r hl h=>exact .r hl fun j d v a b=>(h j d v a b).to hk fun b x h1 h2=>hρ b x (under1_lt (List.all_eq_true.1 hd d (List.mem_of_getElem? a)) h1) h2
 | k hl h=>exact .k hl fun j d v a b=>(h j d v a b).to hk fun b x h1 h2=>hρ b x (under1_lt (List.all_eq_true.1 hd d (List.mem_of_getElem? a)) h1) h2
theorem RepO.ext (h:RepO w ok ρ d v) (hk:∀ b,ok b→ok' b∧w'.heap[b]? = w.heap[b]?) (hρ : ∀ (b:Nat) (x:Option (Nat×Nat)),ρ[b]? = some x → ρ'[b]? = some x):RepO w' ok' ρ' d v:=by
 cases h with
 | one h=>exact .one (h.to hk fun b x _ h2=>hρ b x h2)
 | r hl h=>exact .r hl fun j d v a b=>(h j d v a b).to hk fun b x _ h2=>hρ b x h2
 | k hl h=>exact .k hl fun j d v a b=>(h j d v a b).to hk fun b x _ h2=>hρ b x h2
theorem ObjOk.to {κ κ':Nat→Prop} {b b':Nat} {o:Obj} (h:ObjOk κ w ρ b o) (hk:∀ g,okW κ w ρ g→okW κ' w' ρ' g∧w'.heap[g]? = w.heap[g]?) (hb:∀ x,ρ[b]? = some x → ρ'[b']? = some x∧∀ g c,x=some (g,c)→w'.heap[g]? = w.heap[g]?) (hρ : ∀ t cs,o = .var t cs→∀ d ∈ cs,∀ (b:Nat) (x:Option (Nat×Nat)),D.under1 b d=false → ρ[b]? = some x → ρ'[b]? = some x):ObjOk κ' w' ρ' b' o:=by
 cases o with
 | dead=>exact (hb _ h).1
 | var t cs =>
  obtain ⟨g,vs,h1,h2,h3,h4⟩:=h
  have h5:=hb _ h1
  exact ⟨g,vs,h5.1,(h5.2 g _ rfl).trans h2,h3,fun j d v a c=>(h4 j d v a c).to hk (hρ t cs rfl d (List.mem_of_getElem? a))⟩
 | row t z n f =>
  rcases h with ⟨h1,h2⟩|⟨g,c,cur,h1,h2,h3,h4,h5,h6⟩
  ·exact .inl ⟨(hb _ h1).1,h2⟩
  ·have h7:=hb _ h1
   refine .inr ⟨g,c,cur,h7.1,(h7.2 g _ rfl).trans h2,h3,h4,h5,fun i hi=>⟨(h6 i hi).1,(h6 i hi).2.1,fun j d hj => ?_⟩⟩
   obtain ⟨v,k1,k2⟩:=(h6 i hi).2.2 j d hj
   exact ⟨v,k1,k2.mono hk⟩
end
theorem PI.frame {P:Program} {G:List (Nat×List D)} {f:FuncId} {ds:List D} {M:List Obj} {R:D→List Obj→Prop} (X:List Obj) (h:PI P G f ds M R) (hR:∀ d m,R d m→m.length=M.length) (hu:(ds.all (D.under M.length)&&M.all (Obj.under M.length))=true:=by kernel_rfl):PI P G f ds (M++X) (fun d m=>∃ m1,m=m1++X∧R d m1):=by
 intro κ w ρ vs hM hκ hG hl hd
 rw [Bool.and_eq_true,List.all_eq_true,List.all_eq_true] at hu
 have hlen : ρ.length=M.length+X.length:=by rw [hM.len,List.length_append]
 have t1:∀ (b:Nat) (x:Option (Nat×Nat)),(ρ.take M.length)[b]? = some x↔b<M.length ∧ ρ[b]? = some x:=fun b x=>by
  rw [List.getElem?_take]
  split
  ·rename_i hb; exact ⟨fun h=>⟨hb,h⟩,fun h=>h.2⟩
  ·rename_i hb; exact ⟨fun h=>(nomatch h),fun h=>absurd h.1 hb⟩
 have hin:∀ g,okW κ w ρ g→okW (fun g => κ g∧∀ b c:Nat,M.length≤b → ρ[b]? ≠ some (some (g,c))) w (ρ.take M.length) g∧w.heap[g]? = w.heap[g]? := fun g hg=>⟨⟨⟨⟨hg.1.1,fun b c _ e=>hg.2 b (g,c) e rfl⟩,hg.1.2⟩,fun b x hx=>hg.2 b x ((t1 b _).1 hx).2⟩,rfl⟩
 have hM1:Mem (fun g => κ g∧∀ b c:Nat,M.length≤b → ρ[b]? ≠ some (some (g,c))) (ρ.take M.length) M w:=by
  refine ⟨by rw [List.length_take,hlen]; omega,fun b x hx => ?_,fun b b' x x' h1 h2 e=>hM.nd b b' x x' ((t1 _ _).1 h1).2 ((t1 _ _).1 h2).2 e,fun b o ho => ?_⟩
  ·obtain ⟨hb,hx⟩:=(t1 _ _).1 hx
   refine ⟨⟨(hM.own b x hx).1,fun b' c hb' e => ?_⟩,(hM.own b x hx).2⟩
   have:=hM.nd b b' x (x.1,c) hx e rfl
   omega
  ·have hb:b<M.length:=(List.getElem?_eq_some_iff.1 ho).1
   refine (hM.mem b o (by rw [List.getElem?_append_left hb]; exact ho)).to hin (fun x hx=>⟨(t1 _ _).2 ⟨hb,hx⟩,fun _ _ _=>rfl⟩) fun t cs e d hd b x h1 h2=>(t1 _ _).2 ⟨under1_lt ?_ h1,h2⟩
   subst e
   exact List.all_eq_true.1 (hu.2 _ (List.mem_of_getElem? ho)) d hd
 refine (h _ w _ vs hM1 (fun g hg=>⟨hκ g hg,fun b c _ e=>absurd (hM.own b _ e).2 (Nat.not_lt.2 hg)⟩) (fun x hx=>(hG x hx).mono hin) hl fun j d v a b=>(hd j d v a b).to hin (hu.1 d (List.mem_of_getElem? a)) fun b x hb hx=>(t1 _ _).2 ⟨hb,hx⟩).mono ?_
 rintro e w' ⟨v,d,m1,ρ1,rfl,hr,hrep,hM',hown,hnew,k1,k2,k3,k4,k5⟩
 have hl1 : ρ1.length=M.length:=by rw [hM'.len,hR d m1 hr]
 have a1:∀ (b:Nat),b<M.length→(ρ1 ++ ρ.drop M.length)[b]? = ρ1[b]? := fun b hb=>List.getElem?_append_left oM
 have a2:∀ (b:Nat),M.length≤b→(ρ1 ++ ρ.drop M.length)[b]? = ρ[b]? := fun b hb=>by
  rw [List.getElem?_append_right oM,List.getElem?_drop,hl1]
  congr 1
  omega
 have lt1:∀ {b:Nat} {x:Option (Nat×Nat)},ρ1[b]? = some x→b<M.length:=fun hx=>hl1▸(List.getElem?_eq_some_iff.1 hx).1
 have hext:∀ (b:Nat) (x:Option (Nat×Nat)),ρ[b]? = some x→(ρ1 ++ ρ.drop M.length)[b]? = some x:=fun b x hx=>by
  by_cases hb:b<M.length
  ·rw [a1 b hb]; exact hown b x ((t1 _ _).2 ⟨hb,hx⟩)
  ·rw [a2 b (Nat.not_lt.1 hb)]; exact hx
 have hup:∀ g,okW (fun g => κ g∧∀ b c:Nat,M.length≤b → ρ[b]? ≠ some (some (g,c))) w' ρ1 g→okW κ w' (ρ1 ++ ρ.drop M.length) g∧w'.heap[g]? = w'.heap[g]? := fun g hg=>⟨⟨⟨hg.1.1.1,hg.1.2⟩,fun b x hx e=>by
  by_cases hb:b<M.length
  ·rw [a1 b hb] at hx; exact hg.2 b x hx e
  ·rw [a2 b (Nat.not_lt.1 hb)] at hx
   exact hg.1.1.2 b x.2 (Nat.not_lt.1 hb) (by rw [hx,← e])⟩,rfl⟩
 have hkeep:∀ g,g<w.heap.size→(∀ b c:Nat,b<M.length → ρ[b]? ≠ some (some (g,c)))→w'.heap[g]? = w.heap[g]? := fun g hg hn=>k5 g hg fun b c e=>hn b c ((t1 _ _).1 e).1 ((t1 _ _).1 e).2
 have hold:∀ g,okW κ w ρ g→okW κ w' (ρ1 ++ ρ.drop M.length) g∧w'.heap[g]? = w.heap[g]? := fun g hg=>by
  refine ⟨⟨⟨hg.1.1,Nat.lt_of_lt_of_le hg.1.2 k4⟩,fun b x hx e => ?_⟩,hkeep g hg.1.2 fun b c _ e=>hg.2 b (g,c) e rfl⟩
  by_cases hb:b<M.length
  ·rw [a1 b hb] at hx
   rcases hnew b x hx with h1|⟨i,y,h1,h2⟩
   ·have:=hg.1.2; omega
   ·exact hg.2 i y ((t1 _ _).1 h1).2 (h2.trans e)
  ·rw [a2 b (Nat.not_lt.1 hb)] at hx
   exact hg.2 b x hx e
 refine ⟨v,d,m1++X,ρ1 ++ ρ.drop M.length,rfl,⟨m1,rfl,hr⟩,hrep.ext hup fun b x hx=>by rw [a1 b (lt1 hx)]; exact hx,⟨?_,fun b x hx => ?_,fun b b' x x' h1 h2 e => ?_,fun b o ho => ?_⟩,hext,fun b x hx => ?_,k1,k2,k3,k4,fun k hk hn=>k5 k hk fun b c e=>hn b c ((t1 _ _).1 e).2⟩
 ·rw [List.length_append,List.length_append,hl1,List.length_drop,hlen,hR d m1 hr]
  omega
 ·by_cases hb:b<M.length
  ·rw [a1 b hb] at hx; exact ⟨(hM'.own b x hx).1.1,(hM'.own b x hx).2⟩
  ·rw [a2 b (Nat.not_lt.1 hb)] at hx; exact ⟨(hM.own b x hx).1,Nat.lt_of_lt_of_le (hM.own b x hx).2 k4⟩
 ·by_cases hb:b<M.length <;> by_cases hb':b'<M.length
  ·rw [a1 b hb] at h1; rw [a1 b' hb'] at h2; exact hM'.nd b b' x x' h1 h2 e
  ·rw [a1 b hb] at h1; rw [a2 b' (Nat.not_lt.1 hb')] at h2
   exact absurd (show ρ[b']? = some (some (x.1,x'.2)) by rw [h2,e]) ((hM'.own b x h1).1.2 b' x'.2 (Nat.not_lt.1 hb'))
  ·rw [a2 b (Nat.not_lt.1 hb)] at h1; rw [a1 b' hb'] at h2
   exact absurd (show ρ[b]? = some (some (x'.1,x.2)) by rw [h1,← e]) ((hM'.own b' x' h2).1.2 b x.2 (Nat.not_lt.1 hb))
  ·rw [a2 b (Nat.not_lt.1 hb)] at h1; rw [a2 b' (Nat.not_lt.1 hb')] at h2; exact hM.nd b b' x x' h1 h2 e
 ·by_cases hb:b<M.length
  ·rw [List.getElem?_append_left (by rw [hR d m1 hr]; exact hb)] at ho
   exact (hM'.mem b o ho).to hup (fun x hx=>⟨by rw [a1 b hb]; exact hx,fun _ _ _=>rfl⟩) fun t cs _ d _ b x _ hx=>by rw [a1 b (lt1 hx)]; exact hx
  ·have hb:=Nat.not_lt.1 hb
   rw [List.getElem?_append_right (by rw [hR d m1 hr]; exact hb),hR d m1 hr] at ho
   refine (hM.mem b o (by rw [List.getElem?_append_right hb]; exact ho)).to hold (fun x hx=>⟨hext b x hx,fun g c e => ?_⟩) fun t cs _ d _ b x _ hx=>hext b x hx
   subst e
   refine hkeep g (hM.own b _ hx).2 fun b' c' hb' e => ?_
   have:=hM.nd b b' _ _ hx e rfl
   omega
 ·by_cases hb:b<M.length
  ·rw [a1 b hb] at hx
   rcases hnew b x hx with h1|⟨i,y,h1,h2⟩
   ·exact .inl h1
   ·exact .inr ⟨i,y,((t1 _ _).1 h1).2,h2⟩
  ·rw [a2 b (Nat.not_lt.1 hb)] at hx
   exact .inr ⟨b,x,hx,rfl⟩
theorem PI.mono {P:Program} {G:List (Nat×List D)} {f:FuncId} {ds:List D} {M:List Obj} {R R':D→List Obj→Prop} (h:PI P G f ds M R) (hR:∀ d m,R d m→R' d m):PI P G f ds M R':=fun κ w ρ vs h1 h2 h3 h4 h5=>(h κ w ρ vs h1 h2 h3 h4 h5).mono (by
 rintro r w' ⟨v,d,m,ρ',rfl,k1,k2⟩
 exact ⟨v,d,m,ρ',rfl,hR d m k1,k2⟩)
theorem thenD_ret {A:St→Prop} {Q:Exit→St→Prop} {s:St} (h:Q .ret s):thenD A Q .ret s:=by
 unfold thenD
 exact h
theorem inBlockD_ret {id:Nat} {Q:Exit→St→Prop} {s:St} (h:Q .ret s):inBlockD id Q .ret s:=by
 unfold inBlockD
 exact h
theorem PI.drop {P:Program} {G:List (Nat×List D)} {f:FuncId} {ds:List D} {M:List Obj} {R R':D→List Obj→Prop} (k:Nat) (h:PI P G f ds M R) (hk:M.length≤k) (hR:∀ d m,R d m→R' d (m.take k)∧D.under k d=true∧(m.take k).all (Obj.under k)=true):PI P G f ds M R':=fun κ w ρ vs h1 h2 h3 h4 h5=>(h κ w ρ vs h1 h2 h3 h4 h5).mono (by
 rintro r w' ⟨v,d,m,ρ',rfl,k1,k2,k3,k4,k5,k6⟩
 obtain ⟨q1,q2,q3⟩:=hR d m k1
 have t1:∀ (b:Nat) (x:Option (Nat×Nat)),(ρ'.take k)[b]? = some x↔b<k ∧ ρ'[b]? = some x:=fun b x=>by
  rw [List.getElem?_take]
  split
  ·rename_i hb; exact ⟨fun h=>⟨hb,h⟩,fun h=>h.2⟩
  ·rename_i hb; exact ⟨fun h=>(nomatch h),fun h=>absurd h.1 hb⟩
 have hin:∀ g,okW κ w' ρ' g→okW κ w' (ρ'.take k) g∧w'.heap[g]? = w'.heap[g]? := fun g hg=>⟨⟨hg.1,fun b x hx=>hg.2 b x ((t1 b _).1 hx).2⟩,rfl⟩
 refine ⟨v,d,m.take k,ρ'.take k,rfl,q1,k2.to hin q2 fun b x hb hx=>(t1 _ _).2 ⟨hb,hx⟩,⟨by rw [List.length_take,List.length_take,k3.len],fun b x hx=>k3.own b x ((t1 _ _).1 hx).2,fun b b' x x' a1 a2 e=>k3.nd b b' x x' ((t1 _ _).1 a1).2 ((t1 _ _).1 a2).2 e,fun b o ho => ?_⟩,fun i x hx=>(t1 _ _).2 ⟨?_,k4 i x hx⟩,fun b x hx=>k5 b x ((t1 _ _).1 hx).2,k6⟩
 ·have hb:b<k:=by
   have:=(List.getElem?_eq_some_iff.1 ho).1
   rw [List.length_take] at this
   omega
  have ho':m[b]? = some o:=by rw [List.getElem?_take,if_pos hb] at ho; exact ho
  refine (k3.mem b o ho').to hin (fun x hx=>⟨(t1 _ _).2 ⟨hb,hx⟩,fun _ _ _=>rfl⟩) fun t cs e d hd b x a1 a2=>(t1 _ _).2 ⟨under1_lt ?_ a1,a2⟩
  subst e
  exact List.all_eq_true.1 (List.all_eq_true.1 q3 _ (List.mem_of_getElem? ho)) d hd
 ·have:=(List.getElem?_eq_some_iff.1 hx).1
  rw [h1.len] at this
  omega)
section
variable {κ : Nat→Prop} {B:Base} {N:Nat} {ρ : Own} {s s':St} {a:Act} {w:World} {ops:Array Oper} {rest:List Oper} {o:Oper} {Q:Exit→St→Prop} {A:List (Nat×Bool)} {P:Program}
theorem eqPtr {t e:TypeId} (hu:P.underlying t=some (.pointer e)) (p:Addr) (u:World):(Op.equal t (.pointer (some p)) (.pointer none)).run P u = .ok false u:=by
 show (Op.equalIn 10000 t (.pointer (some p)) (.pointer none)).run P u=_
 unfold Op.equalIn
 rw [Sem.run_bind,run_underlying hu u,Result.andThen_ok]
 rfl
theorem eqNil {t:TypeId} {ms:Array (String×TypeId)} (hu:P.underlying t=some (.interface ms)) (u:World):(Op.equal t .nilIface .nilIface).run P u = .ok true u:=by
 show (Op.equalIn 10000 t .nilIface .nilIface).run P u=_
 unfold Op.equalIn
 rw [Sem.run_bind,run_underlying hu u,Result.andThen_ok]
 rfl
theorem cmp_run {t:TypeId} {x y:Value} {z:Bool} {u:World} (h:∀ b,(b=BinOp.eql→(binOp b t x y).run P u = .ok (.bool z) u)∧(b=BinOp.neq→(binOp b t x y).run P u = .ok (.bool !z) u)) (bop:BinOp) (r:Bool) (hb:(bop = .eql∧r=z)∨(bop = .neq∧r = !z)):(binOp bop t x y).run P u = .ok (.bool r) u:=by
 rcases hb with ⟨rfl,rfl⟩|⟨rfl,rfl⟩
 ·exact (h _).1 rfl
 ·exact (h _).2 rfl
def D.ptrB:D→Bool
 | .p _ _ _ _=>true
 | .q _ _=>true
 | _=>false
theorem pn_run (hI:Inv κ B ρ s N a w) {d:D} (hp:d.ptrB=true) {bop:BinOp} {r:Bool} {x y:Operand} {t e ty:TypeId} (hb:(bop = .eql∧r=false)∨(bop = .neq∧r=true)) (hop:o.op = .binOp bop t x y ty) (hu:P.underlying t=some (.pointer e)) (hx:s.look A x=some d) (hy:s.look A y=some (.v (.pointer none))) (hpt:PT a A):∃ v,(execOp a.eval o).run P w = .ok (.value v) w∧RepO w (okW κ w ρ) ρ (.v (.bool r)) v:=by
 have ex:∃ p,a.eval x = .pointer (some p):=by
  have h:=look_rep hI hx hpt
  generalize a.eval x=v at h
  cases d with
  | p b z i o=>cases h with
   | one h=>cases h with
    | c h=>cases h
    | p h=>exact ⟨_,rfl⟩
  | q cs o=>cases h with
   | one h=>cases h with
    | c h=>cases h; exact ⟨_,rfl⟩
  | _=>cases hp
 obtain ⟨p,ex⟩:=ex
 have ey:=repO_v (look_rep hI hy hpt)
 refine ⟨.bool r,?_,.one (.c (.v _))⟩
 have he:=eqPtr hu p w
 have h:=cmp_run (P:=P) (t:=t) (u:=w) (x := .pointer (some p)) (y := .pointer none) (z:=false) (fun b=>⟨fun e=>by subst e; simp [binOp,he],fun e=>by subst e; simp [binOp,he]⟩) bop r (by simpa using hb)
 have hg:(eqGuard bop t x y (.pointer (some p)) (.pointer none)).run P w = .ok () w:=by simp [eqGuard]
 unfold execOp
 simp only [hop,Sem.run_bind,ex,ey,hg,h,Result.andThen_ok,Sem.run_pure]
theorem PL.pn (d:D) (r:Bool) {bop:BinOp} {x y:Operand} {t e ty:TypeId} (hb:(bop = .eql∧r=false)∨(bop = .neq∧r=true)) (hop:o.op = .binOp bop t x y ty) (hu:P.underlying t=some (.pointer e)) (hk:(d.ptrB,gpath ops s o,dstB N A o.dst,s.look A x,s.look A y)=(true,some A,true,some d,some (.v (.pointer none))):=by kernel_rfl) (h:PL P N ops rest Q (s.put o.dst A (.v (.bool r)))):PL P N ops (o::rest) Q s:=fun κ B ρ a w0 w hI hb0=>by
 simp only [Prod.mk.injEq] at hk
 exact val_step hI hk.2.1 hk.2.2.1 _ (fun hpt=>pn_run hI hk.1 hb hop hu hk.2.2.2.1 hk.2.2.2.2 hpt) (fun a' hI'=>h κ B ρ a' w0 w hI' hb0)
theorem en_run (hI:Inv κ B ρ s N a w) {z:Bool} {te:TypeId} {de:D} {bop:BinOp} {r:Bool} {x:Operand} {t ty:TypeId} {ms:Array (String×TypeId)} (hb:(bop = .eql∧r = !z)∨(bop = .neq∧r=z)) (hop:o.op = .binOp bop t x (.const .nilIface) ty) (hu:P.underlying t=some (.interface ms)) (hx:s.look A x=some (.e z te de)) (hpt:PT a A):∃ v,(execOp a.eval o).run P w = .ok (.value v) w∧RepO w (okW κ w ρ) ρ (.v (.bool r)) v:=by
 have hrx:=look_rep hI hx hpt
 have ex:(binOp bop t (a.eval x) .nilIface).run P w = .ok (.bool r) w∧(eqGuard bop t x (.const .nilIface) (a.eval x) .nilIface).run P w = .ok () w:=by
  generalize a.eval x=v at hrx
  have hrx:RepC w (okW κ w ρ) (.e z te de) v:=by
   cases hrx with
   | one h=>cases h with
    | c h=>exact h
  cases hrx with
  | e0 =>
   have he:=eqNil hu w
   exact ⟨cmp_run (P:=P) (t:=t) (u:=w) (z:=true) (fun b=>⟨fun e=>by subst e; simp [binOp,he],fun e=>by subst e; simp [binOp,he]⟩) bop r (by simpa using hb),by simp [eqGuard]⟩
  | @e1 _ _ u h =>
   have he:(Op.equal t (.iface te u) .nilIface).run P w = .ok false w:=eqIn_nil hu _ _ w 9999
   exact ⟨cmp_run (P:=P) (t:=t) (u:=w) (z:=false) (fun b=>⟨fun e=>by subst e; simp [binOp,he],fun e=>by subst e; simp [binOp,he]⟩) bop r (by simpa using hb),by simp [eqGuard]⟩
 refine ⟨.bool r,?_,.one (.c (.v _))⟩
 unfold execOp
 simp only [hop,Sem.run_bind,show a.eval (.const .nilIface) = .nilIface from rfl,ex.2,ex.1,Result.andThen_ok,Sem.run_pure]
theorem PL.en (z:Bool) (te:TypeId) (de:D) (r:Bool) {bop:BinOp} {x:Operand} {t ty:TypeId} {ms:Array (String×TypeId)} (hb:(bop = .eql∧r = !z)∨(bop = .neq∧r=z)) (hop:o.op = .binOp bop t x (.const .nilIface) ty) (hu:P.underlying t=some (.interface ms)) (hk:(gpath ops s o,dstB N A o.dst,s.look A x)=(some A,true,some (.e z te de)):=by kernel_rfl) (h:PL P N ops rest Q (s.put o.dst A (.v (.bool r)))):PL P N ops (o::rest) Q s:=fun κ B ρ a w0 w hI hb0=>by
 simp only [Prod.mk.injEq] at hk
 exact val_step hI hk.1 hk.2.1 _ (fun hpt=>en_run hI hb hop hu hk.2.2 hpt) (fun a' hI'=>h κ B ρ a' w0 w hI' hb0)
theorem PI.coarseM {P:Program} {G:List (Nat×List D)} {f:FuncId} {ds:List D} {M:List Obj} {R R':D→List Obj→Prop} (h:PI P G f ds M R) (hR:∀ d m,R d m→∃ d' m',R' d' m'∧m'.length=m.length∧(∀ (w:World) (ok:Nat→Prop) (ρ : Own) (v:Value),RepO w ok ρ d v→RepO w ok ρ d' v)∧∀ (κ : Nat→Prop) (w:World) (ρ : Own) (b:Nat) (o':Obj),m'[b]? = some o'→(∀ o,m[b]? = some o→ObjOk κ w ρ b o)→ObjOk κ w ρ b o'):PI P G f ds M R':=fun κ w ρ vs h1 h2 h3 h4 h5=>(h κ w ρ vs h1 h2 h3 h4 h5).mono (by
 rintro r w' ⟨v,d,m,ρ',rfl,k1,k2,k3,k4⟩
 obtain ⟨d',m',q1,q2,q3,q4⟩:=hR d m k1
 exact ⟨v,d',m',ρ',rfl,q1,q3 _ _ _ _ k2,⟨k3.len.trans q2.symm,k3.own,k3.nd,fun b o ho=>q4 _ _ _ b o ho (k3.mem b)⟩,k4⟩)
theorem PO.fz {hs:List Nat} {n:Nat} {listed:Array Bool} (b:Nat) {t:TypeId} (cs:List D) (h:PO P N ops hs n listed Q (s.frz b cs)) (hk:(s.mem[b]?,cs.all D.shut,decide (s.fx≤b))=(some (.var t cs),true,true):=by kernel_rfl):PO P N ops hs n listed Q s:=fun κ B ρ a w0 w hI hb=>by
 simp only [Prod.mk.injEq,decide_eq_true_eq] at hk
 refine wpAnyH_monoS (fun u hA=>⟨hA.size,fun k hk hn=>hA.block k hk fun ⟨b2,hb2,c,hc⟩=>hn ⟨b2,hb2,c,?_⟩⟩) _ _ _ _ (h κ B _ a w0 w (hI.frz hk.1 hk.2.1 hk.2.2) hb)
 by_cases hbb:b2=b
 ·subst hbb
  have hl:b2 < ρ.length:=by
   have:=(List.getElem?_eq_some_iff.1 hc).1
   simpa using this
  rw [List.getElem?_set_self hl] at hc
  cases hc
 ·rw [List.getElem?_set_ne (Ne.symm hbb)] at hc
  exact hc
theorem RepC.same {ok:Nat→Prop} {n m z:Nat} {f f':Nat→List D} {v:Value} (h:RepC w ok (.s n z f) v) (hn:n=m) (hf:∀ i,i<n→f i=f' i):RepC w ok (.s m z f') v:=by
 subst hn
 cases h with
 | s0 z f a c ha hc=>exact .s0 z f' a c ha hc
 | s vals hb hn hc hz hv hd=>exact .s vals hb hn hc (fun i hi=>by rw [← hf i hi]; exact hz i hi) hv fun i j d hi hj=>hd i j d hi (by rw [hf i hi]; exact hj)
end
end Go.Proofs.YtdomlccfjnkbjaaGreatDoor.Dp
