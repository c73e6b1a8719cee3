/- Frames as arguments of a law. -/
import Derived.Test.YtdomlccfjnkbjaaGreatDoorFrList
import Derived.Test.YtdomlccfjnkbjaaGreatDoorSmA
import Derived.Test.YtdomlccfjnkbjaaGreatDoorFrPlain
import Derived.Test.YtdomlccfjnkbjaaGreatDoorSmOpen
import Derived.Test.YtdomlccfjnkbjaaGreatDoorSmE
import Derived.BigRegion
namespace Go.Proofs.YtdomlccfjnkbjaaGreatDoor.Fr
open Go.ChangeShapes Go.WideShapes Go.ChangeAt Go.RowKit Go.Proofs.YtdomlccfjnkbjaaGreatDoor.Sm Go.Proofs.YtdomlccfjnkbjaaGreatDoor.Wr
set_option maxHeartbeats 400000
set_option maxRecDepth 100000
def stOf (o:Option (Int×Nat)) (p:Nat):Except (Int×Nat) Nat:=match o with
 | none => .ok p
 | some z => .error z
theorem body_state (x:List UInt8) (st:Except (Int×Nat) Nat) (p N:Nat) (bad:Bool) (o:Option (Int×Nat)) (h1:(runP (numP 1 0 24) 0 x st).1=(N:Int)) (h2:(runP (numP 1 0 24) 0 x st).2=stOf o p) (hb:o=none→bad=false) :
  (runP bodyP [] x st).2=stOf (if badN x p bad N=true then first o (2,p) else o) (atN x p bad N)∧(∀ pos,(runP bodyP [] x st).2 = .ok pos→gotL x p bad N=(runP bodyP [] x st).1):=by
 cases st with
 | error z =>
  have e2:(.error z:Except (Int×Nat) Nat)=stOf o p:=h2
  cases o with
  | none=>cases e2
  | some y =>
   have e3:(.error z:Except (Int×Nat) Nat) = .error y:=e2
   injection e3 with e3
   subst e3
   refine ⟨?_,fun _ h=>by cases h⟩
   cases badN x p bad N <;> rfl
 | ok pos =>
  cases h:numP 1 0 24 x pos with
  | error z =>
   have e:bodyP x pos = .error z:=bind_error h
   rw [runP_error h] at h2
   cases o with
   | none=>cases h2
   | some y =>
    have e3:(.error z:Except (Int×Nat) Nat) = .error y:=h2
    injection e3 with e3
    subst e3
    rw [runP_error e]
    refine ⟨?_,fun _ h=>by cases h⟩
    cases badN x p bad N <;> rfl
  | ok r =>
   rw [runP_ok h] at h1 h2
   cases o with
   | some y=>cases h2
   | none =>
    have e3:(.ok r.2:Except (Int×Nat) Nat) = .ok p:=h2
    injection e3 with e3
    have e1:r.1=(N:Int):=h1
    obtain rfl:=hb rfl
    have e:bodyP x pos=takeP N x p:=by
     rw [← e3]
     have:=bind_ok h (q:=fun n=>takeP n.toNat)
     rw [e1,Int.toNat_natCast] at this
     exact this
    by_cases hs:x.length<p+N
    ·obtain ⟨g1,g2,g3⟩:=got_no (ok_less x p false (k:=(N:Int)) oM)
     have e4:bodyP x pos = .error (2,p):=by rw [e]; unfold takeP; rw [if_pos hs]
     rw [runP_error e4,g3]
     exact ⟨rfl,fun _ h=>by cases h⟩
    ·obtain ⟨g1,g2,g3⟩:=got_yes (ok_yes x p (k:=(N:Int)) oM oM)
     rw [Int.toNat_natCast] at g1 g2
     rw [got_take] at g1
     have e4:bodyP x pos = .ok ((x.drop p).take N,p+N):=by rw [e]; unfold takeP; rw [if_neg hs]
     rw [runP_ok e4,g1,g2,g3]
     exact ⟨rfl,fun _ _=>rfl⟩
theorem FR.form {w:World} {g h:Nat} {S:Sn} {x:List UInt8} {st:Except (Int×Nat) Nat} (r:FR w g h S x st):∃ p b o,FRm w g h S x p b o∧st=stOf o p∧(o=none→b=false):=by
 cases st with
 | ok pos=>exact ⟨pos,false,none,r,rfl,fun _=>rfl⟩
 | error z=>obtain ⟨p,b,r⟩:=r; exact ⟨p,b,some z,r,rfl,fun h=>by cases h⟩
def kindP:Par Int:=fun x _=>if 1≤num (x.take 1)∧num (x.take 1)≤5 then .ok ((num (x.take 1):Int),1) else .error (5,0)
end Go.Proofs.YtdomlccfjnkbjaaGreatDoor.Fr
namespace Go.Proofs.YtdomlccfjnkbjaaGreatDoor.Fr
open Go.RowKit Go.ChangeShapes Go.WideShapes Go.Proofs.YtdomlccfjnkbjaaGreatDoor.Sm Go.Proofs.YtdomlccfjnkbjaaGreatDoor.Wr
set_option maxHeartbeats 400000
def cells (f:Frame) (a b:Value):List Value :=
 [.int .i64 f.kind,.int .i64 f.part,.int .i64 f.node,.int .i64 f.wait,.int .i64 f.mask,.int .i64 f.link,.bool f.flag,.int .i64 f.cycle,.int .i64 f.offset,a,.int .i64 f.frm,.int .i64 f.to,.int .i64 f.seq,b]
def Is64 (n:Int):Prop := -9223372036854775808≤n∧n≤9223372036854775807
def Wf (f:Frame):Prop:=Is64 f.kind∧Is64 f.part∧Is64 f.node∧Is64 f.wait∧Is64 f.mask∧Is64 f.link∧Is64 f.cycle∧Is64 f.offset∧Is64 f.frm∧Is64 f.to∧Is64 f.seq
def FrV (w:World) (B:Nat) (v:Value) (f:Frame):Prop :=
 ∃ a n c a' n' c',v = .agg (cells f (.slice a n c) (.slice a' n' c')).toArray∧RowI w B a n c f.ages∧Row8 w B a' n' c' f.body∧Wf f
theorem FrV.below {w w':World} {B:Nat} {v:Value} {f:Frame} (h:FrV w B v f) (hb:Below B w w'):FrV w' B v f:=by
 obtain ⟨a,n,c,a',n',c',e,h1,h2,h3⟩:=h
 exact ⟨a,n,c,a',n',c',e,h1.below hb,h2.below hb,h3⟩
theorem FrV.more {w:World} {B B':Nat} {v:Value} {f:Frame} (h:FrV w B v f) (hB:B≤B'):FrV w B' v f:=by
 obtain ⟨a,n,c,a',n',c',e,h1,h2,h3⟩:=h
 exact ⟨a,n,c,a',n',c',e,h1.more hB,h2.more hB,h3⟩
theorem FrV.later {w w':World} {v:Value} {f:Frame} (h:FrV w w.heap.size v f) (hb:Below w.heap.size w w'):FrV w' w'.heap.size v f:=(h.below hb).more hb.size
theorem FrV.of_trod {H:Type} {enc:TypeId×Value→H} {P:Program} {W:World} {r:Reach} {b0:Nat} {t ti tl tb ta ty e e':TypeId} {fs:Array Field} {v:Value} {d:DataW H} {p:List MemPlace}
  (hs:P.underlying t=some (.struct fs)) (hty:(fs.toList.map (·.type))=[ti,ti,ti,ti,ti,ti,tb,tl,tl,ta,ti,ti,tl,ty]) (hone:Deep.oneCellFields P fs=true) (hC:P.cellsOf t=fs.size)
  (hi:P.underlying ti=some (.int .i64)) (hl:P.underlying tl=some (.int .i64)) (hb:P.underlying tb=some .bool) (ha:P.underlying ta=some (.slice e)) (he:P.underlying e=some (.int .i64)) (hce:P.cellsOf e=1)
  (hy:P.underlying ty=some (.slice e')) (he':P.underlying e'=some (.int .u8)) (hce':P.cellsOf e'=1)
  (hv:Value.okWide P W r b0 t v) (h:DataW.Trod enc P W 0 (fun _=>true) true t v d p):∃ f,FrV W W.heap.size v f:=by
 obtain ⟨cs,rfl,hlen,hf⟩:=open_cells hs hone hC hv h
 have hsz:fs.size=14:=by
  have:=congrArg List.length hty
  simpa using this
 have g:∀ (j:Nat) (T:TypeId),[ti,ti,ti,ti,ti,ti,tb,tl,tl,ta,ti,ti,tl,ty][j]? = some T→∃ u n y,cs[j]? = some u∧DataW.trod enc P W 0 (fun _=>true) true n T [u]=some y:=by
  intro j T hT
  rw [← hty,List.getElem?_map,Array.getElem?_toList] at hT
  cases hj:fs[j]? with
  | none=>rw [hj] at hT; cases hT
  | some f =>
   rw [hj] at hT
   simp at hT
   subst hT
   exact hf j f hj
 rw [hsz] at hlen
 match cs,hlen with
 | [c0,c1,c2,c3,c4,c5,c6,c7,c8,c9,c10,c11,c12,c13],_ =>
  have num:∀ (j:Nat) (T:TypeId) (u0:Value),[ti,ti,ti,ti,ti,ti,tb,tl,tl,ta,ti,ti,tl,ty][j]? = some T→[c0,c1,c2,c3,c4,c5,c6,c7,c8,c9,c10,c11,c12,c13][j]? = some u0→P.underlying T=some (.int .i64)→∃ x,u0 = .int .i64 x∧Is64 x:=by
   intro j T u0 h1 h2 h3
   obtain ⟨u,n,y,e1,e2⟩:=g j T h1
   rw [h2] at e1
   injection e1 with e1
   subst e1
   obtain ⟨x,ex,_,hx⟩:=DataW.trod_int h3 e2
   injection ex with ex
   exact ⟨x,ex,bounds_i64 hx⟩
  obtain ⟨x0,rfl,w0⟩:=num 0 ti c0 rfl rfl hi
  obtain ⟨x1,rfl,w1⟩:=num 1 ti c1 rfl rfl hi
  obtain ⟨x2,rfl,w2⟩:=num 2 ti c2 rfl rfl hi
  obtain ⟨x3,rfl,w3⟩:=num 3 ti c3 rfl rfl hi
  obtain ⟨x4,rfl,w4⟩:=num 4 ti c4 rfl rfl hi
  obtain ⟨x5,rfl,w5⟩:=num 5 ti c5 rfl rfl hi
  obtain ⟨x7,rfl,w7⟩:=num 7 tl c7 rfl rfl hl
  obtain ⟨x8,rfl,w8⟩:=num 8 tl c8 rfl rfl hl
  obtain ⟨x10,rfl,w10⟩:=num 10 ti c10 rfl rfl hi
  obtain ⟨x11,rfl,w11⟩:=num 11 ti c11 rfl rfl hi
  obtain ⟨x12,rfl,w12⟩:=num 12 tl c12 rfl rfl hl
  obtain ⟨u6,n6,y6,e6,t6⟩:=g 6 tb rfl
  obtain ⟨v6,ev6,_⟩:=DataW.trod_bool hb t6
  injection ev6 with ev6
  obtain ⟨u9,n9,y9,e9,t9⟩:=g 9 ta rfl
  obtain ⟨A,N,C,l,ev9,hr9⟩:=RowI.of_trod ha he hce t9
  obtain ⟨u13,n13,y13,e13,t13⟩:=g 13 ty rfl
  obtain ⟨A',N',C',l',ev13,hr13⟩:=Row8.of_trod1 hy he' hce' t13
  simp at e6 e9 e13
  subst e6 e9 e13 ev6 ev9 ev13
  exact ⟨⟨x0,x1,x2,x3,x4,x5,v6,x7,x8,l,x10,x11,x12,l'⟩,A,N,C,A',N',C',rfl,hr9,hr13,w0,w1,w2,w3,w4,w5,w7,w8,w10,w11,w12⟩
end Go.Proofs.YtdomlccfjnkbjaaGreatDoor.Fr
namespace Go.Proofs.YtdomlccfjnkbjaaGreatDoor.Fr
open Go.ChangeShapes Go.WideShapes Go.ChangeAt Go.RowKit Go.Proofs.YtdomlccfjnkbjaaGreatDoor.Sm Go.Proofs.YtdomlccfjnkbjaaGreatDoor.Wr
set_option maxHeartbeats 400000
set_option maxRecDepth 100000
theorem plainL_le (n k:Int) (hk:k≤7):(plainL n k).length≤7:=by
 unfold plainL
 split
 ·rw [be_length]; omega
 ·simp
def agesL (l:List Int):List UInt8:=l.flatMap fun a=>plainL a 1
set_option maxHeartbeats 4000000
theorem out_bind {α β : Type} (p:Par α) (d : α) (q : α → Par β) (x:List UInt8) (st:Except (Int×Nat) Nat) (db : β):runP (bind p q) db x st=(match (runP p d x st).2 with | .error z=>(db,.error z) | .ok pos=>runP (q (runP p d x st).1) db x (.ok pos)):=by
 cases st with
 | error z=>rfl
 | ok pos =>
  cases h:p x pos with
  | error z=>rw [runP_error (bind_error h),runP_error h]
  | ok r =>
   rw [runP_ok h]
   show runP (bind p q) db x (.ok pos)=runP (q r.1) db x (.ok r.2)
   have:=bind_ok h (q:=q)
   cases h2:q r.1 x r.2 with
   | error z=>rw [runP_error (this.trans h2),runP_error h2]
   | ok s=>rw [runP_ok (this.trans h2),runP_ok h2]
def frameX:Par Frame:=bind kindP fun k=>bind (numP 1 0 5) fun p=>bind (numP 1 0 11) fun n=>tailP k p n
theorem FRm.set {w:World} {g h:Nat} {S:Sn} {x:List UInt8} {p:Nat} {bad:Bool} {o:Option (Int×Nat)} (r:FRm w g h S x p bad o) {q:Nat} {cs:List Value} {t:TypeId} (hq:h<q) (hO:Ob w q t cs) (ht:t≠141) {w':World} (hb:Beside q w w'):FRm w' g h S x p bad o:=by
 have hl:=r.lt
 have hs:=r.size
 have hbb:Below (h+1) w w':=hb.below oM oM
 obtain ⟨ev,h1,h2⟩:=r.ob
 refine ⟨hl,r.sents.below (hbb.mono oM),r.rd.below hbb oM,ev,h1.below hbb oM,?_⟩
 cases o with
 | none=>exact h2
 | some z =>
  obtain ⟨fb,e1,e2,e3,e4⟩:=h2
  refine ⟨fb,e1,e2,e3.beside hb (fun e => ?_),e4⟩
  subst e
  have:=hO.symm.trans e3
  injection this with this
  injection this with _ q2 _
  exact ht q2
theorem FR.set {w:World} {g h:Nat} {S:Sn} {x:List UInt8} {st:Except (Int×Nat) Nat} (r:FR w g h S x st) {q:Nat} {cs:List Value} {t:TypeId} (hq:h<q) (hO:Ob w q t cs) (ht:t≠141) {w':World} (hb:Beside q w w'):FR w' g h S x st:=by
 cases st with
 | ok pos=>exact FRm.set r hq hO ht hb
 | error z=>obtain ⟨p,b,r⟩:=r; exact ⟨p,b,r.set hq hO ht hb⟩
theorem runP_bind {α β : Type} (p:Par α) (d : α) {q : α → Par β} {db : β} {x:List UInt8} {st:Except (Int×Nat) Nat}:runP (bind p q) db x st=runP (q (runP p d x st).1) db x (runP p d x st).2:=by
 rw [out_bind p d]
 cases (runP p d x st).2 <;> rfl
theorem frameX_eq {x:List UInt8} (hx:1≤x.length):frameX x 0=if 1≤num (x.take 1)∧num (x.take 1)≤5 then frameP x 0 else .error (5,0):=by
 by_cases h:1≤num (x.take 1)∧num (x.take 1)≤5
 ·rw [if_pos h]
  have h1:kindP x 0 = .ok ((num (x.take 1):Int),1):=by unfold kindP; rw [if_pos h]
  have h2:numP 1 1 5 x 0 = .ok ((num (x.take 1):Int),1):=by
   unfold numP
   rw [List.drop_zero,if_neg oM,if_pos oM]
  unfold frameX frameP
  rw [bind_ok h1,bind_ok h2]
 ·rw [if_neg h]
  have h1:kindP x 0 = .error (5,0):=by unfold kindP; rw [if_neg h]
  unfold frameX
  rw [bind_error h1]
theorem readX_run {x:List UInt8} (hx:1≤x.length):readX x=(match frameX x 0 with | .error e => .error e | .ok r=>if r.2<x.length then .error (3,r.2) else .ok r.1):=by
 unfold readX
 rw [frameX_eq hx]
 split
 ·rfl
 ·rfl
end Go.Proofs.YtdomlccfjnkbjaaGreatDoor.Fr
namespace Go.Proofs.YtdomlccfjnkbjaaGreatDoor.Fr
open Go.RowKit Go.Extern.Stop Go.Stop Go.Extern Go.Proofs.YtdomlccfjnkbjaaGreatDoor.Sm
set_option maxHeartbeats 400000
set_option maxRecDepth 100000
theorem as_nil (t:Value) (w:World) :
  Calls Tryz.prog 165 #[.nilIface,t] w fun e w'=>e = .returned (.bool false)∧w'=w:=by
 go_enter Tryz.func165,Tryz.ntmps165
 go_wp2
 go_ret
 exact ⟨rfl,rfl⟩
theorem as_typeOf25 (v:Value) (w:World):(ReflectliteType.typeOf #[.iface 139 v]).run Tryz.prog w = .ok (.iface 210 (.agg #[.pointer (some ⟨14,139,none⟩)])) w:=by kernel_rfl
end Go.Proofs.YtdomlccfjnkbjaaGreatDoor.Fr
namespace Go.Proofs.YtdomlccfjnkbjaaGreatDoor.Fr
open Go.ChangeShapes Go.WideShapes Go.ChangeAt Go.RowKit Go.Proofs.YtdomlccfjnkbjaaGreatDoor.Sm Go.Proofs.YtdomlccfjnkbjaaGreatDoor.Wr
set_option maxHeartbeats 4000000
set_option maxRecDepth 100000
def decX (b:List UInt8):Except (Int×Nat) Frame:=if b.length<7 then .error (2,0) else if isSealed b=true then readX (b.take (b.length-4)) else .error (4,b.length-4)
def errOf (r:Except (Int×Nat) Frame):Option (Int×Nat):=match r with
 | .ok _=>none
 | .error z=>some z
def frOf (r:Except (Int×Nat) Frame):Frame:=match r with
 | .ok f=>f
 | .error _=>bare 0 0 0
end Go.Proofs.YtdomlccfjnkbjaaGreatDoor.Fr
namespace Go.Proofs.YtdomlccfjnkbjaaGreatDoor.Fr
open Go.ChangeShapes Go.WideShapes Go.ChangeAt Go.RowKit Go.Proofs.YtdomlccfjnkbjaaGreatDoor.Sm
set_option maxHeartbeats 400000
theorem fieldAt0:FieldAt Tryz.prog 25 0:=fun g u=>by kernel_rfl
theorem fieldAt1:FieldAt Tryz.prog 25 1:=fun g u=>by kernel_rfl
theorem fieldAt2:FieldAt Tryz.prog 25 2:=fun g u=>by kernel_rfl
theorem fieldAt3:FieldAt Tryz.prog 25 3:=fun g u=>by kernel_rfl
theorem fieldAt4:FieldAt Tryz.prog 25 4:=fun g u=>by kernel_rfl
theorem fieldAt5:FieldAt Tryz.prog 25 5:=fun g u=>by kernel_rfl
theorem fieldAt6:FieldAt Tryz.prog 25 6:=fun g u=>by kernel_rfl
theorem fieldAt7:FieldAt Tryz.prog 25 7:=fun g u=>by kernel_rfl
theorem fieldAt8:FieldAt Tryz.prog 25 8:=fun g u=>by kernel_rfl
theorem fieldAt9:FieldAt Tryz.prog 25 9:=fun g u=>by kernel_rfl
theorem fieldAt10:FieldAt Tryz.prog 25 10:=fun g u=>by kernel_rfl
theorem fieldAt11:FieldAt Tryz.prog 25 11:=fun g u=>by kernel_rfl
theorem fieldAt12:FieldAt Tryz.prog 25 12:=fun g u=>by kernel_rfl
theorem fieldAt13:FieldAt Tryz.prog 25 13:=fun g u=>by kernel_rfl
theorem loads_one {t:TypeId} {d:TypeDesc} (hu:Tryz.prog.underlying t=some d) (hd:d.isRow=false):LoadsOne Tryz.prog t:=by
 intro a v u h
 have hagg:(isAgg t).run Tryz.prog u = .ok false u:=by
  unfold isAgg
  rw [Sem.run_bind,run_underlying hu u]
  cases d <;> simp_all
 simp [Instr.loadAt,Instr.sureAddr,loadVar,hagg,h]
end Go.Proofs.YtdomlccfjnkbjaaGreatDoor.Fr
namespace Go.Proofs.YtdomlccfjnkbjaaGreatDoor.Fr
open Go.ChangeShapes Go.WideShapes Go.ChangeAt Go.RowKit Go.Proofs.YtdomlccfjnkbjaaGreatDoor.Sm Go.Proofs.YtdomlccfjnkbjaaGreatDoor.Wr
set_option maxHeartbeats 4000000
set_option maxRecDepth 100000
def bytesOf (f:Frame):List UInt8:=if mayB f=true then sealB (enc f) else []
theorem sealB_length (l:List UInt8):(sealB l).length=l.length+4:=by unfold sealB; rw [List.length_append]; rfl
def ex:Frame:={ bare 1 1 2 with wait:=3 }
theorem frame_of_trod {H:Type} {enc:TypeId×Value→H} {W:World} {r:Reach} {b0:Nat} {v:Value} {d:DataW H} {p:List MemPlace} (hv:Value.okWide Tryz.prog W r b0 25 v) (h:DataW.Trod enc Tryz.prog W 0 (fun _=>true) true 25 v d p):∃ f,FrV W W.heap.size v f :=
 FrV.of_trod (ti:=3) (tl:=2) (tb:=4) (ta:=22) (ty:=23) (e:=3) (e':=5) Tryz.underlying25 kR kR kR Tryz.underlying3 Tryz.underlying2 Tryz.underlying4 Tryz.underlying22 Tryz.underlying3 kR Tryz.underlying23 Tryz.underlying5 kR hv h
end Go.Proofs.YtdomlccfjnkbjaaGreatDoor.Fr
