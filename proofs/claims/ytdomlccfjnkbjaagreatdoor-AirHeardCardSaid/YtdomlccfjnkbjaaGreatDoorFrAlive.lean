/- The document's example of chapter 4 (the laws' own test that the calls are there at all). -/
import Derived.Test.YtdomlccfjnkbjaaGreatDoorFrNum
import Derived.Test.YtdomlccfjnkbjaaGreatDoorSmA
import Derived.Test.YtdomlccfjnkbjaaGreatDoorSmOpen
import Derived.Test.YtdomlccfjnkbjaaGreatDoorSmE
import Derived.BigRegion
namespace Go.Proofs.YtdomlccfjnkbjaaGreatDoor.Fr
open Go.ChangeShapes Go.WideShapes Go.ChangeAt Go.RowKit Go.Proofs.YtdomlccfjnkbjaaGreatDoor.Sm Go.Proofs.YtdomlccfjnkbjaaGreatDoor.Wr
set_option maxHeartbeats 400000
set_option maxRecDepth 100000
def reps (x:List UInt8):Nat→Except (Int×Nat) Nat→List Int×Except (Int×Nat) Nat
 | 0,s=>([],s)
 | k+1,s=>((reps x k s).1++[(runP (numP 1 0 201) 0 x (reps x k s).2).1],(runP (numP 1 0 201) 0 x (reps x k s).2).2)
theorem bind_ok {α β : Type} {p:Par α} {q : α → Par β} {x:List UInt8} {pos:Nat} {r : α × Nat} (h:p x pos = .ok r):bind p q x pos=q r.1 x r.2:=by unfold bind; rw [h]
theorem bind_error {α β : Type} {p:Par α} {q : α → Par β} {x:List UInt8} {pos:Nat} {z:Int×Nat} (h:p x pos = .error z):bind p q x pos = .error z:=by unfold bind; rw [h]
theorem rep_snoc (x:List UInt8):∀ (n pos:Nat),repP (n+1) x pos=bind (repP n) (fun l=>bind (numP 1 0 201) fun a=>ret (l++[a])) x pos:=by
 intro n
 induction n with
 | zero =>
  intro pos
  rw [bind_ok (p:=repP 0) (r:=([],pos)) rfl]
  show bind (numP 1 0 201) (fun a=>bind (repP 0) fun l=>ret (a::l)) x pos=_
  cases h:numP 1 0 201 x pos with
  | error z=>rw [bind_error h,bind_error h]
  | ok r=>rw [bind_ok h,bind_ok h]; rfl
 | succ n ih =>
  intro pos
  show bind (numP 1 0 201) (fun a=>bind (repP (n+1)) fun l=>ret (a::l)) x pos=_
  have e0:repP (n+1) x pos=bind (numP 1 0 201) (fun a=>bind (repP n) fun l=>ret (a::l)) x pos:=rfl
  cases h:numP 1 0 201 x pos with
  | error z =>
   rw [bind_error h,bind_error (e0.trans (bind_error h))]
  | ok r =>
   rw [bind_ok h]
   rw [bind_ok h] at e0
   have ih':=ih r.2
   cases h2:repP n x r.2 with
   | error z =>
    rw [bind_error h2] at ih' e0
    rw [bind_error ih',bind_error e0]
   | ok s =>
    rw [bind_ok h2] at ih' e0
    have e0':repP (n+1) x pos = .ok (r.1::s.1,s.2):=e0
    rw [bind_ok e0']
    cases h3:numP 1 0 201 x s.2 with
    | error z =>
     rw [bind_error h3] at ih'
     rw [bind_error ih',bind_error h3]
    | ok q =>
     rw [bind_ok h3] at ih'
     have ih2:repP (n+1) x r.2 = .ok (s.1++[q.1],q.2):=ih'
     rw [bind_ok ih2,bind_ok h3]
     rfl
theorem reps_rep (x:List UInt8) (pos:Nat):∀ n,(match repP n x pos with | .ok r=>reps x n (.ok pos)=(r.1,.ok r.2) | .error z=>(reps x n (.ok pos)).2 = .error z):=by
 intro n
 induction n with
 | zero=>rfl
 | succ n ih =>
  rw [rep_snoc]
  cases h:repP n x pos with
  | error z =>
   rw [h] at ih
   rw [bind_error h]
   have ih':(reps x n (.ok pos)).2 = .error z:=ih
   show (runP (numP 1 0 201) 0 x (reps x n (.ok pos)).2).2 = .error z
   rw [ih']
   rfl
  | ok r =>
   rw [h] at ih
   have ih':reps x n (.ok pos)=(r.1,.ok r.2):=ih
   rw [bind_ok h]
   cases h3:numP 1 0 201 x r.2 with
   | error z =>
    rw [bind_error h3]
    show (runP (numP 1 0 201) 0 x (reps x n (.ok pos)).2).2 = .error z
    rw [ih',runP_error h3]
   | ok q =>
    rw [bind_ok h3]
    show ((reps x n (.ok pos)).1++[(runP (numP 1 0 201) 0 x (reps x n (.ok pos)).2).1],(runP (numP 1 0 201) 0 x (reps x n (.ok pos)).2).2)=_
    rw [ih',runP_ok h3]
theorem runP_wf {lo hi:Int} {k:Nat} {x:List UInt8} {st:Except (Int×Nat) Nat} (_:0≤lo) (hh:hi≤9223372036854775807):0≤(runP (numP k lo hi) 0 x st).1∧(runP (numP k lo hi) 0 x st).1≤9223372036854775807∧((runP (numP k lo hi) 0 x st).1≤hi∨(runP (numP k lo hi) 0 x st).1=0):=by
 cases st with
 | error z=>exact ⟨Int.le_refl _,show (0:Int)≤9223372036854775807 by decide,.inr rfl⟩
 | ok pos =>
  cases h:numP k lo hi x pos with
  | error z=>rw [runP_error h]; exact ⟨Int.le_refl _,show (0:Int)≤9223372036854775807 by decide,.inr rfl⟩
  | ok r =>
   rw [runP_ok h]
   unfold numP at h
   split at h
   ·cases h
   ·split at h
    ·rename_i hr
     injection h with h
     rw [← h]
     exact ⟨by have:=hr.1; show 0≤(_:Int); omega,by have:=hr.2; show (_:Int)≤_; omega,.inl hr.2⟩
    ·cases h
theorem reps_wf (x:List UInt8) (s:Except (Int×Nat) Nat):∀ n,∀ d ∈ (reps x n s).1, -9223372036854775808≤d∧d≤9223372036854775807:=by
 intro n
 induction n with
 | zero=>intro d hd; cases hd
 | succ n ih =>
  intro d hd
  have hd':d ∈ (reps x n s).1++[(runP (numP 1 0 201) 0 x (reps x n s).2).1]:=hd
  rcases List.mem_append.1 hd' with h|h
  ·exact ih d h
  ·obtain rfl:=List.mem_singleton.1 h
   have:=runP_wf (lo:=0) (hi:=201) (k:=1) (x:=x) (st:=(reps x n s).2) oM (by decide)
   omega
theorem reps_length (x:List UInt8) (s:Except (Int×Nat) Nat):∀ n,(reps x n s).1.length=n:=by
 intro n
 induction n with
 | zero=>rfl
 | succ n ih =>
  show ((reps x n s).1++[_]).length=_
  rw [List.length_append,ih]
  rfl
theorem FRm.grown {w w':World} {g h base:Nat} {S:Sn} {x:List UInt8} {p:Nat} {bad:Bool} {o:Option (Int×Nat)} (r:FRm w g h S x p bad o) {e:TypeId} {z n:Nat} {v:Value} {xs:List Value} (hown:w.ownsRow base e z v n xs) (hgr:w.grownBy w' v.ownBlock) (hB:h<base) (he:e≠141):FRm w' g h S x p bad o:=by
 have hl:=r.lt
 have hs:=r.size
 have hrow:∀ k,v.ownBlock=some k→base≤k:=fun k hk=>(hown.lt k hk).1
 have hb:Below (h+1) w w':=(Below.refl _ _).grown hgr oM (fun k hk=>by have:=hrow k hk; omega)
 obtain ⟨ev,h1,h2⟩:=r.ob
 refine ⟨hl,r.sents.below (hb.mono oM),r.rd.below hb oM,ev,h1.below hb oM,?_⟩
 cases o with
 | none=>exact h2
 | some z =>
  obtain ⟨fb,e1,e2,e3,e4⟩:=h2
  refine ⟨fb,e1,e2,?_,e4⟩
  refine (hgr.block fb e3.lt (fun ek => ?_)).trans e3
  rcases hown.2 with ⟨hv,_⟩|⟨k,cap,cur,hv,hk,hq,_⟩
  ·rw [hv] at ek; cases ek
  ·rw [hv] at ek
   have ek':k=fb:=by injection ek.symm
   subst ek'
   have:=hq.symm.trans e3
   injection this with this
   injection this with _ q2 _
   exact he q2
theorem FR.grown {w w':World} {g h base:Nat} {S:Sn} {x:List UInt8} {st:Except (Int×Nat) Nat} (r:FR w g h S x st) {e:TypeId} {z n:Nat} {v:Value} {xs:List Value} (hown:w.ownsRow base e z v n xs) (hgr:w.grownBy w' v.ownBlock) (hB:h<base) (he:e≠141):FR w' g h S x st:=by
 cases st with
 | ok pos=>exact FRm.grown r hown hgr hB he
 | error z=>obtain ⟨p,b,r⟩:=r; exact ⟨p,b,r.grown hown hgr hB he⟩
theorem Beside2.grown {g h:Nat} {a w w':World} {row:Option Nat} (x:Beside2 g h a w) (hgr:w.grownBy w' row) (hr:∀ k,row=some k→a.heap.size≤k):Beside2 g h a w' :=
 ⟨hgr.os.trans x.os,hgr.tape.trans x.tape,hgr.output.trans x.output,Nat.le_trans x.size hgr.size,fun k hk hg hh=>(hgr.block k (Nat.lt_of_lt_of_le hk x.size) (fun e=>by have:=hr k e.symm; omega)).trans (x.block k hk hg hh)⟩
theorem ages_reps (x:List UInt8) (st:Except (Int×Nat) Nat):(runP agesP [] x st).2=(reps x (runP (numP 1 1 6) 0 x st).1.toNat (runP (numP 1 1 6) 0 x st).2).2∧∀ pos,(runP agesP [] x st).2 = .ok pos→(reps x (runP (numP 1 1 6) 0 x st).1.toNat (runP (numP 1 1 6) 0 x st).2).1=(runP agesP [] x st).1:=by
 cases st with
 | error z=>exact ⟨rfl,fun _ h=>by cases h⟩
 | ok pos =>
  cases h:numP 1 1 6 x pos with
  | error z =>
   have e:agesP x pos = .error z:=bind_error h
   rw [runP_error h,runP_error e]
   exact ⟨rfl,fun _ h=>by cases h⟩
  | ok r =>
   have e:agesP x pos=repP r.1.toNat x r.2:=bind_ok h
   rw [runP_ok h]
   have k:=reps_rep x r.2 r.1.toNat
   cases h2:repP r.1.toNat x r.2 with
   | error z =>
    rw [h2] at k
    rw [runP_error (e.trans h2)]
    have k':(reps x r.1.toNat (.ok r.2)).2 = .error z:=k
    exact ⟨k'.symm,fun _ h=>by cases h⟩
   | ok q =>
    rw [h2] at k
    have k':reps x r.1.toNat (.ok r.2)=(q.1,.ok q.2):=k
    rw [runP_ok (e.trans h2),k']
    exact ⟨rfl,fun _ _=>rfl⟩
def stOf (o:Option (Int×Nat)) (p:Nat):Except (Int×Nat) Nat:=match o with
 | none => .ok p
 | some z => .error z
theorem body_state (x:List UInt8) (st:Except (Int×Nat) Nat) (p N:Nat) (bad:Bool) (o:Option (Int×Nat)) (h1:(runP (numP 1 0 24) 0 x st).1=(N:Int)) (h2:(runP (numP 1 0 24) 0 x st).2=stOf o p) (hb:o=none→bad=false) :
  (runP bodyP [] x st).2=stOf (if badN x p bad N=true then first o (2,p) else o) (atN x p bad N)∧(∀ pos,(runP bodyP [] x st).2 = .ok pos→gotL x p bad N=(runP bodyP [] x st).1):=by
 cases st with
 | error z =>
  have e2:(.error z:Except (Int×Nat) Nat)=stOf o p:=h2
  cases o with
  | none=>cases e2
  | some y =>
   have e3:(.error z:Except (Int×Nat) Nat) = .error y:=e2
   injection e3 with e3
   subst e3
   refine ⟨?_,fun _ h=>by cases h⟩
   cases badN x p bad N <;> rfl
 | ok pos =>
  cases h:numP 1 0 24 x pos with
  | error z =>
   have e:bodyP x pos = .error z:=bind_error h
   rw [runP_error h] at h2
   cases o with
   | none=>cases h2
   | some y =>
    have e3:(.error z:Except (Int×Nat) Nat) = .error y:=h2
    injection e3 with e3
    subst e3
    rw [runP_error e]
    refine ⟨?_,fun _ h=>by cases h⟩
    cases badN x p bad N <;> rfl
  | ok r =>
   rw [runP_ok h] at h1 h2
   cases o with
   | some y=>cases h2
   | none =>
    have e3:(.ok r.2:Except (Int×Nat) Nat) = .ok p:=h2
    injection e3 with e3
    have e1:r.1=(N:Int):=h1
    obtain rfl:=hb rfl
    have e:bodyP x pos=takeP N x p:=by
     rw [← e3]
     have:=bind_ok h (q:=fun n=>takeP n.toNat)
     rw [e1,Int.toNat_natCast] at this
     exact this
    by_cases hs:x.length<p+N
    ·obtain ⟨g1,g2,g3⟩:=got_no (ok_less x p false (k:=(N:Int)) oM)
     have e4:bodyP x pos = .error (2,p):=by rw [e]; unfold takeP; rw [if_pos hs]
     rw [runP_error e4,g3]
     exact ⟨rfl,fun _ h=>by cases h⟩
    ·obtain ⟨g1,g2,g3⟩:=got_yes (ok_yes x p (k:=(N:Int)) oM oM)
     rw [Int.toNat_natCast] at g1 g2
     rw [got_take] at g1
     have e4:bodyP x pos = .ok ((x.drop p).take N,p+N):=by rw [e]; unfold takeP; rw [if_neg hs]
     rw [runP_ok e4,g1,g2,g3]
     exact ⟨rfl,fun _ _=>rfl⟩
theorem FR.form {w:World} {g h:Nat} {S:Sn} {x:List UInt8} {st:Except (Int×Nat) Nat} (r:FR w g h S x st):∃ p b o,FRm w g h S x p b o∧st=stOf o p∧(o=none→b=false):=by
 cases st with
 | ok pos=>exact ⟨pos,false,none,r,rfl,fun _=>rfl⟩
 | error z=>obtain ⟨p,b,r⟩:=r; exact ⟨p,b,some z,r,rfl,fun h=>by cases h⟩
def kindP:Par Int:=fun x _=>if 1≤num (x.take 1)∧num (x.take 1)≤5 then .ok ((num (x.take 1):Int),1) else .error (5,0)
end Go.Proofs.YtdomlccfjnkbjaaGreatDoor.Fr
namespace Go.Proofs.YtdomlccfjnkbjaaGreatDoor.Fr
open Go.RowKit Go.ChangeShapes Go.WideShapes Go.Proofs.YtdomlccfjnkbjaaGreatDoor.Sm Go.Proofs.YtdomlccfjnkbjaaGreatDoor.Wr
set_option maxHeartbeats 400000
def cells (f:Frame) (a b:Value):List Value :=
 [.int .i64 f.kind,.int .i64 f.part,.int .i64 f.node,.int .i64 f.wait,.int .i64 f.mask,.int .i64 f.link,.bool f.flag,.int .i64 f.cycle,.int .i64 f.offset,a,.int .i64 f.frm,.int .i64 f.to,.int .i64 f.seq,b]
def Is64 (n:Int):Prop := -9223372036854775808≤n∧n≤9223372036854775807
def Wf (f:Frame):Prop:=Is64 f.kind∧Is64 f.part∧Is64 f.node∧Is64 f.wait∧Is64 f.mask∧Is64 f.link∧Is64 f.cycle∧Is64 f.offset∧Is64 f.frm∧Is64 f.to∧Is64 f.seq
def FrV (w:World) (B:Nat) (v:Value) (f:Frame):Prop :=
 ∃ a n c a' n' c',v = .agg (cells f (.slice a n c) (.slice a' n' c')).toArray∧RowI w B a n c f.ages∧Row8 w B a' n' c' f.body∧Wf f
theorem FrV.below {w w':World} {B:Nat} {v:Value} {f:Frame} (h:FrV w B v f) (hb:Below B w w'):FrV w' B v f:=by
 obtain ⟨a,n,c,a',n',c',e,h1,h2,h3⟩:=h
 exact ⟨a,n,c,a',n',c',e,h1.below hb,h2.below hb,h3⟩
theorem FrV.more {w:World} {B B':Nat} {v:Value} {f:Frame} (h:FrV w B v f) (hB:B≤B'):FrV w B' v f:=by
 obtain ⟨a,n,c,a',n',c',e,h1,h2,h3⟩:=h
 exact ⟨a,n,c,a',n',c',e,h1.more hB,h2.more hB,h3⟩
theorem FrV.later {w w':World} {v:Value} {f:Frame} (h:FrV w w.heap.size v f) (hb:Below w.heap.size w w'):FrV w' w'.heap.size v f:=(h.below hb).more hb.size
end Go.Proofs.YtdomlccfjnkbjaaGreatDoor.Fr
namespace Go.Proofs.YtdomlccfjnkbjaaGreatDoor.Fr
open Go.ChangeShapes Go.WideShapes Go.ChangeAt Go.RowKit Go.Proofs.YtdomlccfjnkbjaaGreatDoor.Sm Go.Proofs.YtdomlccfjnkbjaaGreatDoor.Wr
set_option maxHeartbeats 400000
set_option maxRecDepth 100000
theorem plainL_le (n k:Int) (hk:k≤7):(plainL n k).length≤7:=by
 unfold plainL
 split
 ·rw [be_length]; omega
 ·simp
def agesL (l:List Int):List UInt8:=l.flatMap fun a=>plainL a 1
set_option maxHeartbeats 4000000
theorem out_bind {α β : Type} (p:Par α) (d : α) (q : α → Par β) (x:List UInt8) (st:Except (Int×Nat) Nat) (db : β):runP (bind p q) db x st=(match (runP p d x st).2 with | .error z=>(db,.error z) | .ok pos=>runP (q (runP p d x st).1) db x (.ok pos)):=by
 cases st with
 | error z=>rfl
 | ok pos =>
  cases h:p x pos with
  | error z=>rw [runP_error (bind_error h),runP_error h]
  | ok r =>
   rw [runP_ok h]
   show runP (bind p q) db x (.ok pos)=runP (q r.1) db x (.ok r.2)
   have:=bind_ok h (q:=q)
   cases h2:q r.1 x r.2 with
   | error z=>rw [runP_error (this.trans h2),runP_error h2]
   | ok s=>rw [runP_ok (this.trans h2),runP_ok h2]
def frameX:Par Frame:=bind kindP fun k=>bind (numP 1 0 5) fun p=>bind (numP 1 0 11) fun n=>tailP k p n
theorem FRm.set {w:World} {g h:Nat} {S:Sn} {x:List UInt8} {p:Nat} {bad:Bool} {o:Option (Int×Nat)} (r:FRm w g h S x p bad o) {q:Nat} {cs:List Value} {t:TypeId} (hq:h<q) (hO:Ob w q t cs) (ht:t≠141) {w':World} (hb:Beside q w w'):FRm w' g h S x p bad o:=by
 have hl:=r.lt
 have hs:=r.size
 have hbb:Below (h+1) w w':=hb.below oM oM
 obtain ⟨ev,h1,h2⟩:=r.ob
 refine ⟨hl,r.sents.below (hbb.mono oM),r.rd.below hbb oM,ev,h1.below hbb oM,?_⟩
 cases o with
 | none=>exact h2
 | some z =>
  obtain ⟨fb,e1,e2,e3,e4⟩:=h2
  refine ⟨fb,e1,e2,e3.beside hb (fun e => ?_),e4⟩
  subst e
  have:=hO.symm.trans e3
  injection this with this
  injection this with _ q2 _
  exact ht q2
theorem FR.set {w:World} {g h:Nat} {S:Sn} {x:List UInt8} {st:Except (Int×Nat) Nat} (r:FR w g h S x st) {q:Nat} {cs:List Value} {t:TypeId} (hq:h<q) (hO:Ob w q t cs) (ht:t≠141) {w':World} (hb:Beside q w w'):FR w' g h S x st:=by
 cases st with
 | ok pos=>exact FRm.set r hq hO ht hb
 | error z=>obtain ⟨p,b,r⟩:=r; exact ⟨p,b,r.set hq hO ht hb⟩
theorem runP_bind {α β : Type} (p:Par α) (d : α) {q : α → Par β} {db : β} {x:List UInt8} {st:Except (Int×Nat) Nat}:runP (bind p q) db x st=runP (q (runP p d x st).1) db x (runP p d x st).2:=by
 rw [out_bind p d]
 cases (runP p d x st).2 <;> rfl
theorem frameX_eq {x:List UInt8} (hx:1≤x.length):frameX x 0=if 1≤num (x.take 1)∧num (x.take 1)≤5 then frameP x 0 else .error (5,0):=by
 by_cases h:1≤num (x.take 1)∧num (x.take 1)≤5
 ·rw [if_pos h]
  have h1:kindP x 0 = .ok ((num (x.take 1):Int),1):=by unfold kindP; rw [if_pos h]
  have h2:numP 1 1 5 x 0 = .ok ((num (x.take 1):Int),1):=by
   unfold numP
   rw [List.drop_zero,if_neg oM,if_pos oM]
  unfold frameX frameP
  rw [bind_ok h1,bind_ok h2]
 ·rw [if_neg h]
  have h1:kindP x 0 = .error (5,0):=by unfold kindP; rw [if_neg h]
  unfold frameX
  rw [bind_error h1]
theorem readX_run {x:List UInt8} (hx:1≤x.length):readX x=(match frameX x 0 with | .error e => .error e | .ok r=>if r.2<x.length then .error (3,r.2) else .ok r.1):=by
 unfold readX
 rw [frameX_eq hx]
 split
 ·rfl
 ·rfl
end Go.Proofs.YtdomlccfjnkbjaaGreatDoor.Fr
namespace Go.Proofs.YtdomlccfjnkbjaaGreatDoor.Fr
open Go.RowKit Go.Extern.Stop Go.Stop Go.Extern Go.Proofs.YtdomlccfjnkbjaaGreatDoor.Sm
set_option maxHeartbeats 400000
set_option maxRecDepth 100000
theorem as_nil (t:Value) (w:World) :
  Calls Tryz.prog 165 #[.nilIface,t] w fun e w'=>e = .returned (.bool false)∧w'=w:=by
 go_enter Tryz.func165,Tryz.ntmps165
 go_wp2
 go_ret
 exact ⟨rfl,rfl⟩
theorem as_typeOf25 (v:Value) (w:World):(ReflectliteType.typeOf #[.iface 139 v]).run Tryz.prog w = .ok (.iface 210 (.agg #[.pointer (some ⟨14,139,none⟩)])) w:=by kernel_rfl
end Go.Proofs.YtdomlccfjnkbjaaGreatDoor.Fr
namespace Go.Proofs.YtdomlccfjnkbjaaGreatDoor.Fr
open Go.ChangeShapes Go.WideShapes Go.ChangeAt Go.RowKit Go.Proofs.YtdomlccfjnkbjaaGreatDoor.Sm Go.Proofs.YtdomlccfjnkbjaaGreatDoor.Wr
set_option maxHeartbeats 4000000
set_option maxRecDepth 100000
def decX (b:List UInt8):Except (Int×Nat) Frame:=if b.length<7 then .error (2,0) else if isSealed b=true then readX (b.take (b.length-4)) else .error (4,b.length-4)
def errOf (r:Except (Int×Nat) Frame):Option (Int×Nat):=match r with
 | .ok _=>none
 | .error z=>some z
def frOf (r:Except (Int×Nat) Frame):Frame:=match r with
 | .ok f=>f
 | .error _=>bare 0 0 0
end Go.Proofs.YtdomlccfjnkbjaaGreatDoor.Fr
namespace Go.Proofs.YtdomlccfjnkbjaaGreatDoor.Fr
open Go.ChangeShapes Go.WideShapes Go.ChangeAt Go.RowKit Go.Proofs.YtdomlccfjnkbjaaGreatDoor.Sm
set_option maxHeartbeats 400000
theorem fieldAt0:FieldAt Tryz.prog 25 0:=fun g u=>by kernel_rfl
theorem fieldAt1:FieldAt Tryz.prog 25 1:=fun g u=>by kernel_rfl
theorem fieldAt2:FieldAt Tryz.prog 25 2:=fun g u=>by kernel_rfl
theorem fieldAt3:FieldAt Tryz.prog 25 3:=fun g u=>by kernel_rfl
theorem fieldAt4:FieldAt Tryz.prog 25 4:=fun g u=>by kernel_rfl
theorem fieldAt5:FieldAt Tryz.prog 25 5:=fun g u=>by kernel_rfl
theorem fieldAt6:FieldAt Tryz.prog 25 6:=fun g u=>by kernel_rfl
theorem fieldAt7:FieldAt Tryz.prog 25 7:=fun g u=>by kernel_rfl
theorem fieldAt8:FieldAt Tryz.prog 25 8:=fun g u=>by kernel_rfl
theorem fieldAt9:FieldAt Tryz.prog 25 9:=fun g u=>by kernel_rfl
theorem fieldAt10:FieldAt Tryz.prog 25 10:=fun g u=>by kernel_rfl
theorem fieldAt11:FieldAt Tryz.prog 25 11:=fun g u=>by kernel_rfl
theorem fieldAt12:FieldAt Tryz.prog 25 12:=fun g u=>by kernel_rfl
theorem fieldAt13:FieldAt Tryz.prog 25 13:=fun g u=>by kernel_rfl
theorem loads_one {t:TypeId} {d:TypeDesc} (hu:Tryz.prog.underlying t=some d) (hd:d.isRow=false):LoadsOne Tryz.prog t:=by
 intro a v u h
 have hagg:(isAgg t).run Tryz.prog u = .ok false u:=by
  unfold isAgg
  rw [Sem.run_bind,run_underlying hu u]
  cases d <;> simp_all
 simp [Instr.loadAt,Instr.sureAddr,loadVar,hagg,h]
end Go.Proofs.YtdomlccfjnkbjaaGreatDoor.Fr
namespace Go.Proofs.YtdomlccfjnkbjaaGreatDoor.Fr
open Go.ChangeShapes Go.WideShapes Go.ChangeAt Go.RowKit Go.Proofs.YtdomlccfjnkbjaaGreatDoor.Sm Go.Proofs.YtdomlccfjnkbjaaGreatDoor.Wr
set_option maxHeartbeats 4000000
set_option maxRecDepth 100000
def bytesOf (f:Frame):List UInt8:=if mayB f=true then sealB (enc f) else []
theorem sealB_length (l:List UInt8):(sealB l).length=l.length+4:=by unfold sealB; rw [List.length_append]; rfl
def ex:Frame:={ bare 1 1 2 with wait:=3 }
end Go.Proofs.YtdomlccfjnkbjaaGreatDoor.Fr
