/- Package frame's reader of fields: fail, check, plain, offset. -/
import Derived.Test.YtdomlccfjnkbjaaGreatDoorRdOne
import Derived.Test.YtdomlccfjnkbjaaGreatDoorAiLaid
import Derived.Test.YtdomlccfjnkbjaaGreatDoorFrList
import Derived.Test.YtdomlccfjnkbjaaGreatDoorFrAlive
import Derived.Test.YtdomlccfjnkbjaaGreatDoorLsArg
namespace Go.Proofs.YtdomlccfjnkbjaaGreatDoor.Pl
open Go.RowKit Go.Proofs.YtdomlccfjnkbjaaGreatDoor.Sm Go.Proofs.YtdomlccfjnkbjaaGreatDoor.Dp
open Go.Proofs.YtdomlccfjnkbjaaGreatDoor.Wr
open Go.Proofs.YtdomlccfjnkbjaaGreatDoor.Fr (runP runP_ok runP_error numP offP stOf first upd got_take)
set_option maxHeartbeats 4000000
set_option maxRecDepth 100000
set_option linter.unusedVariables false
set_option linter.unusedSimpArgs false
def erK (n:Int):Nat:=if n=2 then 8 else if n=4 then 9 else if n=5 then 10 else if n=3 then 11 else 12
def erO (o:Option (Int×Nat)):Nat:=match o with|none=>12|some z=>erK z.1
def erA (o:Option (Int×Nat)):Nat:=match o with|none=>0|some z=>z.2
def erD (e:Nat→Addr) (o:Option (Int×Nat)):D := .e o.isSome 139 (.q [sentD e (erO o),I (erA o:Int)] 0)
def rmem (e:Nat→Addr) (x:List UInt8) (p:Nat) (bad:Bool) (o:Option (Int×Nat)):List Dp.Obj:=[fr0,wob x p bad,.var 181 [.p 1 0 0 0,erD e o]]
def SO (e:Nat→Addr) (x:List UInt8) (st:Except (Int×Nat) Nat) (m:List Dp.Obj):Prop:=∃ p bad o,m=rmem e x p bad o∧p≤x.length∧st=stOf o p∧(o=none→bad=false)
theorem SO.len {e:Nat→Addr} {x:List UInt8} {st:Except (Int×Nat) Nat} {m:List Dp.Obj} (h:SO e x st m):m.length=3:=by
 obtain ⟨p,bad,o,rfl,_⟩:=h
 rfl
theorem isSome_none {o:Option (Int×Nat)} (h:o.isSome=false):o=none:=by cases o <;> first|rfl|cases h
theorem isSome_some {o:Option (Int×Nat)} (h:o.isSome=true):∃ z,o=some z:=by cases o with|none=>cases h|some z=>exact ⟨z,rfl⟩
theorem fail_pi0 (e:Nat→Addr) (x:List UInt8) (p:Nat) (bad:Bool) (o:Option (Int×Nat)) (hp:p≤x.length) (hx:x.length≤1000000) (n:Int) (a:Nat):PI Tryz.prog [] 123 [D.p 2 0 0 0,sentD e (erK n),I (a:Int)] (rmem e x p bad o) (fun d m=>d=D.t []∧((o=none∧m=[fr0,wob x p bad,.var 181 [.p 1 0 0 0,.i 139 (.q [sentD e (erK n),I (a:Int)] 0)]])∨∃ z,o=some z∧m=rmem e x p bad o)):=by
 refine PI.of (N:=19) Tryz.func123 rfl rfl (Nat.le_of_ble_eq_true rfl) ?_
 refine PW.w 4 [0,1,2,9] 3 (PL.en (A:=[]) o.isSome 139 (D.q [sentD e (erO o),I (erA o:Int)] 0) (!o.isSome) (by first|exact .inl ⟨rfl,rfl⟩|exact .inr ⟨rfl,rfl⟩) rfl rfl kR (PL.nl (PW.cd (!o.isSome) ?_ ?_))) <;> intro hz0 <;> try simp only [boolS] at hz0
 ·refine PW.region (PL.a 5 [11,15] 4 (PL.sl [11,15] 4 (PL.fz 3 (t:=141) [sentD e (erK n),I (a:Int)] (PL.a 4 [] 3 (PL.nil ?_)))))
  refine retI_n (d:=D.t []) (ps:=[]) (mem:=[fr0,Obj.var 207 [bytesD (x.drop p),I (p:Int),D.v (.bool bad)],Obj.var 181 [D.p 1 0 0 0,D.i 139 (D.q [sentD e (erK n),I (a:Int)] 0)]]) trivial ?_
  exact ⟨rfl,.inl ⟨isSome_none (by simpa using hz0),rfl⟩⟩
 ·refine PW.skip ?_
  refine retI_n (d:=D.t []) (ps:=[]) (mem:=(rmem e x p bad o)) trivial ?_
  obtain ⟨z,hz⟩:=isSome_some (by simpa using hz0)
  exact ⟨rfl,.inr ⟨z,hz,rfl⟩⟩
theorem fail_pi (e:Nat→Addr) (x:List UInt8) (p:Nat) (bad:Bool) (o:Option (Int×Nat)) (hp:p≤x.length) (hx:x.length≤1000000) (n:Int) (a:Nat):PI Tryz.prog [] 123 [D.p 2 0 0 0,sentD e (erK n),I (a:Int)] (rmem e x p bad o) (fun d m=>d=D.t []∧m=rmem e x p bad (first o (n,a))):=PI.coarseM (fail_pi0 e x p bad o hp hx n a) fun d m h=>by
 obtain ⟨rfl,⟨rfl,rfl⟩|⟨z,rfl,rfl⟩⟩:=h
 ·refine ⟨_,_,⟨rfl,rfl⟩,rfl,fun w ok ρ v hv=>hv,fun κ w ρ b o' h1 h2 => ?_⟩
  match b,h1 with
  | 0,h1=>exact h2 _ h1
  | 1,h1=>exact h2 _ h1
  | 2,h1 =>
   injection h1 with h1
   subst h1
   obtain ⟨g,vs,k1,k2,k3,k4⟩:=h2 _ rfl
   refine ⟨g,vs,k1,k2,k3,fun j d v q1 q2 => ?_⟩
   match j,q1 with
   | 0,q1=>exact k4 0 d v q1 q2
   | 1,q1 =>
    injection q1 with q1
    subst q1
    cases k4 1 _ v rfl q2 with
    | c h=>cases h with
     | i h=>exact .c (.e1 h)
   | j+2,q1=>exact absurd q1 (by simp)
  | b+3,h1=>exact absurd h1 (by simp [rmem])
 ·exact ⟨_,_,⟨rfl,rfl⟩,rfl,fun w ok ρ v hv=>hv,fun κ w ρ b o' h1 h2=>h2 _ h1⟩
theorem fail_pj (e:Nat→Addr) (x:List UInt8) (p:Nat) (bad:Bool) (o:Option (Int×Nat)) (hp:p≤x.length) (hx:x.length≤1000000) (n:Int) (a:Nat) (k:Nat) (hk:erK n=k) (b:Int) (hb:(a:Int)=b):PI Tryz.prog [] 123 [D.p 2 0 0 0,sentD e k,I b] (rmem e x p bad o) (fun d m=>d=D.t []∧m=rmem e x p bad (first o (n,a))):=by
 subst hk
 subst hb
 exact fail_pi e x p bad o hp hx n a
theorem upd_A {o:Option (Int×Nat)} (n lo hi:Int) (a:Nat):upd o true n lo hi a=first o (2,a):=by cases o <;> rfl
theorem upd_B {o:Option (Int×Nat)} {n lo hi:Int} (a:Nat) (h:n<lo∨hi<n):upd o false n lo hi a=first o (6,a):=by cases o <;> simp [upd,first,h]
theorem upd_C {o:Option (Int×Nat)} {n lo hi:Int} (a:Nat) (h:¬(n<lo∨hi<n)):upd o false n lo hi a=o:=by cases o <;> simp [upd,h]
theorem val_S {o:Option (Int×Nat)} {n:Int} (h:o.isSome=true):Fr.valOf o n=0:=by cases o <;> first|rfl|cases h
theorem val_N {o:Option (Int×Nat)} {n:Int} (h:o.isSome=false):Fr.valOf o n=n:=by cases o <;> first|rfl|cases h
theorem check_pi (e:Nat→Addr) (x:List UInt8) (p:Nat) (bad:Bool) (o:Option (Int×Nat)) (hp:p≤x.length) (hx:x.length≤1000000) (n lo hi:Int) (a:Nat):PI Tryz.prog (errG4 e) 175 [D.p 2 0 0 0,I n,I (a:Int),I lo,I hi] (rmem e x p bad o) (fun d m=>d=I (Fr.valOf (upd o bad n lo hi a) n)∧m=rmem e x p bad (upd o bad n lo hi a)):=by
 refine PI.of (N:=40) Tryz.func175 rfl rfl (Nat.le_of_ble_eq_true rfl) ?_
 refine PW.a [0,1,2,3,4] 3 (PW.seq (PW.block (PW.w 4 [0,1,2,3,4,15] 3 (PL.bo (G:=(errG4 e)) (ps:=[]) trivial (PC.more (wrBad_pc x p bad)) (PL.n 1 [0,1,2,3,4,11] 3 (PW.cd bad ?_ ?_)))))) <;> intro hz0 <;> try simp only [boolS] at hz0
 ·refine PW.region (PL.a 3 [0,1,17,18,19] 3 (PL.ci (G:=(errG4 e)) (PI.more ((fail_pj e x p bad o (by first|omega|exact atN_le oM) hx 2 a 8 (by decide) (a:Int) rfl))) ?_))
  rintro _ _ ⟨rfl,rfl⟩
  refine PL.sl [0,1] 3 (PL.nil ?_)
  show PW _ _ _ _ _
  refine PW.seq (PW.w 4 [1,37] 3 (PL.en (A:=[]) ((first o (2,a)).isSome) 139 (D.q [sentD e (erO (first o (2,a))),I (erA (first o (2,a)):Int)] 0) ((first o (2,a)).isSome) (by first|exact .inl ⟨rfl,rfl⟩|exact .inr ⟨rfl,rfl⟩) rfl rfl kR (PL.nl (PW.cd ((first o (2,a)).isSome) ?_ ?_)))) <;> intro hz1 <;> try simp only [boolS] at hz1
  ·refine PW.t [10] 3 ?_
   repeat (first|with_reducible refine thenD_ret ?_|with_reducible refine inBlockD_ret ?_)
   refine retI_r (d:=I 0) (ps:=[]) (mem:=(rmem e x p bad (first o (2,a)))) trivial ?_
   subst hz0
   have hu:upd o true n lo hi a=first o (2,a):=upd_A n lo hi a
   rw [hu,val_S hz1]
   exact ⟨rfl,rfl⟩
  ·refine PW.k (PW.t [10] 3 ?_)
   repeat (first|with_reducible refine thenD_ret ?_|with_reducible refine inBlockD_ret ?_)
   refine retI_r (d:=I n) (ps:=[]) (mem:=(rmem e x p bad (first o (2,a)))) trivial ?_
   subst hz0
   have hu:upd o true n lo hi a=first o (2,a):=upd_A n lo hi a
   rw [hu,val_N hz1]
   exact ⟨rfl,rfl⟩
 ·refine PW.a [0,1,2,21] 3 (PW.cd ((decide (n<lo))||(decide (n>hi))) ?_ ?_) <;> intro hz2 <;> try simp only [boolS] at hz2
  ·refine PW.region (PL.a 3 [0,1,30,31,32] 3 (PL.ci (G:=(errG4 e)) (PI.more ((fail_pj e x p bad o (by first|omega|exact atN_le oM) hx 6 a 12 (by decide) (a:Int) rfl))) ?_))
   rintro _ _ ⟨rfl,rfl⟩
   refine PL.sl [0,1] 3 (PL.nil ?_)
   show PW _ _ _ _ _
   refine PW.seq (PW.w 4 [1,37] 3 (PL.en (A:=[]) ((first o (6,a)).isSome) 139 (D.q [sentD e (erO (first o (6,a))),I (erA (first o (6,a)):Int)] 0) ((first o (6,a)).isSome) (by first|exact .inl ⟨rfl,rfl⟩|exact .inr ⟨rfl,rfl⟩) rfl rfl kR (PL.nl (PW.cd ((first o (6,a)).isSome) ?_ ?_)))) <;> intro hz3 <;> try simp only [boolS] at hz3
   ·refine PW.t [10] 3 ?_
    repeat (first|with_reducible refine thenD_ret ?_|with_reducible refine inBlockD_ret ?_)
    refine retI_r (d:=I 0) (ps:=[]) (mem:=(rmem e x p bad (first o (6,a)))) trivial ?_
    subst hz0
    have hu:upd o false n lo hi a=first o (6,a):=upd_B a oM
    rw [hu,val_S hz3]
    exact ⟨rfl,rfl⟩
   ·refine PW.k (PW.t [10] 3 ?_)
    repeat (first|with_reducible refine thenD_ret ?_|with_reducible refine inBlockD_ret ?_)
    refine retI_r (d:=I n) (ps:=[]) (mem:=(rmem e x p bad (first o (6,a)))) trivial ?_
    subst hz0
    have hu:upd o false n lo hi a=first o (6,a):=upd_B a oM
    rw [hu,val_N hz3]
    exact ⟨rfl,rfl⟩
  ·refine PW.k (PW.seq (PW.w 4 [1,37] 3 (PL.en (A:=[]) o.isSome 139 (D.q [sentD e (erO o),I (erA o:Int)] 0) o.isSome (by first|exact .inl ⟨rfl,rfl⟩|exact .inr ⟨rfl,rfl⟩) rfl rfl kR (PL.nl (PW.cd o.isSome ?_ ?_))))) <;> intro hz4 <;> try simp only [boolS] at hz4
   ·refine PW.t [10] 3 ?_
    repeat (first|with_reducible refine thenD_ret ?_|with_reducible refine inBlockD_ret ?_)
    refine retI_r (d:=I 0) (ps:=[]) (mem:=(rmem e x p bad o)) trivial ?_
    subst hz0
    have hu:upd o false n lo hi a=o:=upd_C a oM
    rw [hu,val_S hz4]
    exact ⟨rfl,rfl⟩
   ·refine PW.k (PW.t [10] 3 ?_)
    repeat (first|with_reducible refine thenD_ret ?_|with_reducible refine inBlockD_ret ?_)
    refine retI_r (d:=I n) (ps:=[]) (mem:=(rmem e x p bad o)) trivial ?_
    subst hz0
    have hu:upd o false n lo hi a=o:=upd_C a oM
    rw [hu,val_N hz4]
    exact ⟨rfl,rfl⟩
theorem plain_pi0 (e:Nat→Addr) (x:List UInt8) (p:Nat) (bad:Bool) (o:Option (Int×Nat)) (hp:p≤x.length) (hx:x.length≤1000000) (k lo hi:Int):PI Tryz.prog (errG4 e) 156 [D.p 2 0 0 0,I k,I lo,I hi] (rmem e x p bad o) (fun d m=>d=I (Fr.valOf (upd o (badN x p bad (wid k)) (numI (gotL x p bad (wid k))) lo hi p) (numI (gotL x p bad (wid k))))∧m=rmem e x (atN x p bad (wid k)) (badN x p bad (wid k)) (upd o (badN x p bad (wid k)) (numI (gotL x p bad (wid k))) lo hi p)):=by
 refine PI.of (N:=26) Tryz.func156 rfl rfl (Nat.le_of_ble_eq_true rfl) ?_
 refine PW.a [0,1,2,3] 3 (PW.w 4 [0,1,2,3,13] 3 (PL.bo (G:=(errG4 e)) (ps:=[]) trivial (PC.more (wrAt_pc x p bad)) (PL.n 1 [0,1,2,3,9] 3 (PW.w 6 [2,3,9,15,19,20] 3 (PL.cm (G:=(errG4 e)) (f:=176) (ds:=[D.p 0 0 0 0,I k]) (ob:=Obj.var 207 [bytesD (x.drop p),I (p:Int),D.v (.bool bad)]) 1 (PM.more (wrNumber_pm x p bad k oM hx)) ?_)))))
 rintro _ _ ⟨rfl,rfl⟩
 refine PL.a 3 [15,21,22,23,24] 3 (PL.ci (check_pi e x (atN x p bad (wid k)) (badN x p bad (wid k)) o (by first|omega|exact atN_le oM) hx (numI (gotL x p bad (wid k))) lo hi p) ?_)
 rintro _ _ ⟨rfl,rfl⟩
 refine PL.sl [25] 3 (PL.n 1 [8] 3 (PW.ret ?_))
 repeat (first|with_reducible refine thenD_ret ?_|with_reducible refine inBlockD_ret ?_)
 refine retI_r (d:=I (Fr.valOf (upd o (badN x p bad (wid k)) (numI (gotL x p bad (wid k))) lo hi p) (numI (gotL x p bad (wid k))))) (ps:=[]) (mem:=(rmem e x (atN x p bad (wid k)) (badN x p bad (wid k)) (upd o (badN x p bad (wid k)) (numI (gotL x p bad (wid k))) lo hi p))) trivial ?_
 exact ⟨rfl,rfl⟩
theorem offset_pi0 (e:Nat→Addr) (x:List UInt8) (p:Nat) (bad:Bool) (o:Option (Int×Nat)) (hp:p≤x.length) (hx:x.length≤1000000):PI Tryz.prog (errG4 e) 158 [D.p 2 0 0 0] (rmem e x p bad o) (fun d m=>d=I (Fr.valOf (upd o (badN x p bad (wid 6)) (offI (gotL x p bad (wid 6))) (-1099511627776) 1099511627776 p) (offI (gotL x p bad (wid 6))))∧m=rmem e x (atN x p bad (wid 6)) (badN x p bad (wid 6)) (upd o (badN x p bad (wid 6)) (offI (gotL x p bad (wid 6))) (-1099511627776) 1099511627776 p)):=by
 refine PI.of (N:=17) Tryz.func158 rfl rfl (Nat.le_of_ble_eq_true rfl) ?_
 refine PW.a [0] 3 (PW.w 4 [0,7] 3 (PL.bo (G:=(errG4 e)) (ps:=[]) trivial (PC.more (wrAt_pc x p bad)) (PL.n 1 [0,3] 3 (PW.w 5 [3,9,13] 3 (PL.cm (G:=(errG4 e)) (f:=177) (ds:=[D.p 0 0 0 0,I 6]) (ob:=Obj.var 207 [bytesD (x.drop p),I (p:Int),D.v (.bool bad)]) 1 (PM.more (wrOffset_pm x p bad 6 oM hx)) ?_)))))
 rintro _ _ ⟨rfl,rfl⟩
 refine PL.a 1 [9,14,15] 3 (PL.ci (check_pi e x (atN x p bad (wid 6)) (badN x p bad (wid 6)) o (by first|omega|exact atN_le oM) hx (offI (gotL x p bad (wid 6))) (-1099511627776) 1099511627776 p) ?_)
 rintro _ _ ⟨rfl,rfl⟩
 refine PL.sl [16] 3 (PL.n 1 [2] 3 (PW.ret ?_))
 repeat (first|with_reducible refine thenD_ret ?_|with_reducible refine inBlockD_ret ?_)
 refine retI_r (d:=I (Fr.valOf (upd o (badN x p bad (wid 6)) (offI (gotL x p bad (wid 6))) (-1099511627776) 1099511627776 p) (offI (gotL x p bad (wid 6))))) (ps:=[]) (mem:=(rmem e x (atN x p bad (wid 6)) (badN x p bad (wid 6)) (upd o (badN x p bad (wid 6)) (offI (gotL x p bad (wid 6))) (-1099511627776) 1099511627776 p))) trivial ?_
 exact ⟨rfl,rfl⟩
theorem plain_state {x:List UInt8} {p:Nat} {bad:Bool} {o:Option (Int×Nat)} {k:Nat} (lo hi:Int) (h1:1≤k∧k≤7) (hp:p≤x.length) (hb:o=none→bad=false):(runP (numP k lo hi) 0 x (stOf o p)).1=Fr.valOf (upd o (badN x p bad (wid (k:Int))) (numI (gotL x p bad (wid (k:Int)))) lo hi p) (numI (gotL x p bad (wid (k:Int))))∧(runP (numP k lo hi) 0 x (stOf o p)).2=stOf (upd o (badN x p bad (wid (k:Int))) (numI (gotL x p bad (wid (k:Int)))) lo hi p) (atN x p bad (wid (k:Int)))∧(upd o (badN x p bad (wid (k:Int))) (numI (gotL x p bad (wid (k:Int)))) lo hi p=none→badN x p bad (wid (k:Int))=false):=by
 have hw:wid ((k:Int))=(k:Int):=if_pos oM
 rw [hw]
 cases o with
 | some z=>exact ⟨rfl,rfl,fun h=>nomatch h⟩
 | none =>
  obtain rfl:=hb rfl
  show (runP (numP k lo hi) 0 x (.ok p)).1=_∧(runP (numP k lo hi) 0 x (.ok p)).2=_∧_
  by_cases hs:x.length<p+k
  ·obtain ⟨g1,g2,g3⟩:=got_no (ok_less x p false (k:=((k:Int):Int)) oM)
   have e1:runP (numP k lo hi) 0 x (.ok p)=(0,.error (2,p)):=runP_error (by unfold numP; rw [if_pos hs])
   rw [e1,g1,g2,g3]
   exact ⟨rfl,rfl,fun h=>nomatch h⟩
  ·obtain ⟨g1,g2,g3⟩:=got_yes (ok_yes x p (k:=((k:Int):Int)) oM oM)
   rw [show (((k:Int):Int)).toNat=k from rfl] at g1 g2
   rw [got_take] at g1
   have hlen:((x.drop p).take k).length≤7:=by rw [List.length_take]; omega
   by_cases hr:lo≤((num ((x.drop p).take k):Nat):Int)∧((num ((x.drop p).take k):Nat):Int)≤hi
   ·have e1:runP (numP k lo hi) 0 x (.ok p)=(((num ((x.drop p).take k):Nat):Int),.ok (p+k)):=runP_ok (p:=(numP k lo hi)) (r:=(((num ((x.drop p).take k):Nat):Int),p+k)) (by unfold numP; rw [if_neg hs,if_pos hr])
    rw [e1,g1,g2,g3,numI_eq hlen,upd_C p oM]
    exact ⟨rfl,rfl,fun _=>rfl⟩
   ·have e1:runP (numP k lo hi) 0 x (.ok p)=(0,.error (6,p)):=runP_error (by unfold numP; rw [if_neg hs,if_neg hr])
    rw [e1,g1,g2,g3,numI_eq hlen,upd_B p oM]
    exact ⟨rfl,rfl,fun h=>nomatch h⟩
theorem plain_pi (e:Nat→Addr) (x:List UInt8) (hx:x.length≤1000000) {st:Except (Int×Nat) Nat} {m:List Dp.Obj} {k:Nat} (lo hi:Int) (h1:1≤k∧k≤7) (h:SO e x st m):PI Tryz.prog (errG4 e) 156 [D.p 2 0 0 0,I (k:Int),I lo,I hi] m (fun d m'=>∃ V s',(runP (numP k lo hi) 0 x st).1=V∧(runP (numP k lo hi) 0 x st).2=s'∧d=I V∧SO e x s' m'):=by
 obtain ⟨p,bad,o,rfl,hp,rfl,hb⟩:=h
 obtain ⟨q1,q2,q3⟩:=plain_state lo hi h1 hp hb
 refine (plain_pi0 e x p bad o hp hx k lo hi).mono ?_
 rintro _ _ ⟨rfl,rfl⟩
 exact ⟨_,_,q1,q2,rfl,_,_,_,rfl,atN_le hp,rfl,q3⟩
theorem offset_state {x:List UInt8} {p:Nat} {bad:Bool} {o:Option (Int×Nat)} (hp:p≤x.length) (hb:o=none→bad=false):(runP offP 0 x (stOf o p)).1=Fr.valOf (upd o (badN x p bad (wid 6)) (offI (gotL x p bad (wid 6))) (-1099511627776) 1099511627776 p) (offI (gotL x p bad (wid 6)))∧(runP offP 0 x (stOf o p)).2=stOf (upd o (badN x p bad (wid 6)) (offI (gotL x p bad (wid 6))) (-1099511627776) 1099511627776 p) (atN x p bad (wid 6))∧(upd o (badN x p bad (wid 6)) (offI (gotL x p bad (wid 6))) (-1099511627776) 1099511627776 p=none→badN x p bad (wid 6)=false):=by
 have hw:wid 6=6:=if_pos oM
 rw [hw]
 cases o with
 | some z=>exact ⟨rfl,rfl,fun h=>nomatch h⟩
 | none =>
  obtain rfl:=hb rfl
  show (runP offP 0 x (.ok p)).1=_∧(runP offP 0 x (.ok p)).2=_∧_
  by_cases hs:x.length<p+6
  ·obtain ⟨g1,g2,g3⟩:=got_no (ok_less x p false (k:=(6:Int)) oM)
   have e1:runP offP 0 x (.ok p)=(0,.error (2,p)):=runP_error (by unfold offP; rw [if_pos hs])
   rw [e1,g1,g2,g3]
   exact ⟨rfl,rfl,fun h=>nomatch h⟩
  ·obtain ⟨g1,g2,g3⟩:=got_yes (ok_yes x p (k:=(6:Int)) oM oM)
   rw [show ((6:Int)).toNat=6 from rfl] at g1 g2
   rw [got_take] at g1
   by_cases hr:(-1099511627776)≤offI ((x.drop p).take 6)∧offI ((x.drop p).take 6)≤1099511627776
   ·have e1:runP offP 0 x (.ok p)=(offI ((x.drop p).take 6),.ok (p+6)):=runP_ok (p:=offP) (r:=(offI ((x.drop p).take 6),p+6)) (by unfold offP; rw [if_neg hs,if_pos hr])
    rw [e1,g1,g2,g3,upd_C p oM]
    exact ⟨rfl,rfl,fun _=>rfl⟩
   ·have e1:runP offP 0 x (.ok p)=(0,.error (6,p)):=runP_error (by unfold offP; rw [if_neg hs,if_neg hr])
    rw [e1,g1,g2,g3,upd_B p oM]
    exact ⟨rfl,rfl,fun h=>nomatch h⟩
theorem offset_pi (e:Nat→Addr) (x:List UInt8) (hx:x.length≤1000000) {st:Except (Int×Nat) Nat} {m:List Dp.Obj} (h:SO e x st m):PI Tryz.prog (errG4 e) 158 [D.p 2 0 0 0] m (fun d m'=>∃ V s',(runP offP 0 x st).1=V∧(runP offP 0 x st).2=s'∧d=I V∧SO e x s' m'):=by
 obtain ⟨p,bad,o,rfl,hp,rfl,hb⟩:=h
 obtain ⟨q1,q2,q3⟩:=offset_state hp hb
 refine (offset_pi0 e x p bad o hp hx).mono ?_
 rintro _ _ ⟨rfl,rfl⟩
 exact ⟨_,_,q1,q2,rfl,_,_,_,rfl,atN_le hp,rfl,q3⟩
theorem below_pi0 (e:Nat→Addr) (x:List UInt8) (hx:x.length≤1000000) (p:Nat) (bad:Bool) (o:Option (Int×Nat)) {st:Except (Int×Nat) Nat} (hS:SO e x st (rmem e x p bad o)) (n:Int) (hn:1≤n∧n≤100):PI Tryz.prog (errG4 e) 154 [D.p 2 0 0 0,I n] (rmem e x p bad o) (fun d m'=>∃ V s',(runP (numP 1 0 (n-1)) 0 x st).1=V∧(runP (numP 1 0 (n-1)) 0 x st).2=s'∧d=I V∧SO e x s' m'):=by
 refine PI.of (N:=9) Tryz.func154 rfl rfl (Nat.le_of_ble_eq_true rfl) ?_
 refine PW.a [0,1] 3 (PW.w 3 [5,7] 3 (PL.ci (plain_pi e x hx (k:=1) 0 (IntKind.i64.wrap (n-1)) ⟨by decide,by decide⟩ hS) ?_))
 rintro _ _ ⟨V1,s1,hV1,hs1,rfl,hS1⟩
 obtain ⟨p1,bad1,o1,rfl,hp1,hq1,hb1⟩:=id hS1
 refine PL.sl [8] 3 (PL.n 1 [4] 3 (PW.ret ?_))
 repeat (first|with_reducible refine thenD_ret ?_|with_reducible refine inBlockD_ret ?_)
 refine retI_r (d:=I V1) (ps:=[]) (mem:=(rmem e x p1 bad1 o1)) trivial ?_
 rw [show IntKind.i64.wrap (n-1)=n-1 from Ev.wrap_i64 oM oM] at hV1 hs1
 exact ⟨_,_,hV1,hs1,rfl,hS1⟩
theorem below_pi (e:Nat→Addr) (x:List UInt8) (hx:x.length≤1000000) {st:Except (Int×Nat) Nat} {m:List Dp.Obj} (n hi:Int) (hn:1≤n∧n≤100) (hh:n-1=hi) (h:SO e x st m):PI Tryz.prog (errG4 e) 154 [D.p 2 0 0 0,I n] m (fun d m'=>∃ V s',(runP (numP 1 0 hi) 0 x st).1=V∧(runP (numP 1 0 hi) 0 x st).2=s'∧d=I V∧SO e x s' m'):=by
 subst hh
 obtain ⟨p,bad,o,rfl,h2⟩:=id h
 exact below_pi0 e x hx p bad o h n hn
theorem byte_in {x:List UInt8} (hx:1≤x.length):runP (numP 1 0 255) 0 x (.ok 0)=(((num (x.take 1):Nat):Int),.ok 1):=by
 refine runP_ok (p:=numP 1 0 255) (r:=(((num (x.take 1):Nat):Int),1)) ?_
 unfold numP
 rw [if_neg oM,List.drop_zero,if_pos]
 match x,hx with
 | b::r,_ =>
  have:=UInt8.toNat_lt b
  simp [num]
  omega
theorem kindP_yes {x:List UInt8} (h:1≤num (x.take 1)∧num (x.take 1)≤5):runP Fr.kindP 0 x (.ok 0)=(((num (x.take 1):Nat):Int),.ok 1):=runP_ok (r:=(((num (x.take 1):Nat):Int),1)) (by unfold Fr.kindP; rw [if_pos h])
theorem kindP_no {x:List UInt8} (h:¬(1≤num (x.take 1)∧num (x.take 1)≤5)):runP Fr.kindP 0 x (.ok 0)=(0,.error (5,0)):=runP_error (by unfold Fr.kindP; rw [if_neg h])
theorem kind_pi0 (e:Nat→Addr) (x:List UInt8) (hx:x.length≤1000000) (p:Nat) (bad:Bool) (o:Option (Int×Nat)) (hS:SO e x (.ok 0) (rmem e x p bad o)) (hx1:1≤x.length):PI Tryz.prog (errG4 e) 153 [D.p 2 0 0 0] (rmem e x p bad o) (fun d m'=>∃ V s',(runP Fr.kindP 0 x (.ok 0)).1=V∧(runP Fr.kindP 0 x (.ok 0)).2=s'∧d=I V∧SO e x s' m'):=by
 refine PI.of (N:=17) Tryz.func153 rfl rfl (Nat.le_of_ble_eq_true rfl) ?_
 refine PW.a [0] 3 (PW.w 1 [0,4] 3 (PL.ci (plain_pi e x hx (k:=1) 0 255 ⟨by decide,by decide⟩ hS) ?_))
 rintro _ _ ⟨V1,s1,hV1,hs1,rfl,hS1⟩
 obtain ⟨p1,bad1,o1,rfl,hp1,hq1,hb1⟩:=id hS1
 refine PL.sl [0,5] 3 (PL.n 1 [0,3] 3 (PW.q [0,3,6] 3 (PW.block (PW.q [0,3,6,7] 3 (PW.cd (V1 == (1:Int)) ?_ ?_))))) <;> intro hz0 <;> try simp only [boolS] at hz0
 ·refine PW.k (PW.cd (V1 == (1:Int)) ?_ ?_) <;> intro hz1 <;> try simp only [boolS] at hz1
  ·refine PW.t [2] 3 ?_
   repeat (first|with_reducible refine thenD_ret ?_|with_reducible refine inBlockD_ret ?_)
   refine retI_r (d:=I V1) (ps:=[]) (mem:=(rmem e x p1 bad1 o1)) trivial ?_
   rw [byte_in hx1] at hV1 hs1
   subst hV1
   subst hs1
   rw [kindP_yes oM]
   exact ⟨_,_,rfl,rfl,rfl,hS1⟩
  ·refine PW.k (PW.seq ?_)
   (exfalso; omega)
 ·refine PW.a [0,3,6,7] 3 (PW.cd (V1 == (2:Int)) ?_ ?_) <;> intro hz2 <;> try simp only [boolS] at hz2
  ·refine PW.k (PW.cd (V1 == (2:Int)) ?_ ?_) <;> intro hz3 <;> try simp only [boolS] at hz3
   ·refine PW.t [2] 3 ?_
    repeat (first|with_reducible refine thenD_ret ?_|with_reducible refine inBlockD_ret ?_)
    refine retI_r (d:=I V1) (ps:=[]) (mem:=(rmem e x p1 bad1 o1)) trivial ?_
    rw [byte_in hx1] at hV1 hs1
    subst hV1
    subst hs1
    rw [kindP_yes oM]
    exact ⟨_,_,rfl,rfl,rfl,hS1⟩
   ·refine PW.k (PW.seq ?_)
    (exfalso; omega)
  ·refine PW.a [0,3,6,7] 3 (PW.cd (V1 == (3:Int)) ?_ ?_) <;> intro hz4 <;> try simp only [boolS] at hz4
   ·refine PW.k (PW.cd (V1 == (3:Int)) ?_ ?_) <;> intro hz5 <;> try simp only [boolS] at hz5
    ·refine PW.t [2] 3 ?_
     repeat (first|with_reducible refine thenD_ret ?_|with_reducible refine inBlockD_ret ?_)
     refine retI_r (d:=I V1) (ps:=[]) (mem:=(rmem e x p1 bad1 o1)) trivial ?_
     rw [byte_in hx1] at hV1 hs1
     subst hV1
     subst hs1
     rw [kindP_yes oM]
     exact ⟨_,_,rfl,rfl,rfl,hS1⟩
    ·refine PW.k (PW.seq ?_)
     (exfalso; omega)
   ·refine PW.a [0,3,6,7] 3 (PW.cd (V1 == (4:Int)) ?_ ?_) <;> intro hz6 <;> try simp only [boolS] at hz6
    ·refine PW.k (PW.cd (V1 == (4:Int)) ?_ ?_) <;> intro hz7 <;> try simp only [boolS] at hz7
     ·refine PW.t [2] 3 ?_
      repeat (first|with_reducible refine thenD_ret ?_|with_reducible refine inBlockD_ret ?_)
      refine retI_r (d:=I V1) (ps:=[]) (mem:=(rmem e x p1 bad1 o1)) trivial ?_
      rw [byte_in hx1] at hV1 hs1
      subst hV1
      subst hs1
      rw [kindP_yes oM]
      exact ⟨_,_,rfl,rfl,rfl,hS1⟩
     ·refine PW.k (PW.seq ?_)
      (exfalso; omega)
    ·refine PW.b [0,3,7] 3 ?_
     show PW _ _ _ _ _
     refine PW.cd (V1 == (5:Int)) ?_ ?_ <;> intro hz8 <;> try simp only [boolS] at hz8
     ·refine PW.t [2] 3 ?_
      repeat (first|with_reducible refine thenD_ret ?_|with_reducible refine inBlockD_ret ?_)
      refine retI_r (d:=I V1) (ps:=[]) (mem:=(rmem e x p1 bad1 o1)) trivial ?_
      rw [byte_in hx1] at hV1 hs1
      subst hV1
      subst hs1
      rw [kindP_yes oM]
      exact ⟨_,_,rfl,rfl,rfl,hS1⟩
     ·refine PW.k (PW.seq (PW.region (PL.a 2 [14,15] 3 (PL.ci (G:=(errG4 e)) (PI.more ((fail_pj e x p1 bad1 o1 (by first|omega|exact atN_le oM) hx 5 0 10 (by decide) 0 rfl))) ?_))))
      rintro _ _ ⟨rfl,rfl⟩
      refine PL.sl [] 3 (PL.nil ?_)
      show PW _ _ _ _ _
      refine PW.t [2] 3 ?_
      repeat (first|with_reducible refine thenD_ret ?_|with_reducible refine inBlockD_ret ?_)
      refine retI_r (d:=I 0) (ps:=[]) (mem:=(rmem e x p1 bad1 (first o1 (5,0)))) trivial ?_
      rw [byte_in hx1] at hV1 hs1
      subst hV1
      subst hs1
      rw [kindP_no oM]
      cases o1 with
      | some z=>exact absurd hq1 (by simp [stOf])
      | none=>exact ⟨_,_,rfl,rfl,rfl,_,_,_,rfl,hp1,rfl,fun h=>nomatch h⟩
theorem kind_pi (e:Nat→Addr) (x:List UInt8) (hx:x.length≤1000000) {m:List Dp.Obj} (hx1:1≤x.length) (h:SO e x (.ok 0) m):PI Tryz.prog (errG4 e) 153 [D.p 2 0 0 0] m (fun d m'=>∃ V s',(runP Fr.kindP 0 x (.ok 0)).1=V∧(runP Fr.kindP 0 x (.ok 0)).2=s'∧d=I V∧SO e x s' m'):=by
 obtain ⟨p,bad,o,rfl,h2⟩:=id h
 exact kind_pi0 e x hx p bad o h hx1
theorem body_pi0 (e:Nat→Addr) (x:List UInt8) (hx:x.length≤1000000) (p:Nat) (bad:Bool) (o:Option (Int×Nat)) {st:Except (Int×Nat) Nat} (hS:SO e x st (rmem e x p bad o)):PI Tryz.prog (errG4 e) 159 [D.p 2 0 0 0] (rmem e x p bad o) (fun d m'=>∃ V s',(∀ pos,s' = .ok pos→V=(runP Fr.bodyP [] x st).1)∧(runP Fr.bodyP [] x st).2=s'∧d=bytesD V∧SO e x s' m'):=by
 refine PI.of (N:=29) Tryz.func159 rfl rfl (Nat.le_of_ble_eq_true rfl) ?_
 refine PW.a [0] 3 (PW.w 1 [0,6] 3 (PL.ci (plain_pi e x hx (k:=1) 0 24 ⟨by decide,by decide⟩ hS) ?_))
 rintro _ _ ⟨V1,s1,hV1,hs1,rfl,hS1⟩
 obtain ⟨p1,bad1,o1,rfl,hp1,hq1,hb1⟩:=id hS1
 refine PL.sl [0,7] 3 (PL.n 1 [0,3] 3 (PW.w 4 [0,3,11] 3 (PL.bo (G:=(errG4 e)) (ps:=[]) trivial (PC.more (wrAt_pc x p1 bad1)) (PL.n 1 [0,3,4] 3 (PW.w 5 [0,4,16,17] 3 (PL.cm (G:=(errG4 e)) (f:=178) (ds:=[D.p 0 0 0 0,I V1]) (ob:=Obj.var 207 [bytesD (x.drop p1),I (p1:Int),D.v (.bool bad1)]) 1 (PM.more (wrTake_pm x p1 bad1 V1 oM hx)) ?_))))))
 rintro _ _ ⟨rfl,rfl⟩
 refine PL.n 1 [0,4,5] 3 (PW.seq (PW.w 4 [0,4,5,22] 3 (PL.bo (G:=(errG4 e)) (ps:=[]) trivial (PC.more (wrBad_pc x (atN x p1 bad1 V1) (badN x p1 bad1 V1))) (PL.nl (PW.cd (badN x p1 bad1 V1) ?_ ?_))))) <;> intro hz0 <;> try simp only [boolS] at hz0
 ·refine PW.region (PL.a 3 [5,24,25,26] 3 (PL.ci (G:=(errG4 e)) (PI.more ((fail_pj e x (atN x p1 bad1 V1) (badN x p1 bad1 V1) o1 (by first|omega|exact atN_le oM) hx 2 p1 8 (by decide) (p1:Int) rfl))) ?_))
  rintro _ _ ⟨rfl,rfl⟩
  refine PL.sl [5] 3 (PL.nil ?_)
  show PW _ _ _ _ _
  refine PW.t [2] 3 ?_
  repeat (first|with_reducible refine thenD_ret ?_|with_reducible refine inBlockD_ret ?_)
  refine retI_r (d:=bytesD (gotL x p1 bad1 V1)) (ps:=[]) (mem:=(rmem e x (atN x p1 bad1 V1) (badN x p1 bad1 V1) (first o1 (2,p1)))) trivial ?_
  obtain ⟨N,hN⟩:∃ N:Nat,V1=(N:Int):=⟨V1.toNat,by have:=Fr.runP_wf (lo:=0) (hi:=24) (k:=1) (x:=x) (st:=st) oM (by decide); rw [hV1] at this; omega⟩
  subst hN
  have hbs:=Fr.body_state x st p1 N bad1 o1 hV1 (hs1.trans hq1) hb1
  rw [if_pos hz0] at hbs
  exact ⟨_,_,fun pos h=>hbs.2 pos (hbs.1.trans h),hbs.1,rfl,_,_,_,rfl,atN_le hp1,rfl,fun h=>absurd h (by cases o1 <;> simp [first])⟩
 ·refine PW.k (PW.t [2] 3 ?_)
  repeat (first|with_reducible refine thenD_ret ?_|with_reducible refine inBlockD_ret ?_)
  refine retI_r (d:=bytesD (gotL x p1 bad1 V1)) (ps:=[]) (mem:=(rmem e x (atN x p1 bad1 V1) (badN x p1 bad1 V1) o1)) trivial ?_
  obtain ⟨N,hN⟩:∃ N:Nat,V1=(N:Int):=⟨V1.toNat,by have:=Fr.runP_wf (lo:=0) (hi:=24) (k:=1) (x:=x) (st:=st) oM (by decide); rw [hV1] at this; omega⟩
  subst hN
  have hbs:=Fr.body_state x st p1 N bad1 o1 hV1 (hs1.trans hq1) hb1
  rw [if_neg (by rw [hz0]; decide)] at hbs
  exact ⟨_,_,fun pos h=>hbs.2 pos (hbs.1.trans h),hbs.1,rfl,_,_,_,rfl,atN_le hp1,rfl,fun h=>hz0⟩
theorem body_pi (e:Nat→Addr) (x:List UInt8) (hx:x.length≤1000000) {st:Except (Int×Nat) Nat} {m:List Dp.Obj} (h:SO e x st m):PI Tryz.prog (errG4 e) 159 [D.p 2 0 0 0] m (fun d m'=>∃ V s',(∀ pos,s' = .ok pos→V=(runP Fr.bodyP [] x st).1)∧(runP Fr.bodyP [] x st).2=s'∧d=bytesD V∧SO e x s' m'):=by
 obtain ⟨p,bad,o,rfl,h2⟩:=id h
 exact body_pi0 e x hx p bad o h
theorem ages_pi0 (e:Nat→Addr) (x:List UInt8) (hx:x.length≤1000000) (p:Nat) (bad:Bool) (o:Option (Int×Nat)) {st:Except (Int×Nat) Nat} (hS:SO e x st (rmem e x p bad o)):PI Tryz.prog (errG4 e) 157 [D.p 2 0 0 0] (rmem e x p bad o) (fun d m'=>∃ L s',(∀ pos,s' = .ok pos→(runP Fr.agesP [] x st).1=L)∧(runP Fr.agesP [] x st).2=s'∧(∀ d ∈ L, -9223372036854775808≤d∧d≤9223372036854775807)∧d=sl' 1 (fun x=>[I x]) L∧SO e x s' m'):=by
 refine PI.of (N:=15) Tryz.func157 rfl rfl (Nat.le_of_ble_eq_true rfl) ?_
 refine PW.a [0] 3 (PW.a [0,3] 3 (PW.seq (PW.w 1 [0,3,4] 3 (PL.ci (plain_pi e x hx (k:=1) 1 6 ⟨by decide,by decide⟩ hS) ?_))))
 rintro _ _ ⟨V1,s1,hV1,hs1,rfl,hS1⟩
 obtain ⟨p1,bad1,o1,rfl,hp1,hq1,hb1⟩:=id hS1
 refine PL.sl [0,3,5] 3 (PL.n 1 [0,3,5,6] 3 (PW.block (PW.born 3 3 1 kR (PW.loopR (α := Nat×List Int×Nat×Bool×Option (Int×Nat)) (fun (i,xs,p9,bad9,o9)=>{ tab:=[⟨0,[],D.p 2 0 0 0⟩,⟨3,[],D.h 3 xs.length⟩,⟨5,[],I V1⟩,⟨6,[],I (i:Int)⟩],mem:=(rmem e x p9 bad9 o9++[Obj.row 3 1 xs.length (fun j=>(fun x=>[I x]) (xs.getD j default))]),gl:=(errG4 e),fx:=3 }) (fun (i,xs,p9,bad9,o9)=>i≤V1.toNat∧SO e x (Fr.reps x i s1).2 (rmem e x p9 bad9 o9)∧xs=(Fr.reps x i s1).1) (fun (i,xs,p9,bad9,o9)=>V1.toNat-i) [0,3,5,6] 4 (0,[],p1,bad1,o1) (s1:={ tab:=[⟨0,[],D.p 2 0 0 0⟩,⟨3,[],D.h 3 0⟩,⟨5,[],I V1⟩,⟨6,[],I 0⟩],mem:=(rmem e x p1 bad1 o1++[Obj.row 3 1 0 (fun _=>[])]),gl:=(errG4 e),fx:=3 }) kR kR ?_ ?_ ?_))))
 ·dsimp only
  exact ⟨rfl,rfl,rfl,(.same (.same (.same (.row rfl (fun j hj=>absurd hj (Nat.not_lt_zero _)) .nil))))⟩
 ·dsimp only
  exact ⟨Nat.zero_le _,hS1,rfl⟩
 rintro ⟨i,xs,p9,bad9,o9⟩ hinv
 dsimp only at hinv
 have hS9:=hinv.2.1
 have hv6:=Fr.runP_wf (lo:=1) (hi:=6) (k:=1) (x:=x) (st:=st) oM (by decide)
 rw [hV1] at hv6
 have hxl:xs.length=i:=by rw [hinv.2.2,Fr.reps_length]
 show PW _ _ _ _ _
 refine PW.a [0,3,5,6,7] 4 (PW.seq (PW.cd (decide ((i:Int)<V1)) ?_ ?_)) <;> intro hz0 <;> try simp only [boolS] at hz0
 ·refine PW.k (PW.seq (PW.block (PW.region (PL.a 2 [0,5,6,8,9] 4 (PL.ci (PI.frame [Obj.row 3 1 xs.length (fun j=>(fun x=>[I x]) (xs.getD j default))] (plain_pi e x hx (k:=1) 0 201 ⟨by decide,by decide⟩ hS9) (fun _ _ ⟨_,_,_,_,_,h⟩=>h.len)) ?_)))))
  rintro _ _ ⟨_,rfl,V2,s2,hV2,hs2,rfl,hS2⟩
  obtain ⟨p2,bad2,o2,rfl,hp2,hq2,hb2⟩:=id hS2
  refine PL.sl [0,5,6,8,10] 4 (PL.rw 2 [0,5,6,12] 5 (p:=((xs.length=xs.length∧1≤1)∧(xs.length+1)*8≤140737488355328∧xs.length+1≤9223372036854775807)) oM (PL.ap 3 (fun x=>[I x]) xs (V2) (PL.a 1 [0,3,5,6] 5 (PL.nil ?_))))
  show PW _ _ _ _ _
  refine PW.b [0,3,5,6] 5 ?_
  refine BackR.of (s1:={ tab:=[⟨0,[],D.p 2 0 0 0⟩,⟨3,[],D.h 3 (xs.length+1)⟩,⟨5,[],I V1⟩,⟨6,[],I (IntKind.i64.wrap ((i:Int)+1))⟩],mem:=(rmem e x p2 bad2 o2++[Obj.row 3 1 (xs.length+1) (fun j=>(fun x=>[I x]) ((xs++[V2]).getD j default))]),gl:=(errG4 e),fx:=3 }) (i+1,xs++[V2],p2,bad2,o2) kR kR ?_ ?_ ?_
  ·dsimp only
   rw [show IntKind.i64.wrap ((i:Int)+1)=((i+1:Nat):Int) by rw [Ev.wrap_i64 oM oM]; omega]
   try simp only [List.length_append,List.length_singleton]
   exact Rem.refl _
  ·dsimp only
   exact ⟨by omega,by rw [show (Fr.reps x (i+1) s1).2=s2 from hs2]; exact hS2,by rw [hinv.2.2,← hV2]; rfl⟩
  ·dsimp only
   exact nD
 ·refine PW.e (PW.w 2 [2] 4 (PL.eq (s':={ tab:=[⟨2,[],D.h 3 xs.length⟩],mem:=(rmem e x p9 bad9 o9++[Obj.row 3 1 xs.length (fun j=>(fun x=>[I x]) (xs.getD j default))]),gl:=(errG4 e),fx:=3 }) kR (PL.frzR 3 (t:=3) (z:=1) (m:=xs.length) (f:=(fun j=>(fun x=>[I x]) (xs.getD j default))) (f':=(fun i=>[I (xs.getD i default)])) (s':={ tab:=[⟨2,[],sl' 1 (fun x=>[I x]) xs⟩],mem:=(rmem e x p9 bad9 o9++[Obj.dead]),gl:=(errG4 e),fx:=3 }) rfl (fun j hj=>rfl) (Nat.le_of_ble_eq_true rfl) (fz_eq (n:=xs.length) (d:=D.s xs.length 1 (fun i=>[I (xs.getD i default)])) (fun d9=>{ tab:=[⟨2,[],d9⟩],mem:=(rmem e x p9 bad9 o9++[Obj.dead]),gl:=(errG4 e),fx:=3 }) kR rfl) (PL.sl [2] 3 (PL.nl (PW.ret ?_))))))
  repeat (first|with_reducible refine thenD_ret ?_|with_reducible refine inBlockD_ret ?_)
  refine retI_r (d:=sl' 1 (fun x=>[I x]) xs) (ps:=[]) (mem:=(rmem e x p9 bad9 o9)) trivial ?_
  have hi:i=V1.toNat:=by omega
  have hw:=Fr.ages_reps x st
  rw [hV1,hs1,← hi] at hw
  exact ⟨xs,_,fun pos h=>by rw [hinv.2.2]; exact (hw.2 pos (hw.1.trans h)).symm,hw.1,by rw [hinv.2.2]; exact Fr.reps_wf x s1 i,rfl,hinv.2.1⟩
theorem ages_pi (e:Nat→Addr) (x:List UInt8) (hx:x.length≤1000000) {st:Except (Int×Nat) Nat} {m:List Dp.Obj} (h:SO e x st m):PI Tryz.prog (errG4 e) 157 [D.p 2 0 0 0] m (fun d m'=>∃ L s',(∀ pos,s' = .ok pos→(runP Fr.agesP [] x st).1=L)∧(runP Fr.agesP [] x st).2=s'∧(∀ d ∈ L, -9223372036854775808≤d∧d≤9223372036854775807)∧d=sl' 1 (fun x=>[I x]) L∧SO e x s' m'):=by
 obtain ⟨p,bad,o,rfl,h2⟩:=id h
 exact ages_pi0 e x hx p bad o h
end Go.Proofs.YtdomlccfjnkbjaaGreatDoor.Pl
