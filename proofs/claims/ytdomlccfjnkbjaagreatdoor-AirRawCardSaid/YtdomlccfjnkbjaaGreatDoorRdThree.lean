/- Package frame's reader of fields: frame. -/
import Derived.Test.YtdomlccfjnkbjaaGreatDoorRdTwo
import Derived.Test.YtdomlccfjnkbjaaGreatDoorFrAlive
import Derived.Test.YtdomlccfjnkbjaaGreatDoorFrQ
namespace Go.Proofs.YtdomlccfjnkbjaaGreatDoor.Pl
open Go.RowKit Go.Proofs.YtdomlccfjnkbjaaGreatDoor.Sm Go.Proofs.YtdomlccfjnkbjaaGreatDoor.Dp
open Go.Proofs.YtdomlccfjnkbjaaGreatDoor.Wr
open Go.Proofs.YtdomlccfjnkbjaaGreatDoor.Fr (runP runP_ok runP_error numP)
set_option maxHeartbeats 4000000
set_option maxRecDepth 100000
set_option linter.unusedVariables false
set_option linter.unusedSimpArgs false
def EndX (x:List UInt8) (F:Fr.Frame) (s:Except (Int×Nat) Nat):Prop:=(runP Fr.frameX (Fr.bare 0 0 0) x (.ok 0)).2=s∧∀ pos,s = .ok pos→(runP Fr.frameX (Fr.bare 0 0 0) x (.ok 0)).1=F
theorem run_ret {a d:Fr.Frame} {x:List UInt8} {s:Except (Int×Nat) Nat}:(runP (Fr.ret a) d x s).2=s∧∀ pos,s = .ok pos→(runP (Fr.ret a) d x s).1=a:=by
 cases s with
 | error z=>exact ⟨rfl,fun pos h=>by cases h⟩
 | ok pos=>exact ⟨rfl,fun _ _=>rfl⟩
theorem kind_cases (x:List UInt8):((1≤(runP Fr.kindP 0 x (.ok 0)).1∧(runP Fr.kindP 0 x (.ok 0)).1≤5))∨((runP Fr.kindP 0 x (.ok 0)).1=0∧(runP Fr.kindP 0 x (.ok 0)).2 = .error (5,0)):=by
 by_cases h:1≤num (x.take 1)∧num (x.take 1)≤5
 ·rw [kindP_yes h]
  exact .inl ⟨by omega,by omega⟩
 ·rw [kindP_no h]
  exact .inr ⟨rfl,rfl⟩
theorem endx0 {x:List UInt8} {V1:Int} {s1 s2 s3:Except (Int×Nat) Nat} (hV1:(runP Fr.kindP 0 x (.ok 0)).1=V1) (hs1:(runP Fr.kindP 0 x (.ok 0)).2=s1) (hs2:(runP (numP 1 0 5) 0 x s1).2=s2) (hs3:(runP (numP 1 0 11) 0 x s2).2=s3) (hz:¬(1≤V1∧V1≤5)) (F:Fr.Frame):EndX x F s3:=by
 have hk:=kind_cases x
 rw [hV1,hs1] at hk
 rcases hk with hk|⟨_,rfl⟩
 ·omega
 ·have e2:s2 = .error (5,0):=hs2.symm
  subst e2
  have e3:s3 = .error (5,0):=hs3.symm
  subst e3
  refine ⟨?_,fun pos h=>by cases h⟩
  unfold Fr.frameX
  rw [Fr.runP_bind Fr.kindP 0,hV1,hs1]
  rfl
theorem linked_pc (k:Int):PC Tryz.prog [] 155 [I k] (· = D.v (.bool (decide (3≤k∧k≤5)))):=by
 refine PC.of (N:=13) Tryz.func155 rfl rfl (Nat.le_of_ble_eq_true rfl) ?_
 refine PW.a [0] 0 (PW.t [2] 0 (rq (D.v (.bool (((k == (3:Int))||(k == (4:Int)))||(k == (5:Int))))) ?_))
 refine congrArg (fun b=>D.v (.bool b)) ?_
 rw [Bool.eq_iff_iff]
 simp only [Bool.or_eq_true,beq_iff_eq,decide_eq_true_eq]
 omega
theorem endx4 {x:List UInt8} {V1:Int} {s1:Except (Int×Nat) Nat} (hV1:(runP Fr.kindP 0 x (.ok 0)).1=V1) (hs1:(runP Fr.kindP 0 x (.ok 0)).2=s1) {V2:Int} {s2:Except (Int×Nat) Nat} (hV2:(runP (numP 1 0 5) 0 x s1).1=V2) (hs2:(runP (numP 1 0 5) 0 x s1).2=s2) {V3:Int} {s3:Except (Int×Nat) Nat} (hV3:(runP (numP 1 0 11) 0 x s2).1=V3) (hs3:(runP (numP 1 0 11) 0 x s2).2=s3) {V4:Int} {s4:Except (Int×Nat) Nat} (hV4:(runP (numP 1 0 9) 0 x s3).1=V4) (hs4:(runP (numP 1 0 9) 0 x s3).2=s4) {V5:List Int} {s5:Except (Int×Nat) Nat} (hV5:∀ pos,s5 = .ok pos→(runP Fr.agesP [] x s4).1=V5) (hs5:(runP Fr.agesP [] x s4).2=s5) (hz:V1=4):EndX x { Fr.bare V1 V2 V3 with link:=V4,ages:=V5 } s5:=by
 have e:runP Fr.frameX (Fr.bare 0 0 0) x (.ok 0)=runP (Fr.ret { Fr.bare V1 V2 V3 with link:=V4,ages:=(runP Fr.agesP [] x s4).1 }) (Fr.bare 0 0 0) x s5:=by
  unfold Fr.frameX
  rw [Fr.runP_bind Fr.kindP 0,hV1,hs1,Fr.runP_bind (numP 1 0 5) 0,hV2,hs2,Fr.runP_bind (numP 1 0 11) 0,hV3,hs3]
  unfold Fr.tailP
  rw [if_neg oM,if_neg oM,if_neg oM,if_pos hz,Fr.runP_bind (numP 1 0 9) 0,hV4,hs4,Fr.runP_bind Fr.agesP [],hs5]
  try rfl
 refine ⟨by rw [e]; exact run_ret.1,fun pos h => ?_⟩
 rw [e,run_ret.2 pos h,hV5 pos h]
theorem endx3 {x:List UInt8} {V1:Int} {s1:Except (Int×Nat) Nat} (hV1:(runP Fr.kindP 0 x (.ok 0)).1=V1) (hs1:(runP Fr.kindP 0 x (.ok 0)).2=s1) {V2:Int} {s2:Except (Int×Nat) Nat} (hV2:(runP (numP 1 0 5) 0 x s1).1=V2) (hs2:(runP (numP 1 0 5) 0 x s1).2=s2) {V3:Int} {s3:Except (Int×Nat) Nat} (hV3:(runP (numP 1 0 11) 0 x s2).1=V3) (hs3:(runP (numP 1 0 11) 0 x s2).2=s3) {V4:Int} {s4:Except (Int×Nat) Nat} (hV4:(runP (numP 1 0 9) 0 x s3).1=V4) (hs4:(runP (numP 1 0 9) 0 x s3).2=s4) {V6:Int} {s6:Except (Int×Nat) Nat} (hV6:(runP (numP 1 0 1) 0 x s4).1=V6) (hs6:(runP (numP 1 0 1) 0 x s4).2=s6) {V7:Int} {s7:Except (Int×Nat) Nat} (hV7:(runP (numP 6 0 1099511627776) 0 x s6).1=V7) (hs7:(runP (numP 6 0 1099511627776) 0 x s6).2=s7) {V8:Int} {s8:Except (Int×Nat) Nat} (hV8:(runP Fr.offP 0 x s7).1=V8) (hs8:(runP Fr.offP 0 x s7).2=s8) (hz:V1=3):EndX x { Fr.bare V1 V2 V3 with link:=V4,flag:=(V6 == 1),cycle:=V7,offset:=V8 } s8:=by
 have e:runP Fr.frameX (Fr.bare 0 0 0) x (.ok 0)=runP (Fr.ret { Fr.bare V1 V2 V3 with link:=V4,flag:=(V6 == 1),cycle:=V7,offset:=V8 }) (Fr.bare 0 0 0) x s8:=by
  unfold Fr.frameX
  rw [Fr.runP_bind Fr.kindP 0,hV1,hs1,Fr.runP_bind (numP 1 0 5) 0,hV2,hs2,Fr.runP_bind (numP 1 0 11) 0,hV3,hs3]
  unfold Fr.tailP
  rw [if_neg oM,if_neg oM,if_pos hz,Fr.runP_bind (numP 1 0 9) 0,hV4,hs4,Fr.runP_bind (numP 1 0 1) 0,hV6,hs6,Fr.runP_bind (numP 6 0 1099511627776) 0,hV7,hs7,Fr.runP_bind Fr.offP 0,hV8,hs8]
  try rfl
 refine ⟨by rw [e]; exact run_ret.1,fun pos h => ?_⟩
 rw [e,run_ret.2 pos h]
theorem endx5 {x:List UInt8} {V1:Int} {s1:Except (Int×Nat) Nat} (hV1:(runP Fr.kindP 0 x (.ok 0)).1=V1) (hs1:(runP Fr.kindP 0 x (.ok 0)).2=s1) {V2:Int} {s2:Except (Int×Nat) Nat} (hV2:(runP (numP 1 0 5) 0 x s1).1=V2) (hs2:(runP (numP 1 0 5) 0 x s1).2=s2) {V3:Int} {s3:Except (Int×Nat) Nat} (hV3:(runP (numP 1 0 11) 0 x s2).1=V3) (hs3:(runP (numP 1 0 11) 0 x s2).2=s3) {V4:Int} {s4:Except (Int×Nat) Nat} (hV4:(runP (numP 1 0 9) 0 x s3).1=V4) (hs4:(runP (numP 1 0 9) 0 x s3).2=s4) {V9:Int} {s9:Except (Int×Nat) Nat} (hV9:(runP (numP 1 0 5) 0 x s4).1=V9) (hs9:(runP (numP 1 0 5) 0 x s4).2=s9) {V10:Int} {s10:Except (Int×Nat) Nat} (hV10:(runP (numP 1 0 5) 0 x s9).1=V10) (hs10:(runP (numP 1 0 5) 0 x s9).2=s10) {V11:Int} {s11:Except (Int×Nat) Nat} (hV11:(runP (numP 4 1 2147483648) 0 x s10).1=V11) (hs11:(runP (numP 4 1 2147483648) 0 x s10).2=s11) {V12:List UInt8} {s12:Except (Int×Nat) Nat} (hV12:∀ pos,s12 = .ok pos→V12=(runP Fr.bodyP [] x s11).1) (hs12:(runP Fr.bodyP [] x s11).2=s12) (hz:V1=5):EndX x { Fr.bare V1 V2 V3 with link:=V4,frm:=V9,to:=V10,seq:=V11,body:=V12 } s12:=by
 have e:runP Fr.frameX (Fr.bare 0 0 0) x (.ok 0)=runP (Fr.ret { Fr.bare V1 V2 V3 with link:=V4,frm:=V9,to:=V10,seq:=V11,body:=(runP Fr.bodyP [] x s11).1 }) (Fr.bare 0 0 0) x s12:=by
  unfold Fr.frameX
  rw [Fr.runP_bind Fr.kindP 0,hV1,hs1,Fr.runP_bind (numP 1 0 5) 0,hV2,hs2,Fr.runP_bind (numP 1 0 11) 0,hV3,hs3]
  unfold Fr.tailP
  rw [if_neg oM,if_neg oM,if_neg oM,if_neg oM,Fr.runP_bind (numP 1 0 9) 0,hV4,hs4,Fr.runP_bind (numP 1 0 5) 0,hV9,hs9,Fr.runP_bind (numP 1 0 5) 0,hV10,hs10,Fr.runP_bind (numP 4 1 2147483648) 0,hV11,hs11,Fr.runP_bind Fr.bodyP [],hs12]
  try rfl
 refine ⟨by rw [e]; exact run_ret.1,fun pos h => ?_⟩
 rw [e,run_ret.2 pos h,← hV12 pos h]
theorem endx1 {x:List UInt8} {V1:Int} {s1:Except (Int×Nat) Nat} (hV1:(runP Fr.kindP 0 x (.ok 0)).1=V1) (hs1:(runP Fr.kindP 0 x (.ok 0)).2=s1) {V2:Int} {s2:Except (Int×Nat) Nat} (hV2:(runP (numP 1 0 5) 0 x s1).1=V2) (hs2:(runP (numP 1 0 5) 0 x s1).2=s2) {V3:Int} {s3:Except (Int×Nat) Nat} (hV3:(runP (numP 1 0 11) 0 x s2).1=V3) (hs3:(runP (numP 1 0 11) 0 x s2).2=s3) {V13:Int} {s13:Except (Int×Nat) Nat} (hV13:(runP (numP 2 0 60000) 0 x s3).1=V13) (hs13:(runP (numP 2 0 60000) 0 x s3).2=s13) (hz:V1=1):EndX x { Fr.bare V1 V2 V3 with wait:=V13 } s13:=by
 have e:runP Fr.frameX (Fr.bare 0 0 0) x (.ok 0)=runP (Fr.ret { Fr.bare V1 V2 V3 with wait:=V13 }) (Fr.bare 0 0 0) x s13:=by
  unfold Fr.frameX
  rw [Fr.runP_bind Fr.kindP 0,hV1,hs1,Fr.runP_bind (numP 1 0 5) 0,hV2,hs2,Fr.runP_bind (numP 1 0 11) 0,hV3,hs3]
  unfold Fr.tailP
  rw [if_pos hz,Fr.runP_bind (numP 2 0 60000) 0,hV13,hs13]
  try rfl
 refine ⟨by rw [e]; exact run_ret.1,fun pos h => ?_⟩
 rw [e,run_ret.2 pos h]
theorem endx2 {x:List UInt8} {V1:Int} {s1:Except (Int×Nat) Nat} (hV1:(runP Fr.kindP 0 x (.ok 0)).1=V1) (hs1:(runP Fr.kindP 0 x (.ok 0)).2=s1) {V2:Int} {s2:Except (Int×Nat) Nat} (hV2:(runP (numP 1 0 5) 0 x s1).1=V2) (hs2:(runP (numP 1 0 5) 0 x s1).2=s2) {V3:Int} {s3:Except (Int×Nat) Nat} (hV3:(runP (numP 1 0 11) 0 x s2).1=V3) (hs3:(runP (numP 1 0 11) 0 x s2).2=s3) {V14:Int} {s14:Except (Int×Nat) Nat} (hV14:(runP (numP 6 0 1099511627776) 0 x s3).1=V14) (hs14:(runP (numP 6 0 1099511627776) 0 x s3).2=s14) {V15:Int} {s15:Except (Int×Nat) Nat} (hV15:(runP (numP 2 0 4095) 0 x s14).1=V15) (hs15:(runP (numP 2 0 4095) 0 x s14).2=s15) {V16:List Int} {s16:Except (Int×Nat) Nat} (hV16:∀ pos,s16 = .ok pos→(runP Fr.agesP [] x s15).1=V16) (hs16:(runP Fr.agesP [] x s15).2=s16) (hz:V1=2):EndX x { Fr.bare V1 V2 V3 with cycle:=V14,mask:=V15,ages:=V16 } s16:=by
 have e:runP Fr.frameX (Fr.bare 0 0 0) x (.ok 0)=runP (Fr.ret { Fr.bare V1 V2 V3 with cycle:=V14,mask:=V15,ages:=(runP Fr.agesP [] x s15).1 }) (Fr.bare 0 0 0) x s16:=by
  unfold Fr.frameX
  rw [Fr.runP_bind Fr.kindP 0,hV1,hs1,Fr.runP_bind (numP 1 0 5) 0,hV2,hs2,Fr.runP_bind (numP 1 0 11) 0,hV3,hs3]
  unfold Fr.tailP
  rw [if_neg oM,if_pos hz,Fr.runP_bind (numP 6 0 1099511627776) 0,hV14,hs14,Fr.runP_bind (numP 2 0 4095) 0,hV15,hs15,Fr.runP_bind Fr.agesP [],hs16]
  try rfl
 refine ⟨by rw [e]; exact run_ret.1,fun pos h => ?_⟩
 rw [e,run_ret.2 pos h,hV16 pos h]
theorem frame_pi0 (e:Nat→Addr) (x:List UInt8) (hx:x.length≤1000000) (p:Nat) (bad:Bool) (o:Option (Int×Nat)) (hS:SO e x (.ok 0) (rmem e x p bad o)) (hx1:1≤x.length):PI Tryz.prog (errG4 e) 121 [D.p 2 0 0 0] (rmem e x p bad o) (fun d m=>∃ A B F s',Fr.AgD A F.ages∧Fr.ByD B F.body∧EndX x F s'∧d=D.r (Fr.frC F A B)∧SO e x s' (m.take 3)):=by
 refine PI.of (N:=66) Tryz.func121 rfl rfl (Nat.le_of_ble_eq_true rfl) ?_
 refine PW.a [0,2] 4 (PW.w 1 [0,2,4] 4 (PL.ci (PI.frame [fr0] (kind_pi e x hx hx1 hS) (fun _ _ ⟨_,_,_,_,_,h⟩=>h.len)) ?_))
 rintro _ _ ⟨_,rfl,V1,s1,hV1,hs1,rfl,hS1⟩
 obtain ⟨p1,bad1,o1,rfl,hp1,hq1,hb1⟩:=id hS1
 refine PL.sl [0,2,5] 4 (PL.n 3 [0,2,3] 5 (PW.w 1 [0,2,3,7] 5 (PL.ci (PI.frame [fr0,Obj.var 25 [I V1,I 0,I 0,I 0,I 0,I 0,D.v (.bool false),I 0,I 0,D.v (.slice none 0 0),I 0,I 0,I 0,D.v (.slice none 0 0)]] (below_pi e x hx 6 5 ⟨by decide,by decide⟩ rfl hS1) (fun _ _ ⟨_,_,_,_,_,h⟩=>h.len)) ?_)))
 rintro _ _ ⟨_,rfl,V2,s2,hV2,hs2,rfl,hS2⟩
 obtain ⟨p2,bad2,o2,rfl,hp2,hq2,hb2⟩:=id hS2
 refine PL.sl [0,2,3,8] 5 (PL.n 2 [0,2,3] 5 (PW.w 1 [0,2,3,10] 5 (PL.ci (PI.frame [fr0,Obj.var 25 [I V1,I V2,I 0,I 0,I 0,I 0,D.v (.bool false),I 0,I 0,D.v (.slice none 0 0),I 0,I 0,I 0,D.v (.slice none 0 0)]] (below_pi e x hx 12 11 ⟨by decide,by decide⟩ rfl hS2) (fun _ _ ⟨_,_,_,_,_,h⟩=>h.len)) ?_)))
 rintro _ _ ⟨_,rfl,V3,s3,hV3,hs3,rfl,hS3⟩
 obtain ⟨p3,bad3,o3,rfl,hp3,hq3,hb3⟩:=id hS3
 refine PL.sl [0,2,3,11] 5 (PL.n 2 [0,2,3] 5 (PW.seq (PW.w 2 [0,2,3,14] 5 (PL.gc (G:=(errG4 e)) (A:=[]) (fun _=>PC.more (linked_pc V1)) (PL.nl (PW.cd (decide (3≤V1∧V1≤5)) ?_ ?_)))))) <;> intro hz0 <;> try simp only [boolS] at hz0
 ·refine PW.region (PL.a 1 [0,2,3,16] 5 (PL.ci (PI.frame [fr0,Obj.var 25 [I V1,I V2,I V3,I 0,I 0,I 0,D.v (.bool false),I 0,I 0,D.v (.slice none 0 0),I 0,I 0,I 0,D.v (.slice none 0 0)]] (below_pi e x hx 10 9 ⟨by decide,by decide⟩ rfl hS3) (fun _ _ ⟨_,_,_,_,_,h⟩=>h.len)) ?_))
  rintro _ _ ⟨_,rfl,V4,s4,hV4,hs4,rfl,hS4⟩
  obtain ⟨p4,bad4,o4,rfl,hp4,hq4,hb4⟩:=id hS4
  refine PL.sl [0,2,3,17] 5 (PL.a 2 [0,2,3] 5 (PL.nil ?_))
  show PW _ _ _ _ _
  refine PW.q [0,2,3,20] 5 (PW.block (PW.seq (PW.block (PW.seq (PW.block (PW.seq (PW.block ?_)))))))
  refine PW.seq (PW.block (PW.seq (PW.block (PW.seq (PW.q [0,2,3,20,21] 5 (PW.cd (V1 == (1:Int)) ?_ ?_)))))) <;> intro hz1 <;> try simp only [boolS] at hz1
  ·refine PW.e (PW.seq ?_)
   (exfalso; omega)
  ·refine PW.k (PW.q [0,2,3,20,23] 5 (PW.cd (V1 == (2:Int)) ?_ ?_)) <;> intro hz2 <;> try simp only [boolS] at hz2
   ·refine PW.e (PW.seq ?_)
    (exfalso; omega)
   ·refine PW.k (PW.q [0,2,3,20,25] 5 (PW.cd (V1 == (4:Int)) ?_ ?_)) <;> intro hz3 <;> try simp only [boolS] at hz3
    ·refine PW.e (PW.seq (PW.region (PL.a 1 [2,3,40] 5 (PL.ci (PI.frame [fr0,Obj.var 25 [I V1,I V2,I V3,I 0,I 0,I V4,D.v (.bool false),I 0,I 0,D.v (.slice none 0 0),I 0,I 0,I 0,D.v (.slice none 0 0)]] (ages_pi e x hx hS4) (fun _ _ ⟨_,_,_,_,_,_,h⟩=>h.len)) ?_))))
     rintro _ _ ⟨_,rfl,V5,s5,hV5,hs5,hW5,rfl,hS5⟩
     obtain ⟨p5,bad5,o5,rfl,hp5,hq5,hb5⟩:=id hS5
     refine PL.sl [2,3,41] 5 (PL.a 2 [2,3] 5 (PL.nil ?_))
     show PW _ _ _ _ _
     refine PW.e (PW.seq (PW.region (PL.a 2 [2] 5 (PL.nil ?_))))
     show PW _ _ _ _ _
     refine PW.ret ?_
     repeat (first|with_reducible refine thenD_ret ?_|with_reducible refine inBlockD_ret ?_)
     refine retI_r (d:=D.r [I V1,I V2,I V3,I 0,I 0,I V4,D.v (.bool false),I 0,I 0,sl' 1 (fun x=>[I x]) V5,I 0,I 0,I 0,D.v (.slice none 0 0)]) (ps:=[]) (mem:=(rmem e x p5 bad5 o5++[Obj.var 25 [I V1,I V2,I V3,I 0,I 0,I V4,D.v (.bool false),I 0,I 0,sl' 1 (fun x=>[I x]) V5,I 0,I 0,I 0,D.v (.slice none 0 0)],Obj.var 25 [I V1,I V2,I V3,I 0,I 0,I V4,D.v (.bool false),I 0,I 0,sl' 1 (fun x=>[I x]) V5,I 0,I 0,I 0,D.v (.slice none 0 0)]])) trivial ?_
     exact ⟨_,_,_,_,(.inl rfl),(.inr ⟨rfl,rfl⟩),endx4 hV1 hs1 hV2 hs2 hV3 hs3 hV4 hs4 hV5 hs5 oM,rfl,hS5⟩
    ·refine PW.k (PW.q [0,2,3,20,27] 5 (PW.cd (V1 == (3:Int)) ?_ ?_)) <;> intro hz4 <;> try simp only [boolS] at hz4
     ·refine PW.e (PW.seq (PW.seq (PW.region (PL.a 1 [0,2,3,43] 5 (PL.ci (PI.frame [fr0,Obj.var 25 [I V1,I V2,I V3,I 0,I 0,I V4,D.v (.bool false),I 0,I 0,D.v (.slice none 0 0),I 0,I 0,I 0,D.v (.slice none 0 0)]] (plain_pi e x hx (k:=1) 0 1 ⟨by decide,by decide⟩ hS4) (fun _ _ ⟨_,_,_,_,_,h⟩=>h.len)) ?_)))))
      rintro _ _ ⟨_,rfl,V6,s6,hV6,hs6,rfl,hS6⟩
      obtain ⟨p6,bad6,o6,rfl,hp6,hq6,hb6⟩:=id hS6
      refine PL.sl [0,2,3,44] 5 (PL.a 3 [0,2,3] 5 (PL.nil ?_))
      show PW _ _ _ _ _
      refine PW.w 1 [0,2,3,47] 5 (PL.ci (PI.frame [fr0,Obj.var 25 [I V1,I V2,I V3,I 0,I 0,I V4,D.v (.bool (V6 == (1:Int))),I 0,I 0,D.v (.slice none 0 0),I 0,I 0,I 0,D.v (.slice none 0 0)]] (plain_pi e x hx (k:=6) 0 1099511627776 ⟨by decide,by decide⟩ hS6) (fun _ _ ⟨_,_,_,_,_,h⟩=>h.len)) ?_)
      rintro _ _ ⟨_,rfl,V7,s7,hV7,hs7,rfl,hS7⟩
      obtain ⟨p7,bad7,o7,rfl,hp7,hq7,hb7⟩:=id hS7
      refine PL.sl [0,2,3,48] 5 (PL.n 2 [0,2,3] 5 (PW.region (PL.a 1 [2,3,50] 5 (PL.ci (PI.frame [fr0,Obj.var 25 [I V1,I V2,I V3,I 0,I 0,I V4,D.v (.bool (V6 == (1:Int))),I V7,I 0,D.v (.slice none 0 0),I 0,I 0,I 0,D.v (.slice none 0 0)]] (offset_pi e x hx hS7) (fun _ _ ⟨_,_,_,_,_,h⟩=>h.len)) ?_))))
      rintro _ _ ⟨_,rfl,V8,s8,hV8,hs8,rfl,hS8⟩
      obtain ⟨p8,bad8,o8,rfl,hp8,hq8,hb8⟩:=id hS8
      refine PL.sl [2,3,51] 5 (PL.a 2 [2,3] 5 (PL.nil ?_))
      show PW _ _ _ _ _
      refine PW.e (PW.seq (PW.region (PL.a 2 [2] 5 (PL.nil ?_))))
      show PW _ _ _ _ _
      refine PW.ret ?_
      repeat (first|with_reducible refine thenD_ret ?_|with_reducible refine inBlockD_ret ?_)
      refine retI_r (d:=D.r [I V1,I V2,I V3,I 0,I 0,I V4,D.v (.bool (V6 == (1:Int))),I V7,I V8,D.v (.slice none 0 0),I 0,I 0,I 0,D.v (.slice none 0 0)]) (ps:=[]) (mem:=(rmem e x p8 bad8 o8++[Obj.var 25 [I V1,I V2,I V3,I 0,I 0,I V4,D.v (.bool (V6 == (1:Int))),I V7,I V8,D.v (.slice none 0 0),I 0,I 0,I 0,D.v (.slice none 0 0)],Obj.var 25 [I V1,I V2,I V3,I 0,I 0,I V4,D.v (.bool (V6 == (1:Int))),I V7,I V8,D.v (.slice none 0 0),I 0,I 0,I 0,D.v (.slice none 0 0)]])) trivial ?_
      exact ⟨_,_,_,_,(.inr ⟨rfl,rfl⟩),(.inr ⟨rfl,rfl⟩),endx3 hV1 hs1 hV2 hs2 hV3 hs3 hV4 hs4 hV6 hs6 hV7 hs7 hV8 hs8 oM,rfl,hS8⟩
     ·refine PW.k (PW.a [0,2,3,29] 5 (PW.cd (V1 == (5:Int)) ?_ ?_)) <;> intro hz5 <;> try simp only [boolS] at hz5
      ·refine PW.e (PW.seq (PW.seq (PW.region (PL.a 1 [0,2,3,53] 5 (PL.ci (PI.frame [fr0,Obj.var 25 [I V1,I V2,I V3,I 0,I 0,I V4,D.v (.bool false),I 0,I 0,D.v (.slice none 0 0),I 0,I 0,I 0,D.v (.slice none 0 0)]] (below_pi e x hx 6 5 ⟨by decide,by decide⟩ rfl hS4) (fun _ _ ⟨_,_,_,_,_,h⟩=>h.len)) ?_)))))
       rintro _ _ ⟨_,rfl,V9,s9,hV9,hs9,rfl,hS9⟩
       obtain ⟨p9,bad9,o9,rfl,hp9,hq9,hb9⟩:=id hS9
       refine PL.sl [0,2,3,54] 5 (PL.a 2 [0,2,3] 5 (PL.nil ?_))
       show PW _ _ _ _ _
       refine PW.w 1 [0,2,3,56] 5 (PL.ci (PI.frame [fr0,Obj.var 25 [I V1,I V2,I V3,I 0,I 0,I V4,D.v (.bool false),I 0,I 0,D.v (.slice none 0 0),I V9,I 0,I 0,D.v (.slice none 0 0)]] (below_pi e x hx 6 5 ⟨by decide,by decide⟩ rfl hS9) (fun _ _ ⟨_,_,_,_,_,h⟩=>h.len)) ?_)
       rintro _ _ ⟨_,rfl,V10,s10,hV10,hs10,rfl,hS10⟩
       obtain ⟨p10,bad10,o10,rfl,hp10,hq10,hb10⟩:=id hS10
       refine PL.sl [0,2,3,57] 5 (PL.n 2 [0,2,3] 5 (PW.w 1 [0,2,3,59] 5 (PL.ci (PI.frame [fr0,Obj.var 25 [I V1,I V2,I V3,I 0,I 0,I V4,D.v (.bool false),I 0,I 0,D.v (.slice none 0 0),I V9,I V10,I 0,D.v (.slice none 0 0)]] (plain_pi e x hx (k:=4) 1 2147483648 ⟨by decide,by decide⟩ hS10) (fun _ _ ⟨_,_,_,_,_,h⟩=>h.len)) ?_)))
       rintro _ _ ⟨_,rfl,V11,s11,hV11,hs11,rfl,hS11⟩
       obtain ⟨p11,bad11,o11,rfl,hp11,hq11,hb11⟩:=id hS11
       refine PL.sl [0,2,3,60] 5 (PL.n 2 [0,2,3] 5 (PW.region (PL.a 1 [2,3,62] 5 (PL.ci (PI.frame [fr0,Obj.var 25 [I V1,I V2,I V3,I 0,I 0,I V4,D.v (.bool false),I 0,I 0,D.v (.slice none 0 0),I V9,I V10,I V11,D.v (.slice none 0 0)]] (body_pi e x hx hS11) (fun _ _ ⟨_,_,_,_,_,h⟩=>h.len)) ?_))))
       rintro _ _ ⟨_,rfl,V12,s12,hV12,hs12,rfl,hS12⟩
       obtain ⟨p12,bad12,o12,rfl,hp12,hq12,hb12⟩:=id hS12
       refine PL.sl [2,3,63] 5 (PL.a 2 [2,3] 5 (PL.nil ?_))
       show PW _ _ _ _ _
       refine PW.e (PW.seq (PW.region (PL.a 2 [2] 5 (PL.nil ?_))))
       show PW _ _ _ _ _
       refine PW.ret ?_
       repeat (first|with_reducible refine thenD_ret ?_|with_reducible refine inBlockD_ret ?_)
       refine retI_r (d:=D.r [I V1,I V2,I V3,I 0,I 0,I V4,D.v (.bool false),I 0,I 0,D.v (.slice none 0 0),I V9,I V10,I V11,bytesD V12]) (ps:=[]) (mem:=(rmem e x p12 bad12 o12++[Obj.var 25 [I V1,I V2,I V3,I 0,I 0,I V4,D.v (.bool false),I 0,I 0,D.v (.slice none 0 0),I V9,I V10,I V11,bytesD V12],Obj.var 25 [I V1,I V2,I V3,I 0,I 0,I V4,D.v (.bool false),I 0,I 0,D.v (.slice none 0 0),I V9,I V10,I V11,bytesD V12]])) trivial ?_
       exact ⟨_,_,_,_,(.inr ⟨rfl,rfl⟩),(.inl rfl),endx5 hV1 hs1 hV2 hs2 hV3 hs3 hV4 hs4 hV9 hs9 hV10 hs10 hV11 hs11 hV12 hs12 oM,rfl,hS12⟩
      ·refine PW.k ?_
       refine PW.e (PW.seq ?_)
       (exfalso; omega)
 ·refine PW.k (PW.q [0,2,3,20] 5 (PW.block (PW.seq (PW.block (PW.seq (PW.block (PW.seq ?_)))))))
  refine PW.block (PW.seq (PW.block (PW.seq (PW.block (PW.seq (PW.q [0,2,3,20,21] 5 (PW.cd (V1 == (1:Int)) ?_ ?_))))))) <;> intro hz6 <;> try simp only [boolS] at hz6
  ·refine PW.e (PW.seq (PW.region (PL.a 1 [2,3,31] 5 (PL.ci (PI.frame [fr0,Obj.var 25 [I V1,I V2,I V3,I 0,I 0,I 0,D.v (.bool false),I 0,I 0,D.v (.slice none 0 0),I 0,I 0,I 0,D.v (.slice none 0 0)]] (plain_pi e x hx (k:=2) 0 60000 ⟨by decide,by decide⟩ hS3) (fun _ _ ⟨_,_,_,_,_,h⟩=>h.len)) ?_))))
   rintro _ _ ⟨_,rfl,V13,s13,hV13,hs13,rfl,hS13⟩
   obtain ⟨p13,bad13,o13,rfl,hp13,hq13,hb13⟩:=id hS13
   refine PL.sl [2,3,32] 5 (PL.a 2 [2,3] 5 (PL.nil ?_))
   show PW _ _ _ _ _
   refine PW.e (PW.seq (PW.region (PL.a 2 [2] 5 (PL.nil ?_))))
   show PW _ _ _ _ _
   refine PW.ret ?_
   repeat (first|with_reducible refine thenD_ret ?_|with_reducible refine inBlockD_ret ?_)
   refine retI_r (d:=D.r [I V1,I V2,I V3,I V13,I 0,I 0,D.v (.bool false),I 0,I 0,D.v (.slice none 0 0),I 0,I 0,I 0,D.v (.slice none 0 0)]) (ps:=[]) (mem:=(rmem e x p13 bad13 o13++[Obj.var 25 [I V1,I V2,I V3,I V13,I 0,I 0,D.v (.bool false),I 0,I 0,D.v (.slice none 0 0),I 0,I 0,I 0,D.v (.slice none 0 0)],Obj.var 25 [I V1,I V2,I V3,I V13,I 0,I 0,D.v (.bool false),I 0,I 0,D.v (.slice none 0 0),I 0,I 0,I 0,D.v (.slice none 0 0)]])) trivial ?_
   exact ⟨_,_,_,_,(.inr ⟨rfl,rfl⟩),(.inr ⟨rfl,rfl⟩),endx1 hV1 hs1 hV2 hs2 hV3 hs3 hV13 hs13 oM,rfl,hS13⟩
  ·refine PW.k (PW.q [0,2,3,20,23] 5 (PW.cd (V1 == (2:Int)) ?_ ?_)) <;> intro hz7 <;> try simp only [boolS] at hz7
   ·refine PW.e (PW.seq (PW.region (PL.a 1 [0,2,3,34] 5 (PL.ci (PI.frame [fr0,Obj.var 25 [I V1,I V2,I V3,I 0,I 0,I 0,D.v (.bool false),I 0,I 0,D.v (.slice none 0 0),I 0,I 0,I 0,D.v (.slice none 0 0)]] (plain_pi e x hx (k:=6) 0 1099511627776 ⟨by decide,by decide⟩ hS3) (fun _ _ ⟨_,_,_,_,_,h⟩=>h.len)) ?_))))
    rintro _ _ ⟨_,rfl,V14,s14,hV14,hs14,rfl,hS14⟩
    obtain ⟨p14,bad14,o14,rfl,hp14,hq14,hb14⟩:=id hS14
    refine PL.sl [0,2,3,35] 5 (PL.a 2 [0,2,3] 5 (PL.nil ?_))
    show PW _ _ _ _ _
    refine PW.region (PL.a 1 [0,2,3,37] 5 (PL.ci (PI.frame [fr0,Obj.var 25 [I V1,I V2,I V3,I 0,I 0,I 0,D.v (.bool false),I V14,I 0,D.v (.slice none 0 0),I 0,I 0,I 0,D.v (.slice none 0 0)]] (plain_pi e x hx (k:=2) 0 4095 ⟨by decide,by decide⟩ hS14) (fun _ _ ⟨_,_,_,_,_,h⟩=>h.len)) ?_))
    rintro _ _ ⟨_,rfl,V15,s15,hV15,hs15,rfl,hS15⟩
    obtain ⟨p15,bad15,o15,rfl,hp15,hq15,hb15⟩:=id hS15
    refine PL.sl [0,2,3,38] 5 (PL.a 2 [0,2,3] 5 (PL.nil ?_))
    show PW _ _ _ _ _
    refine PW.seq (PW.region (PL.a 1 [2,3,40] 5 (PL.ci (PI.frame [fr0,Obj.var 25 [I V1,I V2,I V3,I 0,I V15,I 0,D.v (.bool false),I V14,I 0,D.v (.slice none 0 0),I 0,I 0,I 0,D.v (.slice none 0 0)]] (ages_pi e x hx hS15) (fun _ _ ⟨_,_,_,_,_,_,h⟩=>h.len)) ?_)))
    rintro _ _ ⟨_,rfl,V16,s16,hV16,hs16,hW16,rfl,hS16⟩
    obtain ⟨p16,bad16,o16,rfl,hp16,hq16,hb16⟩:=id hS16
    refine PL.sl [2,3,41] 5 (PL.a 2 [2,3] 5 (PL.nil ?_))
    show PW _ _ _ _ _
    refine PW.e (PW.seq (PW.region (PL.a 2 [2] 5 (PL.nil ?_))))
    show PW _ _ _ _ _
    refine PW.ret ?_
    repeat (first|with_reducible refine thenD_ret ?_|with_reducible refine inBlockD_ret ?_)
    refine retI_r (d:=D.r [I V1,I V2,I V3,I 0,I V15,I 0,D.v (.bool false),I V14,I 0,sl' 1 (fun x=>[I x]) V16,I 0,I 0,I 0,D.v (.slice none 0 0)]) (ps:=[]) (mem:=(rmem e x p16 bad16 o16++[Obj.var 25 [I V1,I V2,I V3,I 0,I V15,I 0,D.v (.bool false),I V14,I 0,sl' 1 (fun x=>[I x]) V16,I 0,I 0,I 0,D.v (.slice none 0 0)],Obj.var 25 [I V1,I V2,I V3,I 0,I V15,I 0,D.v (.bool false),I V14,I 0,sl' 1 (fun x=>[I x]) V16,I 0,I 0,I 0,D.v (.slice none 0 0)]])) trivial ?_
    exact ⟨_,_,_,_,(.inl rfl),(.inr ⟨rfl,rfl⟩),endx2 hV1 hs1 hV2 hs2 hV3 hs3 hV14 hs14 hV15 hs15 hV16 hs16 oM,rfl,hS16⟩
   ·refine PW.k (PW.q [0,2,3,20,25] 5 (PW.cd (V1 == (4:Int)) ?_ ?_)) <;> intro hz8 <;> try simp only [boolS] at hz8
    ·refine PW.e (PW.seq ?_)
     (exfalso; omega)
    ·refine PW.k (PW.q [0,2,3,20,27] 5 (PW.cd (V1 == (3:Int)) ?_ ?_)) <;> intro hz9 <;> try simp only [boolS] at hz9
     ·refine PW.e (PW.seq (PW.seq ?_))
      (exfalso; omega)
     ·refine PW.k (PW.a [0,2,3,29] 5 (PW.cd (V1 == (5:Int)) ?_ ?_)) <;> intro hz10 <;> try simp only [boolS] at hz10
      ·refine PW.e (PW.seq (PW.seq ?_))
       (exfalso; omega)
      ·refine PW.k ?_
       refine PW.e (PW.seq (PW.region (PL.a 2 [2] 5 (PL.nil ?_))))
       show PW _ _ _ _ _
       refine PW.ret ?_
       repeat (first|with_reducible refine thenD_ret ?_|with_reducible refine inBlockD_ret ?_)
       refine retI_r (d:=D.r [I V1,I V2,I V3,I 0,I 0,I 0,D.v (.bool false),I 0,I 0,D.v (.slice none 0 0),I 0,I 0,I 0,D.v (.slice none 0 0)]) (ps:=[]) (mem:=(rmem e x p3 bad3 o3++[Obj.var 25 [I V1,I V2,I V3,I 0,I 0,I 0,D.v (.bool false),I 0,I 0,D.v (.slice none 0 0),I 0,I 0,I 0,D.v (.slice none 0 0)],Obj.var 25 [I V1,I V2,I V3,I 0,I 0,I 0,D.v (.bool false),I 0,I 0,D.v (.slice none 0 0),I 0,I 0,I 0,D.v (.slice none 0 0)]])) trivial ?_
       exact ⟨.v (.slice none 0 0),.v (.slice none 0 0),Fr.bare V1 V2 V3,_,.inr ⟨rfl,rfl⟩,.inr ⟨rfl,rfl⟩,endx0 hV1 hs1 hs2 hs3 oM _,rfl,hS3⟩
theorem frC_frD {w:World} {ok:Nat→Prop} {ρ : Own} {F:Fr.Frame} {A B:D} {v:Value} (hA:Fr.AgD A F.ages) (hB:Fr.ByD B F.body) (h:RepO w ok ρ (.r (Fr.frC F A B)) v):RepO w ok ρ (.r (Fr.frD F)) v:=by
 have hc:RepC w ok (.r (Fr.frC F A B)) v:=by
  obtain ⟨vs,rfl,hl,hd⟩:=repO_r h
  exact .r hl fun j d u a b=>(hd j d u a b).shut (by
   match j,a with
   | 0,a|1,a|2,a|3,a|4,a|5,a|6,a|7,a|8,a|10,a|11,a|12,a=>cases a; rfl
   | 9,a=>cases a; rcases hA with rfl|⟨rfl,_⟩ <;> rfl
   | 13,a=>cases a; rcases hB with rfl|⟨rfl,_⟩ <;> rfl
   | j+14,a=>exact absurd a (by simp [Fr.frC]))
 exact .one (.c (Fr.rep_frD hA hB hc))
theorem frame_pi (e:Nat→Addr) (x:List UInt8) (hx:x.length≤1000000) (hx1:1≤x.length) (h:SO e x (.ok 0) (rmem e x 0 false none)):PI Tryz.prog (errG4 e) 121 [D.p 2 0 0 0] [fr0,wob x 0 false,.var 181 [.p 1 0 0 0,.v .nilIface]] (fun d m=>∃ F s',EndX x F s'∧d=D.r (Fr.frD F)∧SO e x s' m):=by
 have h1:=PI.drop (R':=fun d m=>∃ A B F s',Fr.AgD A F.ages∧Fr.ByD B F.body∧EndX x F s'∧d=D.r (Fr.frC F A B)∧SO e x s' m) 3 (frame_pi0 e x hx 0 false none h hx1) (Nat.le_refl _) fun d m ⟨A,B,F,s',h1,h2,h3,h4,h5⟩=>⟨⟨A,B,F,s',h1,h2,h3,h4,h5⟩,by
  subst h4
  rcases h1 with rfl|⟨rfl,_⟩ <;> rcases h2 with rfl|⟨rfl,_⟩ <;> rfl,by
  obtain ⟨p,bad,o,e1,_⟩:=h5
  rw [e1]
  rfl⟩
 have h2:=PI.coarseM (R':=fun d m=>∃ F s',EndX x F s'∧d=D.r (Fr.frD F)∧SO e x s' m) h1 fun d m ⟨A,B,F,s',h1,h2,h3,h4,h5⟩=>⟨_,m,⟨F,s',h3,rfl,h5⟩,rfl,fun w ok ρ v hv=>by subst h4; exact frC_frD h1 h2 hv,fun κ w ρ b o' q1 q2=>q2 _ q1⟩
 refine fun κ w ρ vs q1 q2 q3 q4 q5=>h2 κ w ρ vs ⟨q1.len,q1.own,q1.nd,fun b o ho => ?_⟩ q2 q3 q4 q5
 match b,ho with
 | 0,ho=>exact q1.mem 0 _ ho
 | 1,ho=>exact q1.mem 1 _ ho
 | 2,ho =>
  injection ho with ho
  subst ho
  obtain ⟨gg,us,k1,k2,k3,k4⟩:=q1.mem 2 _ rfl
  refine ⟨gg,us,k1,k2,k3,fun j d v a b => ?_⟩
  match j,a with
  | 0,a=>exact k4 0 d v a b
  | 1,a =>
   injection a with a
   subst a
   have:=rep1_v (k4 1 _ v rfl b)
   subst this
   exact .c .e0
  | j+2,a=>exact absurd a (by simp)
 | b+3,ho=>exact absurd ho (by simp [rmem])
end Go.Proofs.YtdomlccfjnkbjaaGreatDoor.Pl
