/- Several texts in one: FrRd FrRd2 FrRd3 FrRd4. -/
import Derived.Test.YtdomlccfjnkbjaaGreatDoorRdDoc
import Derived.Test.YtdomlccfjnkbjaaGreatDoorFrAlive
import Derived.Test.YtdomlccfjnkbjaaGreatDoorDpC
namespace Go.Proofs.YtdomlccfjnkbjaaGreatDoor.Fr
open Go.RowKit Go.Proofs.YtdomlccfjnkbjaaGreatDoor.Sm Go.Proofs.YtdomlccfjnkbjaaGreatDoor.Wr Go.Proofs.YtdomlccfjnkbjaaGreatDoor.Dp
open Go.Proofs.YtdomlccfjnkbjaaGreatDoor.Pl (FO Rel fnumber_pm foffset_pm fages_pm fbody_pm openR_pc)
set_option maxHeartbeats 4000000
set_option maxRecDepth 100000
set_option linter.unusedVariables false
set_option linter.unusedSimpArgs false
def AgD (A:D) (l:List Int):Prop:=A=sl' 1 (fun x=>[I x]) l∨(A = .v (.slice none 0 0)∧l=[])
def ByD (A:D) (l:List UInt8):Prop:=A=bytesD l∨(A = .v (.slice none 0 0)∧l=[])
def RdX (x:List UInt8) (d:D):Prop:=∃ A B,AgD A (frOf (readX x)).ages∧ByD B (frOf (readX x)).body∧d = .t [.r (frC (frOf (readX x)) A B),I (noOf (errOf (readX x))),I (atOf (errOf (readX x)):Nat)]
theorem fo0 {x:List UInt8}:FO x (.ok 0) (.var 148 [bytesD x,I 0,.v (.bool false),I 0,I 0]):=⟨0,false,0,0,⟨rfl,rfl,rfl⟩,Nat.zero_le _,rfl⟩
structure End (x:List UInt8) (f:Frame) (s:Except (Int×Nat) Nat):Prop where
 run:(runP frameP (bare 0 0 0) x (.ok 0)).2=s
 val:∀ pos,s = .ok pos→(runP frameP (bare 0 0 0) x (.ok 0)).1=f
section
variable {x:List UInt8} {f:Frame} {s:Except (Int×Nat) Nat} {at_:Nat} {bad:Bool} {e p:Int} {A B:D}
theorem End.dec (h:End x f s) (hk:1≤num (x.take 1)∧num (x.take 1)≤5):readX x=match s with | .error z => .error z | .ok pos=>if pos<x.length then .error (3,pos) else .ok f:=by
 unfold readX
 rw [if_pos hk]
 obtain ⟨h1,h2⟩:=h
 cases hp:frameP x 0 with
 | error z =>
  rw [runP_error hp] at h1
  subst h1
  rfl
 | ok r =>
  rw [runP_ok hp] at h1 h2
  subst h1
  have h3:r.1=f:=h2 _ rfl
  show (if r.2<x.length then Except.error (3,r.2) else Except.ok r.1)=(if r.2<x.length then Except.error (3,r.2) else Except.ok f)
  rw [h3]
theorem rd_long (h:End x f s) (hk:1≤num (x.take 1)∧num (x.take 1)≤5) (hR:Rel s at_ bad e p) (he:e=0) (hlt:(at_:Int)<(x.length:Int)):RdX x (.t [.r (frC (bare 0 0 0) (.v (.slice none 0 0)) (.v (.slice none 0 0))),I 3,I at_]):=by
 have hd:=h.dec hk
 cases s with
 | error z=>exact absurd (hR.2.1▸he) hR.1
 | ok pos =>
  obtain ⟨rfl,_,_⟩:=hR
  have hd:readX x = .error (3,at_):=hd.trans (if_pos oM)
  unfold RdX
  rw [hd]
  exact ⟨_,_,.inr ⟨rfl,rfl⟩,.inr ⟨rfl,rfl⟩,rfl⟩
theorem rd_err (h:End x f s) (hk:1≤num (x.take 1)∧num (x.take 1)≤5) (hR:Rel s at_ bad e p) (he:e≠0):RdX x (.t [.r (frC (bare 0 0 0) (.v (.slice none 0 0)) (.v (.slice none 0 0))),I e,I p]):=by
 have hd:=h.dec hk
 cases s with
 | ok pos=>exact absurd hR.2.2 he
 | error z =>
  obtain ⟨_,rfl,rfl⟩:=hR
  have hd:readX x = .error z:=hd
  unfold RdX
  rw [hd]
  exact ⟨_,_,.inr ⟨rfl,rfl⟩,.inr ⟨rfl,rfl⟩,rfl⟩
theorem rd_ok (h:End x f s) (hk:1≤num (x.take 1)∧num (x.take 1)≤5) (hR:Rel s at_ bad e p) (he:e=0) (hlt:¬ (at_:Int)<(x.length:Int)) (hA:AgD A f.ages) (hB:ByD B f.body):RdX x (.t [.r (frC f A B),I 0,I 0]):=by
 have hd:=h.dec hk
 cases s with
 | error z=>exact absurd (hR.2.1▸he) hR.1
 | ok pos =>
  obtain ⟨rfl,_,_⟩:=hR
  have hd:readX x = .ok f:=hd.trans (if_neg oM)
  unfold RdX
  rw [hd]
  exact ⟨_,_,hA,hB,rfl⟩
theorem runP_ret {a d:Frame}:(runP (ret a) d x s).2=s∧∀ pos,s = .ok pos→(runP (ret a) d x s).1=a:=by
 cases s with
 | error z=>exact ⟨rfl,fun pos h=>by cases h⟩
 | ok pos=>exact ⟨rfl,fun _ _=>rfl⟩
theorem kind_in (hk:1≤num (x.take 1)∧num (x.take 1)≤5) (hx:1≤x.length):runP (numP 1 1 5) 0 x (.ok 0)=((num (x.take 1):Int),.ok 1):=by
 refine runP_ok (r:=((num (x.take 1):Int),1)) ?_
 unfold numP
 rw [if_neg oM,List.drop_zero,if_pos oM]
end
theorem end1 {x:List UInt8} {V1:Int} {s1:Except (Int×Nat) Nat} (hV1:(runP (numP 1 1 5) 0 x (.ok 0)).1=V1) (hs1:(runP (numP 1 1 5) 0 x (.ok 0)).2=s1) {V2:Int} {s2:Except (Int×Nat) Nat} (hV2:(runP (numP 1 0 5) 0 x s1).1=V2) (hs2:(runP (numP 1 0 5) 0 x s1).2=s2) {V3:Int} {s3:Except (Int×Nat) Nat} (hV3:(runP (numP 1 0 11) 0 x s2).1=V3) (hs3:(runP (numP 1 0 11) 0 x s2).2=s3) {V4:Int} {s4:Except (Int×Nat) Nat} (hV4:(runP (numP 2 0 60000) 0 x s3).1=V4) (hs4:(runP (numP 2 0 60000) 0 x s3).2=s4) (hz:V1=1):End x { bare V1 V2 V3 with wait:=V4 } s4:=by
 have e:runP frameP (bare 0 0 0) x (.ok 0)=runP (ret { bare V1 V2 V3 with wait:=V4 }) (bare 0 0 0) x s4:=by
  unfold frameP
  rw [runP_bind (numP 1 1 5) 0,hV1,hs1,runP_bind (numP 1 0 5) 0,hV2,hs2,runP_bind (numP 1 0 11) 0,hV3,hs3]
  unfold tailP
  rw [if_pos hz,runP_bind (numP 2 0 60000) 0,hV4,hs4]
  try rfl
 refine ⟨by rw [e]; exact runP_ret.1,fun pos h => ?_⟩
 rw [e,runP_ret.2 pos h]
theorem end2 {x:List UInt8} {V1:Int} {s1:Except (Int×Nat) Nat} (hV1:(runP (numP 1 1 5) 0 x (.ok 0)).1=V1) (hs1:(runP (numP 1 1 5) 0 x (.ok 0)).2=s1) {V2:Int} {s2:Except (Int×Nat) Nat} (hV2:(runP (numP 1 0 5) 0 x s1).1=V2) (hs2:(runP (numP 1 0 5) 0 x s1).2=s2) {V3:Int} {s3:Except (Int×Nat) Nat} (hV3:(runP (numP 1 0 11) 0 x s2).1=V3) (hs3:(runP (numP 1 0 11) 0 x s2).2=s3) {V5:Int} {s5:Except (Int×Nat) Nat} (hV5:(runP (numP 6 0 1099511627776) 0 x s3).1=V5) (hs5:(runP (numP 6 0 1099511627776) 0 x s3).2=s5) {V6:Int} {s6:Except (Int×Nat) Nat} (hV6:(runP (numP 2 0 4095) 0 x s5).1=V6) (hs6:(runP (numP 2 0 4095) 0 x s5).2=s6) {V7:List Int} {s7:Except (Int×Nat) Nat} (hV7:∀ pos,s7 = .ok pos→(runP agesP [] x s6).1=V7) (hs7:(runP agesP [] x s6).2=s7) (hz:V1=2):End x { bare V1 V2 V3 with cycle:=V5,mask:=V6,ages:=V7 } s7:=by
 have e:runP frameP (bare 0 0 0) x (.ok 0)=runP (ret { bare V1 V2 V3 with cycle:=V5,mask:=V6,ages:=(runP agesP [] x s6).1 }) (bare 0 0 0) x s7:=by
  unfold frameP
  rw [runP_bind (numP 1 1 5) 0,hV1,hs1,runP_bind (numP 1 0 5) 0,hV2,hs2,runP_bind (numP 1 0 11) 0,hV3,hs3]
  unfold tailP
  rw [if_neg oM,if_pos hz,runP_bind (numP 6 0 1099511627776) 0,hV5,hs5,runP_bind (numP 2 0 4095) 0,hV6,hs6,runP_bind agesP [],hs7]
  try rfl
 refine ⟨by rw [e]; exact runP_ret.1,fun pos h => ?_⟩
 rw [e,runP_ret.2 pos h,hV7 pos h]
theorem end3 {x:List UInt8} {V1:Int} {s1:Except (Int×Nat) Nat} (hV1:(runP (numP 1 1 5) 0 x (.ok 0)).1=V1) (hs1:(runP (numP 1 1 5) 0 x (.ok 0)).2=s1) {V2:Int} {s2:Except (Int×Nat) Nat} (hV2:(runP (numP 1 0 5) 0 x s1).1=V2) (hs2:(runP (numP 1 0 5) 0 x s1).2=s2) {V3:Int} {s3:Except (Int×Nat) Nat} (hV3:(runP (numP 1 0 11) 0 x s2).1=V3) (hs3:(runP (numP 1 0 11) 0 x s2).2=s3) {V8:Int} {s8:Except (Int×Nat) Nat} (hV8:(runP (numP 1 0 9) 0 x s3).1=V8) (hs8:(runP (numP 1 0 9) 0 x s3).2=s8) {V9:Int} {s9:Except (Int×Nat) Nat} (hV9:(runP (numP 1 0 1) 0 x s8).1=V9) (hs9:(runP (numP 1 0 1) 0 x s8).2=s9) {V10:Int} {s10:Except (Int×Nat) Nat} (hV10:(runP (numP 6 0 1099511627776) 0 x s9).1=V10) (hs10:(runP (numP 6 0 1099511627776) 0 x s9).2=s10) {V11:Int} {s11:Except (Int×Nat) Nat} (hV11:(runP offP 0 x s10).1=V11) (hs11:(runP offP 0 x s10).2=s11) (hz:V1=3):End x { bare V1 V2 V3 with link:=V8,flag:=(V9 == 1),cycle:=V10,offset:=V11 } s11:=by
 have e:runP frameP (bare 0 0 0) x (.ok 0)=runP (ret { bare V1 V2 V3 with link:=V8,flag:=(V9 == 1),cycle:=V10,offset:=V11 }) (bare 0 0 0) x s11:=by
  unfold frameP
  rw [runP_bind (numP 1 1 5) 0,hV1,hs1,runP_bind (numP 1 0 5) 0,hV2,hs2,runP_bind (numP 1 0 11) 0,hV3,hs3]
  unfold tailP
  rw [if_neg oM,if_neg oM,if_pos hz,runP_bind (numP 1 0 9) 0,hV8,hs8,runP_bind (numP 1 0 1) 0,hV9,hs9,runP_bind (numP 6 0 1099511627776) 0,hV10,hs10,runP_bind offP 0,hV11,hs11]
  try rfl
 refine ⟨by rw [e]; exact runP_ret.1,fun pos h => ?_⟩
 rw [e,runP_ret.2 pos h]
theorem end4 {x:List UInt8} {V1:Int} {s1:Except (Int×Nat) Nat} (hV1:(runP (numP 1 1 5) 0 x (.ok 0)).1=V1) (hs1:(runP (numP 1 1 5) 0 x (.ok 0)).2=s1) {V2:Int} {s2:Except (Int×Nat) Nat} (hV2:(runP (numP 1 0 5) 0 x s1).1=V2) (hs2:(runP (numP 1 0 5) 0 x s1).2=s2) {V3:Int} {s3:Except (Int×Nat) Nat} (hV3:(runP (numP 1 0 11) 0 x s2).1=V3) (hs3:(runP (numP 1 0 11) 0 x s2).2=s3) {V12:Int} {s12:Except (Int×Nat) Nat} (hV12:(runP (numP 1 0 9) 0 x s3).1=V12) (hs12:(runP (numP 1 0 9) 0 x s3).2=s12) {V13:List Int} {s13:Except (Int×Nat) Nat} (hV13:∀ pos,s13 = .ok pos→(runP agesP [] x s12).1=V13) (hs13:(runP agesP [] x s12).2=s13) (hz:V1=4):End x { bare V1 V2 V3 with link:=V12,ages:=V13 } s13:=by
 have e:runP frameP (bare 0 0 0) x (.ok 0)=runP (ret { bare V1 V2 V3 with link:=V12,ages:=(runP agesP [] x s12).1 }) (bare 0 0 0) x s13:=by
  unfold frameP
  rw [runP_bind (numP 1 1 5) 0,hV1,hs1,runP_bind (numP 1 0 5) 0,hV2,hs2,runP_bind (numP 1 0 11) 0,hV3,hs3]
  unfold tailP
  rw [if_neg oM,if_neg oM,if_neg oM,if_pos hz,runP_bind (numP 1 0 9) 0,hV12,hs12,runP_bind agesP [],hs13]
  try rfl
 refine ⟨by rw [e]; exact runP_ret.1,fun pos h => ?_⟩
 rw [e,runP_ret.2 pos h,hV13 pos h]
theorem end5 {x:List UInt8} {V1:Int} {s1:Except (Int×Nat) Nat} (hV1:(runP (numP 1 1 5) 0 x (.ok 0)).1=V1) (hs1:(runP (numP 1 1 5) 0 x (.ok 0)).2=s1) {V2:Int} {s2:Except (Int×Nat) Nat} (hV2:(runP (numP 1 0 5) 0 x s1).1=V2) (hs2:(runP (numP 1 0 5) 0 x s1).2=s2) {V3:Int} {s3:Except (Int×Nat) Nat} (hV3:(runP (numP 1 0 11) 0 x s2).1=V3) (hs3:(runP (numP 1 0 11) 0 x s2).2=s3) {V14:Int} {s14:Except (Int×Nat) Nat} (hV14:(runP (numP 1 0 9) 0 x s3).1=V14) (hs14:(runP (numP 1 0 9) 0 x s3).2=s14) {V15:Int} {s15:Except (Int×Nat) Nat} (hV15:(runP (numP 1 0 5) 0 x s14).1=V15) (hs15:(runP (numP 1 0 5) 0 x s14).2=s15) {V16:Int} {s16:Except (Int×Nat) Nat} (hV16:(runP (numP 1 0 5) 0 x s15).1=V16) (hs16:(runP (numP 1 0 5) 0 x s15).2=s16) {V17:Int} {s17:Except (Int×Nat) Nat} (hV17:(runP (numP 4 1 2147483648) 0 x s16).1=V17) (hs17:(runP (numP 4 1 2147483648) 0 x s16).2=s17) {V18:List UInt8} {s18:Except (Int×Nat) Nat} (hV18:(runP bodyP [] x s17).1=V18) (hs18:(runP bodyP [] x s17).2=s18) (h1:¬V1=1) (h2:¬V1=2) (h3:¬V1=3) (h4:¬V1=4):End x { bare V1 V2 V3 with link:=V14,frm:=V15,to:=V16,seq:=V17,body:=V18 } s18:=by
 have e:runP frameP (bare 0 0 0) x (.ok 0)=runP (ret { bare V1 V2 V3 with link:=V14,frm:=V15,to:=V16,seq:=V17,body:=V18 }) (bare 0 0 0) x s18:=by
  unfold frameP
  rw [runP_bind (numP 1 1 5) 0,hV1,hs1,runP_bind (numP 1 0 5) 0,hV2,hs2,runP_bind (numP 1 0 11) 0,hV3,hs3]
  unfold tailP
  rw [if_neg h1,if_neg h2,if_neg h3,if_neg h4,runP_bind (numP 1 0 9) 0,hV14,hs14,runP_bind (numP 1 0 5) 0,hV15,hs15,runP_bind (numP 1 0 5) 0,hV16,hs16,runP_bind (numP 4 1 2147483648) 0,hV17,hs17,runP_bind bodyP [],hV18,hs18]
  try rfl
 refine ⟨by rw [e]; exact runP_ret.1,fun pos h => ?_⟩
 rw [e,runP_ret.2 pos h]
theorem read_pc (b x:List UInt8) (hb:7≤b.length) (hb2:b.length≤1000000) (hO:PC Tryz.prog [] 95 [bytesD b] (· = .t [bytesD x,.v (.bool true)])) (hx:x.length+4=b.length) (hk:1≤num (x.take 1)∧num (x.take 1)≤5) (hk2:1≤((x.getD 0 default).toNat:Int)∧((x.getD 0 default).toNat:Int)≤5) (hs:x.length≤1000000):PC Tryz.prog [] 64 [bytesD b] (RdX x):=by
 refine PC.of (N:=148) Tryz.func64 rfl rfl (Nat.le_of_ble_eq_true rfl) ?_
 refine PW.a [0,2] 1 (PW.q [0,2,11] 1 (PW.cd (decide ((b.length:Int)<(7:Int))) ?_ ?_)) <;> intro hz0 <;> try simp only [boolS] at hz0
 ·refine PW.t [2,3,4] 1 (rq (D.t [D.r [I 0,I 0,I 0,I 0,I 0,I 0,D.v (.bool false),I 0,I 0,D.v (.slice none 0 0),I 0,I 0,I 0,D.v (.slice none 0 0)],I 2,I 0]) ?_)
  exfalso; omega
 ·refine PW.k (PW.w 1 [0,2,14] 1 (PL.gc (A:=[]) (fun _=>hO) (PL.n 5 [0,2,5,6] 1 (PW.q [0,2,5,19] 1 (PW.cd false (fun hz1=>by cases hz1) (fun hz1 => ?_))))))
  refine PW.k (PW.seq (PW.sr [2,5,33] 1 (p:=(0≤(0:Int)∧(0:Int)<(x.length:Int))∧(((decide (((x.getD 0 default).toNat:Int)<(1:Int)))=false∧True→0≤(0:Int)∧(0:Int)<(x.length:Int)))) nD (PW.cd ((decide (((x.getD 0 default).toNat:Int)<(1:Int)))||(decide (((x.getD 0 default).toNat:Int)>(5:Int)))) ?_ ?_))) <;> intro hz2 <;> try simp only [boolS] at hz2
  ·refine PW.t [2,3,4] 1 (rq (D.t [D.r [I 0,I 0,I 0,I 0,I 0,I 0,D.v (.bool false),I 0,I 0,D.v (.slice none 0 0),I 0,I 0,I 0,D.v (.slice none 0 0)],I 5,I 0]) ?_)
   exfalso; omega
  ·refine PW.k (PW.w 1 [2,5,35] 1 (PL.sl [2,5,35] 1 (PL.build (cs:=[bytesD x,I 0,D.v (.bool false)]) rfl kR kR kR (PL.sl [2,5,36] 1 (PL.build (cs:=[bytesD x,I 0,D.v (.bool false),I 0,I 0]) rfl kR kR kR (PL.n 2 [2,5,7] 2 (PW.a [2,5,7,8] 3 ?_)))))))
   refine PW.w 1 [2,5,7,8,40] 3 (PL.cm (f:=96) (ds:=[D.p 0 0 0 0,I 1,I 1,I 5]) (ob:=Obj.var 148 [bytesD x,I 0,D.v (.bool false),I 0,I 0]) 1 (fnumber_pm x (.ok 0) fo0 hs 1 1 5 (by decide)) ?_)
   rintro d ob ⟨V1,s1,hV1,hs1,rfl,at1,bad1,e1,p1,hR1,hle1,rfl⟩
   refine PL.n 2 [2,5,7,8] 3 (PW.w 1 [2,5,7,8,43] 3 (PL.cm (f:=96) (ds:=[D.p 0 0 0 0,I 1,I 0,I 5]) (ob:=Obj.var 148 [bytesD x,I (at1:Int),D.v (.bool bad1),I e1,I p1]) 1 (fnumber_pm x s1 ⟨at1,bad1,e1,p1,hR1,hle1,rfl⟩ hs 1 0 5 (by decide)) ?_))
   rintro d ob ⟨V2,s2,hV2,hs2,rfl,at2,bad2,e2,p2,hR2,hle2,rfl⟩
   refine PL.n 2 [2,5,7,8] 3 (PW.w 1 [2,5,7,8,46] 3 (PL.cm (f:=96) (ds:=[D.p 0 0 0 0,I 1,I 0,I 11]) (ob:=Obj.var 148 [bytesD x,I (at2:Int),D.v (.bool bad2),I e2,I p2]) 1 (fnumber_pm x s2 ⟨at2,bad2,e2,p2,hR2,hle2,rfl⟩ hs 1 0 11 (by decide)) ?_))
   rintro d ob ⟨V3,s3,hV3,hs3,rfl,at3,bad3,e3,p3,hR3,hle3,rfl⟩
   refine PL.n 2 [2,5,7,8] 3 (PW.q [2,5,7,8,50] 3 (PW.block (PW.a [2,5,7,8,50,51] 3 (PW.cd (V1 == (1:Int)) ?_ ?_)))) <;> intro hz3 <;> try simp only [boolS] at hz3
   ·refine PW.region (PL.a 1 [2,5,7,8,53] 3 (PL.cm (f:=96) (ds:=[D.p 0 0 0 0,I 2,I 0,I 60000]) (ob:=Obj.var 148 [bytesD x,I (at3:Int),D.v (.bool bad3),I e3,I p3]) 1 (fnumber_pm x s3 ⟨at3,bad3,e3,p3,hR3,hle3,rfl⟩ hs 2 0 60000 (by decide)) ?_))
    rintro d ob ⟨V4,s4,hV4,hs4,rfl,at4,bad4,e4,p4,hR4,hle4,rfl⟩
    refine PL.a 2 [2,5,7,8] 3 (PL.nil ?_)
    show PW _ _ _ _ _
    refine PW.q [2,7,8,121] 3 (PW.cd ((e4 == (0:Int))&&(decide ((at4:Int)<(x.length:Int)))) ?_ ?_) <;> intro hz4 <;> try simp only [boolS] at hz4
    ·refine PW.a [2,7,8] 3 (PW.b [2,7,8] 3 ?_)
     show PW _ _ _ _ _
     refine PW.q [2,7,8,137] 3 ?_
     refine PW.cd true (fun hz5 => ?_) (fun hz5=>by cases hz5)
     refine PW.seq (PW.open [0] kR ?_)
     refine PO.a [0,1,2,3,4,5,6,7,8] 12 [2,138,142,146] 3 (PO.one (n:=2) 9 kR ?_)
     refine PO1.a [2,142,146] 3 ?_
     refine PO.a [10,11] 2 [2,3,4] 0 (PO.done kR ?_)
     show PW _ _ _ _ _
     refine PW.ret (rq (D.t [D.r [I 0,I 0,I 0,I 0,I 0,I 0,D.v (.bool false),I 0,I 0,D.v (.slice none 0 0),I 0,I 0,I 0,D.v (.slice none 0 0)],I 3,I (at4:Int)]) ?_)
     exact rd_long (end1 hV1 hs1 hV2 hs2 hV3 hs3 hV4 hs4 oM) hk hR4 oM oM
    ·refine PW.k (PW.q [2,7,8,137] 3 (PW.cd (e4 != (0:Int)) ?_ ?_)) <;> intro hz6 <;> try simp only [boolS] at hz6
     ·refine PW.seq (PW.open [0] kR ?_)
      refine PO.a [0,1,2,3,4,5,6,7,8] 12 [2,138,142,146] 3 (PO.one (n:=2) 9 kR ?_)
      refine PO1.a [2,142,146] 3 ?_
      refine PO.a [10,11] 2 [2,3,4] 0 (PO.done kR ?_)
      show PW _ _ _ _ _
      refine PW.ret (rq (D.t [D.r [I 0,I 0,I 0,I 0,I 0,I 0,D.v (.bool false),I 0,I 0,D.v (.slice none 0 0),I 0,I 0,I 0,D.v (.slice none 0 0)],I e4,I p4]) ?_)
      exact rd_err (end1 hV1 hs1 hV2 hs2 hV3 hs3 hV4 hs4 oM) hk hR4 oM
     ·refine PW.k (PW.t [2,3,4] 3 (rq (D.t [D.r [I V1,I V2,I V3,I V4,I 0,I 0,D.v (.bool false),I 0,I 0,D.v (.slice none 0 0),I 0,I 0,I 0,D.v (.slice none 0 0)],I 0,I 0]) ?_))
      exact rd_ok (end1 hV1 hs1 hV2 hs2 hV3 hs3 hV4 hs4 oM) hk hR4 oM oM (.inr ⟨rfl,rfl⟩) (.inr ⟨rfl,rfl⟩)
   ·refine PW.a [2,5,7,8,50,56] 3 (PW.cd (V1 == (2:Int)) ?_ ?_) <;> intro hz7 <;> try simp only [boolS] at hz7
    ·refine PW.w 1 [2,5,7,8,58] 3 (PL.cm (f:=96) (ds:=[D.p 0 0 0 0,I 6,I 0,I 1099511627776]) (ob:=Obj.var 148 [bytesD x,I (at3:Int),D.v (.bool bad3),I e3,I p3]) 1 (fnumber_pm x s3 ⟨at3,bad3,e3,p3,hR3,hle3,rfl⟩ hs 6 0 1099511627776 (by decide)) ?_)
     rintro d ob ⟨V5,s5,hV5,hs5,rfl,at5,bad5,e5,p5,hR5,hle5,rfl⟩
     refine PL.n 2 [2,5,7,8] 3 (PW.w 1 [2,5,7,8,61] 3 (PL.cm (f:=96) (ds:=[D.p 0 0 0 0,I 2,I 0,I 4095]) (ob:=Obj.var 148 [bytesD x,I (at5:Int),D.v (.bool bad5),I e5,I p5]) 1 (fnumber_pm x s5 ⟨at5,bad5,e5,p5,hR5,hle5,rfl⟩ hs 2 0 4095 (by decide)) ?_))
     rintro d ob ⟨V6,s6,hV6,hs6,rfl,at6,bad6,e6,p6,hR6,hle6,rfl⟩
     refine PL.n 2 [2,5,7,8] 3 (PW.region (PL.a 1 [2,5,7,8,64] 3 (PL.cm (f:=97) (ds:=[D.p 0 0 0 0]) (ob:=Obj.var 148 [bytesD x,I (at6:Int),D.v (.bool bad6),I e6,I p6]) 1 (fages_pm x s6 ⟨at6,bad6,e6,p6,hR6,hle6,rfl⟩ hs) ?_)))
     rintro d ob ⟨V7,s7,hV7,hs7,hW7,rfl,at7,bad7,e7,p7,hR7,hle7,rfl⟩
     refine PL.a 2 [2,5,7,8] 3 (PL.nil ?_)
     show PW _ _ _ _ _
     refine PW.q [2,7,8,121] 3 (PW.cd ((e7 == (0:Int))&&(decide ((at7:Int)<(x.length:Int)))) ?_ ?_) <;> intro hz8 <;> try simp only [boolS] at hz8
     ·refine PW.a [2,7,8] 3 (PW.b [2,7,8] 3 ?_)
      show PW _ _ _ _ _
      refine PW.q [2,7,8,137] 3 ?_
      refine PW.cd true (fun hz9 => ?_) (fun hz9=>by cases hz9)
      refine PW.seq (PW.open [0] kR ?_)
      refine PO.a [0,1,2,3,4,5,6,7,8] 12 [2,138,142,146] 3 (PO.one (n:=2) 9 kR ?_)
      refine PO1.a [2,142,146] 3 ?_
      refine PO.a [10,11] 2 [2,3,4] 0 (PO.done kR ?_)
      show PW _ _ _ _ _
      refine PW.ret (rq (D.t [D.r [I 0,I 0,I 0,I 0,I 0,I 0,D.v (.bool false),I 0,I 0,D.v (.slice none 0 0),I 0,I 0,I 0,D.v (.slice none 0 0)],I 3,I (at7:Int)]) ?_)
      exact rd_long (end2 hV1 hs1 hV2 hs2 hV3 hs3 hV5 hs5 hV6 hs6 hV7 hs7 oM) hk hR7 oM oM
     ·refine PW.k (PW.q [2,7,8,137] 3 (PW.cd (e7 != (0:Int)) ?_ ?_)) <;> intro hz10 <;> try simp only [boolS] at hz10
      ·refine PW.seq (PW.open [0] kR ?_)
       refine PO.a [0,1,2,3,4,5,6,7,8] 12 [2,138,142,146] 3 (PO.one (n:=2) 9 kR ?_)
       refine PO1.a [2,142,146] 3 ?_
       refine PO.a [10,11] 2 [2,3,4] 0 (PO.done kR ?_)
       show PW _ _ _ _ _
       refine PW.ret (rq (D.t [D.r [I 0,I 0,I 0,I 0,I 0,I 0,D.v (.bool false),I 0,I 0,D.v (.slice none 0 0),I 0,I 0,I 0,D.v (.slice none 0 0)],I e7,I p7]) ?_)
       exact rd_err (end2 hV1 hs1 hV2 hs2 hV3 hs3 hV5 hs5 hV6 hs6 hV7 hs7 oM) hk hR7 oM
      ·refine PW.k (PW.t [2,3,4] 3 (rq (D.t [D.r [I V1,I V2,I V3,I 0,I V6,I 0,D.v (.bool false),I V5,I 0,sl' 1 (fun x=>[I x]) V7,I 0,I 0,I 0,D.v (.slice none 0 0)],I 0,I 0]) ?_))
       exact rd_ok (end2 hV1 hs1 hV2 hs2 hV3 hs3 hV5 hs5 hV6 hs6 hV7 hs7 oM) hk hR7 oM oM (.inl rfl) (.inr ⟨rfl,rfl⟩)
    ·refine PW.a [2,5,7,8,50,67] 3 (PW.cd (V1 == (3:Int)) ?_ ?_) <;> intro hz11 <;> try simp only [boolS] at hz11
     ·refine PW.w 1 [2,5,7,8,69] 3 (PL.cm (f:=96) (ds:=[D.p 0 0 0 0,I 1,I 0,I 9]) (ob:=Obj.var 148 [bytesD x,I (at3:Int),D.v (.bool bad3),I e3,I p3]) 1 (fnumber_pm x s3 ⟨at3,bad3,e3,p3,hR3,hle3,rfl⟩ hs 1 0 9 (by decide)) ?_)
      rintro d ob ⟨V8,s8,hV8,hs8,rfl,at8,bad8,e8,p8,hR8,hle8,rfl⟩
      refine PL.n 2 [2,5,7,8] 3 (PW.w 1 [2,5,7,8,72] 3 (PL.cm (f:=96) (ds:=[D.p 0 0 0 0,I 1,I 0,I 1]) (ob:=Obj.var 148 [bytesD x,I (at8:Int),D.v (.bool bad8),I e8,I p8]) 1 (fnumber_pm x s8 ⟨at8,bad8,e8,p8,hR8,hle8,rfl⟩ hs 1 0 1 (by decide)) ?_))
      rintro d ob ⟨V9,s9,hV9,hs9,rfl,at9,bad9,e9,p9,hR9,hle9,rfl⟩
      refine PL.n 3 [2,5,7,8] 3 (PW.w 1 [2,5,7,8,76] 3 (PL.cm (f:=96) (ds:=[D.p 0 0 0 0,I 6,I 0,I 1099511627776]) (ob:=Obj.var 148 [bytesD x,I (at9:Int),D.v (.bool bad9),I e9,I p9]) 1 (fnumber_pm x s9 ⟨at9,bad9,e9,p9,hR9,hle9,rfl⟩ hs 6 0 1099511627776 (by decide)) ?_))
      rintro d ob ⟨V10,s10,hV10,hs10,rfl,at10,bad10,e10,p10,hR10,hle10,rfl⟩
      refine PL.n 2 [2,5,7,8] 3 (PW.region (PL.a 1 [2,5,7,8,79] 3 (PL.cm (f:=98) (ds:=[D.p 0 0 0 0]) (ob:=Obj.var 148 [bytesD x,I (at10:Int),D.v (.bool bad10),I e10,I p10]) 1 (foffset_pm x s10 ⟨at10,bad10,e10,p10,hR10,hle10,rfl⟩ hs) ?_)))
      rintro d ob ⟨V11,s11,hV11,hs11,rfl,at11,bad11,e11,p11,hR11,hle11,rfl⟩
      refine PL.a 2 [2,5,7,8] 3 (PL.nil ?_)
      show PW _ _ _ _ _
      refine PW.q [2,7,8,121] 3 (PW.cd ((e11 == (0:Int))&&(decide ((at11:Int)<(x.length:Int)))) ?_ ?_) <;> intro hz12 <;> try simp only [boolS] at hz12
      ·refine PW.a [2,7,8] 3 (PW.b [2,7,8] 3 ?_)
       show PW _ _ _ _ _
       refine PW.q [2,7,8,137] 3 ?_
       refine PW.cd true (fun hz13 => ?_) (fun hz13=>by cases hz13)
       refine PW.seq (PW.open [0] kR ?_)
       refine PO.a [0,1,2,3,4,5,6,7,8] 12 [2,138,142,146] 3 (PO.one (n:=2) 9 kR ?_)
       refine PO1.a [2,142,146] 3 ?_
       refine PO.a [10,11] 2 [2,3,4] 0 (PO.done kR ?_)
       show PW _ _ _ _ _
       refine PW.ret (rq (D.t [D.r [I 0,I 0,I 0,I 0,I 0,I 0,D.v (.bool false),I 0,I 0,D.v (.slice none 0 0),I 0,I 0,I 0,D.v (.slice none 0 0)],I 3,I (at11:Int)]) ?_)
       exact rd_long (end3 hV1 hs1 hV2 hs2 hV3 hs3 hV8 hs8 hV9 hs9 hV10 hs10 hV11 hs11 oM) hk hR11 oM oM
      ·refine PW.k (PW.q [2,7,8,137] 3 (PW.cd (e11 != (0:Int)) ?_ ?_)) <;> intro hz14 <;> try simp only [boolS] at hz14
       ·refine PW.seq (PW.open [0] kR ?_)
        refine PO.a [0,1,2,3,4,5,6,7,8] 12 [2,138,142,146] 3 (PO.one (n:=2) 9 kR ?_)
        refine PO1.a [2,142,146] 3 ?_
        refine PO.a [10,11] 2 [2,3,4] 0 (PO.done kR ?_)
        show PW _ _ _ _ _
        refine PW.ret (rq (D.t [D.r [I 0,I 0,I 0,I 0,I 0,I 0,D.v (.bool false),I 0,I 0,D.v (.slice none 0 0),I 0,I 0,I 0,D.v (.slice none 0 0)],I e11,I p11]) ?_)
        exact rd_err (end3 hV1 hs1 hV2 hs2 hV3 hs3 hV8 hs8 hV9 hs9 hV10 hs10 hV11 hs11 oM) hk hR11 oM
       ·refine PW.k (PW.t [2,3,4] 3 (rq (D.t [D.r [I V1,I V2,I V3,I 0,I 0,I V8,D.v (.bool (V9 == (1:Int))),I V10,I V11,D.v (.slice none 0 0),I 0,I 0,I 0,D.v (.slice none 0 0)],I 0,I 0]) ?_))
        exact rd_ok (end3 hV1 hs1 hV2 hs2 hV3 hs3 hV8 hs8 hV9 hs9 hV10 hs10 hV11 hs11 oM) hk hR11 oM oM (.inr ⟨rfl,rfl⟩) (.inr ⟨rfl,rfl⟩)
     ·refine PW.a [2,5,7,8,50,82] 3 (PW.cd (V1 == (4:Int)) ?_ ?_) <;> intro hz15 <;> try simp only [boolS] at hz15
      ·refine PW.w 1 [2,5,7,8,84] 3 (PL.cm (f:=96) (ds:=[D.p 0 0 0 0,I 1,I 0,I 9]) (ob:=Obj.var 148 [bytesD x,I (at3:Int),D.v (.bool bad3),I e3,I p3]) 1 (fnumber_pm x s3 ⟨at3,bad3,e3,p3,hR3,hle3,rfl⟩ hs 1 0 9 (by decide)) ?_)
       rintro d ob ⟨V12,s12,hV12,hs12,rfl,at12,bad12,e12,p12,hR12,hle12,rfl⟩
       refine PL.n 2 [2,5,7,8] 3 (PW.region (PL.a 1 [2,5,7,8,87] 3 (PL.cm (f:=97) (ds:=[D.p 0 0 0 0]) (ob:=Obj.var 148 [bytesD x,I (at12:Int),D.v (.bool bad12),I e12,I p12]) 1 (fages_pm x s12 ⟨at12,bad12,e12,p12,hR12,hle12,rfl⟩ hs) ?_)))
       rintro d ob ⟨V13,s13,hV13,hs13,hW13,rfl,at13,bad13,e13,p13,hR13,hle13,rfl⟩
       refine PL.a 2 [2,5,7,8] 3 (PL.nil ?_)
       show PW _ _ _ _ _
       refine PW.q [2,7,8,121] 3 (PW.cd ((e13 == (0:Int))&&(decide ((at13:Int)<(x.length:Int)))) ?_ ?_) <;> intro hz16 <;> try simp only [boolS] at hz16
       ·refine PW.a [2,7,8] 3 (PW.b [2,7,8] 3 ?_)
        show PW _ _ _ _ _
        refine PW.q [2,7,8,137] 3 ?_
        refine PW.cd true (fun hz17 => ?_) (fun hz17=>by cases hz17)
        refine PW.seq (PW.open [0] kR ?_)
        refine PO.a [0,1,2,3,4,5,6,7,8] 12 [2,138,142,146] 3 (PO.one (n:=2) 9 kR ?_)
        refine PO1.a [2,142,146] 3 ?_
        refine PO.a [10,11] 2 [2,3,4] 0 (PO.done kR ?_)
        show PW _ _ _ _ _
        refine PW.ret (rq (D.t [D.r [I 0,I 0,I 0,I 0,I 0,I 0,D.v (.bool false),I 0,I 0,D.v (.slice none 0 0),I 0,I 0,I 0,D.v (.slice none 0 0)],I 3,I (at13:Int)]) ?_)
        exact rd_long (end4 hV1 hs1 hV2 hs2 hV3 hs3 hV12 hs12 hV13 hs13 oM) hk hR13 oM oM
       ·refine PW.k (PW.q [2,7,8,137] 3 (PW.cd (e13 != (0:Int)) ?_ ?_)) <;> intro hz18 <;> try simp only [boolS] at hz18
        ·refine PW.seq (PW.open [0] kR ?_)
         refine PO.a [0,1,2,3,4,5,6,7,8] 12 [2,138,142,146] 3 (PO.one (n:=2) 9 kR ?_)
         refine PO1.a [2,142,146] 3 ?_
         refine PO.a [10,11] 2 [2,3,4] 0 (PO.done kR ?_)
         show PW _ _ _ _ _
         refine PW.ret (rq (D.t [D.r [I 0,I 0,I 0,I 0,I 0,I 0,D.v (.bool false),I 0,I 0,D.v (.slice none 0 0),I 0,I 0,I 0,D.v (.slice none 0 0)],I e13,I p13]) ?_)
         exact rd_err (end4 hV1 hs1 hV2 hs2 hV3 hs3 hV12 hs12 hV13 hs13 oM) hk hR13 oM
        ·refine PW.k (PW.t [2,3,4] 3 (rq (D.t [D.r [I V1,I V2,I V3,I 0,I 0,I V12,D.v (.bool false),I 0,I 0,sl' 1 (fun x=>[I x]) V13,I 0,I 0,I 0,D.v (.slice none 0 0)],I 0,I 0]) ?_))
         exact rd_ok (end4 hV1 hs1 hV2 hs2 hV3 hs3 hV12 hs12 hV13 hs13 oM) hk hR13 oM oM (.inl rfl) (.inr ⟨rfl,rfl⟩)
      ·refine PW.a [2,5,7,8,90] 3 (PW.cd (V1 == (5:Int)) ?_ ?_) <;> intro hz19 <;> try simp only [boolS] at hz19
       ·refine PW.w 1 [2,5,7,8,92] 3 (PL.cm (f:=96) (ds:=[D.p 0 0 0 0,I 1,I 0,I 9]) (ob:=Obj.var 148 [bytesD x,I (at3:Int),D.v (.bool bad3),I e3,I p3]) 1 (fnumber_pm x s3 ⟨at3,bad3,e3,p3,hR3,hle3,rfl⟩ hs 1 0 9 (by decide)) ?_)
        rintro d ob ⟨V14,s14,hV14,hs14,rfl,at14,bad14,e14,p14,hR14,hle14,rfl⟩
        refine PL.n 2 [2,5,7,8] 3 (PW.w 1 [2,5,7,8,95] 3 (PL.cm (f:=96) (ds:=[D.p 0 0 0 0,I 1,I 0,I 5]) (ob:=Obj.var 148 [bytesD x,I (at14:Int),D.v (.bool bad14),I e14,I p14]) 1 (fnumber_pm x s14 ⟨at14,bad14,e14,p14,hR14,hle14,rfl⟩ hs 1 0 5 (by decide)) ?_))
        rintro d ob ⟨V15,s15,hV15,hs15,rfl,at15,bad15,e15,p15,hR15,hle15,rfl⟩
        refine PL.n 2 [2,5,7,8] 3 (PW.w 1 [2,5,7,8,98] 3 (PL.cm (f:=96) (ds:=[D.p 0 0 0 0,I 1,I 0,I 5]) (ob:=Obj.var 148 [bytesD x,I (at15:Int),D.v (.bool bad15),I e15,I p15]) 1 (fnumber_pm x s15 ⟨at15,bad15,e15,p15,hR15,hle15,rfl⟩ hs 1 0 5 (by decide)) ?_))
        rintro d ob ⟨V16,s16,hV16,hs16,rfl,at16,bad16,e16,p16,hR16,hle16,rfl⟩
        refine PL.n 2 [2,5,7,8] 3 (PW.w 1 [2,5,7,8,101] 3 (PL.cm (f:=96) (ds:=[D.p 0 0 0 0,I 4,I 1,I 2147483648]) (ob:=Obj.var 148 [bytesD x,I (at16:Int),D.v (.bool bad16),I e16,I p16]) 1 (fnumber_pm x s16 ⟨at16,bad16,e16,p16,hR16,hle16,rfl⟩ hs 4 1 2147483648 (by decide)) ?_))
        rintro d ob ⟨V17,s17,hV17,hs17,rfl,at17,bad17,e17,p17,hR17,hle17,rfl⟩
        refine PL.n 2 [2,5,7,8] 3 (PW.region (PL.a 1 [2,5,7,8,104] 3 (PL.cm (f:=99) (ds:=[D.p 0 0 0 0]) (ob:=Obj.var 148 [bytesD x,I (at17:Int),D.v (.bool bad17),I e17,I p17]) 1 (fbody_pm x s17 ⟨at17,bad17,e17,p17,hR17,hle17,rfl⟩ hs) ?_)))
        rintro d ob ⟨V18,s18,hV18,hs18,rfl,at18,bad18,e18,p18,hR18,hle18,rfl⟩
        refine PL.a 2 [2,5,7,8] 3 (PL.nil ?_)
        show PW _ _ _ _ _
        refine PW.q [2,7,8,121] 3 (PW.cd ((e18 == (0:Int))&&(decide ((at18:Int)<(x.length:Int)))) ?_ ?_) <;> intro hz20 <;> try simp only [boolS] at hz20
        ·refine PW.a [2,7,8] 3 (PW.b [2,7,8] 3 ?_)
         show PW _ _ _ _ _
         refine PW.q [2,7,8,137] 3 ?_
         refine PW.cd true (fun hz21 => ?_) (fun hz21=>by cases hz21)
         refine PW.seq (PW.open [0] kR ?_)
         refine PO.a [0,1,2,3,4,5,6,7,8] 12 [2,138,142,146] 3 (PO.one (n:=2) 9 kR ?_)
         refine PO1.a [2,142,146] 3 ?_
         refine PO.a [10,11] 2 [2,3,4] 0 (PO.done kR ?_)
         show PW _ _ _ _ _
         refine PW.ret (rq (D.t [D.r [I 0,I 0,I 0,I 0,I 0,I 0,D.v (.bool false),I 0,I 0,D.v (.slice none 0 0),I 0,I 0,I 0,D.v (.slice none 0 0)],I 3,I (at18:Int)]) ?_)
         exact rd_long (end5 hV1 hs1 hV2 hs2 hV3 hs3 hV14 hs14 hV15 hs15 hV16 hs16 hV17 hs17 hV18 hs18 oM oM oM oM) hk hR18 oM oM
        ·refine PW.k (PW.q [2,7,8,137] 3 (PW.cd (e18 != (0:Int)) ?_ ?_)) <;> intro hz22 <;> try simp only [boolS] at hz22
         ·refine PW.seq (PW.open [0] kR ?_)
          refine PO.a [0,1,2,3,4,5,6,7,8] 12 [2,138,142,146] 3 (PO.one (n:=2) 9 kR ?_)
          refine PO1.a [2,142,146] 3 ?_
          refine PO.a [10,11] 2 [2,3,4] 0 (PO.done kR ?_)
          show PW _ _ _ _ _
          refine PW.ret (rq (D.t [D.r [I 0,I 0,I 0,I 0,I 0,I 0,D.v (.bool false),I 0,I 0,D.v (.slice none 0 0),I 0,I 0,I 0,D.v (.slice none 0 0)],I e18,I p18]) ?_)
          exact rd_err (end5 hV1 hs1 hV2 hs2 hV3 hs3 hV14 hs14 hV15 hs15 hV16 hs16 hV17 hs17 hV18 hs18 oM oM oM oM) hk hR18 oM
         ·refine PW.k (PW.t [2,3,4] 3 (rq (D.t [D.r [I V1,I V2,I V3,I 0,I 0,I V14,D.v (.bool false),I 0,I 0,D.v (.slice none 0 0),I V15,I V16,I V17,bytesD V18],I 0,I 0]) ?_))
          exact rd_ok (end5 hV1 hs1 hV2 hs2 hV3 hs3 hV14 hs14 hV15 hs15 hV16 hs16 hV17 hs17 hV18 hs18 oM oM oM oM) hk hR18 oM oM (.inr ⟨rfl,rfl⟩) (.inl rfl)
       ·refine PW.k (PW.q [2,7,8,121] 3 (PW.cd ((e3 == (0:Int))&&(decide ((at3:Int)<(x.length:Int)))) ?_ ?_)) <;> intro hz23 <;> try simp only [boolS] at hz23
        ·refine PW.a [2,7,8] 3 (PW.b [2,7,8] 3 ?_)
         show PW _ _ _ _ _
         refine PW.q [2,7,8,137] 3 ?_
         refine PW.cd true (fun hz24 => ?_) (fun hz24=>by cases hz24)
         refine PW.seq (PW.open [0] kR ?_)
         refine PO.a [0,1,2,3,4,5,6,7,8] 12 [2,138,142,146] 3 (PO.one (n:=2) 9 kR ?_)
         refine PO1.a [2,142,146] 3 ?_
         refine PO.a [10,11] 2 [2,3,4] 0 (PO.done kR ?_)
         show PW _ _ _ _ _
         refine PW.ret (rq (D.t [D.r [I 0,I 0,I 0,I 0,I 0,I 0,D.v (.bool false),I 0,I 0,D.v (.slice none 0 0),I 0,I 0,I 0,D.v (.slice none 0 0)],I 3,I (at3:Int)]) ?_)
         exfalso; have h:=kind_in (x:=x) hk oM; rw [h] at hV1; have hV1:((num (x.take 1):Nat):Int)=V1:=hV1; omega
        ·refine PW.k (PW.q [2,7,8,137] 3 (PW.cd (e3 != (0:Int)) ?_ ?_)) <;> intro hz25 <;> try simp only [boolS] at hz25
         ·refine PW.seq (PW.open [0] kR ?_)
          refine PO.a [0,1,2,3,4,5,6,7,8] 12 [2,138,142,146] 3 (PO.one (n:=2) 9 kR ?_)
          refine PO1.a [2,142,146] 3 ?_
          refine PO.a [10,11] 2 [2,3,4] 0 (PO.done kR ?_)
          show PW _ _ _ _ _
          refine PW.ret (rq (D.t [D.r [I 0,I 0,I 0,I 0,I 0,I 0,D.v (.bool false),I 0,I 0,D.v (.slice none 0 0),I 0,I 0,I 0,D.v (.slice none 0 0)],I e3,I p3]) ?_)
          exfalso; have h:=kind_in (x:=x) hk oM; rw [h] at hV1; have hV1:((num (x.take 1):Nat):Int)=V1:=hV1; omega
         ·refine PW.k (PW.t [2,3,4] 3 (rq (D.t [D.r [I V1,I V2,I V3,I 0,I 0,I 0,D.v (.bool false),I 0,I 0,D.v (.slice none 0 0),I 0,I 0,I 0,D.v (.slice none 0 0)],I 0,I 0]) ?_))
          exfalso; have h:=kind_in (x:=x) hk oM; rw [h] at hV1; have hV1:((num (x.take 1):Nat):Int)=V1:=hV1; omega
end Go.Proofs.YtdomlccfjnkbjaaGreatDoor.Fr
namespace Go.Proofs.YtdomlccfjnkbjaaGreatDoor.Fr
open Go.RowKit Go.Proofs.YtdomlccfjnkbjaaGreatDoor.Sm Go.Proofs.YtdomlccfjnkbjaaGreatDoor.Wr Go.Proofs.YtdomlccfjnkbjaaGreatDoor.Dp
open Go.Proofs.YtdomlccfjnkbjaaGreatDoor.Pl (FO Rel fnumber_pm foffset_pm fages_pm fbody_pm openR_pc)
set_option maxHeartbeats 1000000
set_option maxRecDepth 100000
set_option linter.unusedVariables false
theorem wf_of {x:List UInt8} {f:Frame} (h:readX x = .ok f):Wf f∧∀ d ∈ f.ages, -9223372036854775808≤d∧d≤9223372036854775807:=by
 obtain ⟨⟨hk,hp,hn⟩,hs,ha,hq,r1,r2,r3,r4,r5,r6,r7,r8⟩:=may_iff.1 (read_back h).1
 constructor
 ·have hseq : -9223372036854775808≤f.seq∧f.seq≤9223372036854775807:=by
   by_cases h5:f.kind=5
   ·have:=hq h5; omega
   ·have e:=congrArg Frame.seq hs
    have:(spare f).seq=0:=by
     unfold spare
     repeat' split
     all_goals first|rfl|(exfalso; omega)
    omega
  unfold Wf Is64
  omega
 ·by_cases h24:f.kind=2∨f.kind=4
  ·have:=ha h24
   intro d hd
   unfold agesOk at this
   simp only [Bool.and_eq_true,decide_eq_true_eq,List.all_eq_true] at this
   have:=this.2 d hd
   omega
  ·have e:=congrArg Frame.ages hs
   have:(spare f).ages=[]:=by
    unfold spare
    repeat' split
    all_goals first|rfl|(exfalso; omega)
   intro d hd
   rw [e,this] at hd
   cases hd
theorem wf_fr (x:List UInt8):Wf (frOf (readX x))∧∀ d ∈ (frOf (readX x)).ages, -9223372036854775808≤d∧d≤9223372036854775807:=by
 cases h:readX x with
 | ok f=>exact wf_of h
 | error z=>exact ⟨by unfold Wf Is64 frOf bare; dsimp only; omega,fun d hd=>by cases hd⟩
section
variable {w:World} {ok:Nat→Prop} {B:Nat} {D1:D} {v:Value}
theorem by_row {l:List UInt8} (hB:ByD D1 l) (h:RepC w ok D1 v) (hok:∀ g,ok g→g<B):∃ a n c,v = .slice a n c∧Row8 w B a n c l:=by
 rcases hB with rfl|⟨rfl,rfl⟩
 ·obtain ⟨a,c,rfl,hr⟩:=rep_bytes h hok
  exact ⟨_,_,_,rfl,hr⟩
 ·obtain rfl:=repC_v h
  exact ⟨_,_,_,rfl,Row8.nil⟩
theorem ints_row {n:Nat} {f:Nat→List D} {l:List Int} (h:RepC w ok (.s n 1 f) v) (hn:n=l.length) (hf:∀ i,i<n→f i=[I (l.getD i default)]) (hB:∀ g,ok g→g<B):∃ a c,v = .slice a n c∧RowC w B a n c 1 (cellsI l):=by
 cases h with
 | s0 z f a c ha hc=>exact ⟨a,c,rfl,by rw [cellsI_length]; omega,Nat.zero_le _,hc,ha,fun h=>absurd h oM⟩
 | @s n z f b off c vals hb hn' hc hz hv hd =>
  refine ⟨some ⟨b,off,none⟩,c,rfl,RowC.mk (by rw [cellsI_length]; omega) hn' hc (fun h=>nomatch h) fun _=>⟨b,off,rfl,hB b hb,fun i u hi => ?_⟩⟩
  rw [cellsI_get] at hi
  obtain ⟨d,hi0,rfl⟩:=Option.map_eq_some_iff.1 hi
  have hi':i<n:=by rw [hn]; exact (List.getElem?_eq_some_iff.1 hi0).1
  have h1:=hv i 0 hi' oM
  rw [Nat.mul_one,Nat.add_zero] at h1
  rw [h1,repC_v (hd i 0 (.v (.int .i64 d)) hi' (by rw [hf i hi',List.getD_eq_getElem?_getD,hi0]; rfl))]
theorem ag_row {l:List Int} (hA:AgD D1 l) (h:RepC w ok D1 v) (hok:∀ g,ok g→g<B) (hw:∀ d ∈ l, -9223372036854775808≤d∧d≤9223372036854775807):∃ a n c,v = .slice a n c∧RowI w B a n c l:=by
 rcases hA with rfl|⟨rfl,rfl⟩
 ·obtain ⟨a,c,rfl,hr⟩:=ints_row h rfl (fun _ _=>rfl) hok
  exact ⟨_,_,_,rfl,hr,hw⟩
 ·obtain rfl:=repC_v h
  exact ⟨_,_,_,rfl,RowI.nil⟩
end
end Go.Proofs.YtdomlccfjnkbjaaGreatDoor.Fr
namespace Go.Proofs.YtdomlccfjnkbjaaGreatDoor.Fr
open Go.RowKit Go.Proofs.YtdomlccfjnkbjaaGreatDoor.Sm Go.Proofs.YtdomlccfjnkbjaaGreatDoor.Wr Go.Proofs.YtdomlccfjnkbjaaGreatDoor.Dp
open Go.Proofs.YtdomlccfjnkbjaaGreatDoor.Pl (FO Rel fnumber_pm foffset_pm fages_pm fbody_pm openR_pc)
set_option maxHeartbeats 4000000
set_option maxRecDepth 100000
set_option linter.unusedVariables false
set_option linter.unusedSimpArgs false
def RdE (res:Except (Int×Nat) Frame) (d:D):Prop:=∃ A B,AgD A (frOf res).ages∧ByD B (frOf res).body∧d = .t [.r (frC (frOf res) A B),I (noOf (errOf res)),I (atOf (errOf res):Nat)]
theorem rde_err (z:Int×Nat):RdE (.error z) (.t [.r (frC (bare 0 0 0) (.v (.slice none 0 0)) (.v (.slice none 0 0))),I z.1,I (z.2:Nat)]):=⟨_,_,.inr ⟨rfl,rfl⟩,.inr ⟨rfl,rfl⟩,rfl⟩
theorem rep_ag {w:World} {ok:Nat→Prop} {A:D} {l:List Int} {v:Value} (h:AgD A l) (hr:RepC w ok A v):RepC w ok (sl' 1 (fun x=>[I x]) l) v:=by
 rcases h with rfl|⟨rfl,rfl⟩
 ·exact hr
 ·obtain rfl:=repC_v hr
  exact .s0 _ _ none 0 (fun _=>rfl) (Nat.zero_le _)
theorem rep_by {w:World} {ok:Nat→Prop} {A:D} {l:List UInt8} {v:Value} (h:ByD A l) (hr:RepC w ok A v):RepC w ok (bytesD l) v:=by
 rcases h with rfl|⟨rfl,rfl⟩
 ·exact hr
 ·obtain rfl:=repC_v hr
  exact .s0 _ _ none 0 (fun _=>rfl) (Nat.zero_le _)
theorem rep_frD {w:World} {ok:Nat→Prop} {f:Frame} {A B:D} {v:Value} (hA:AgD A f.ages) (hB:ByD B f.body) (h:RepC w ok (.r (frC f A B)) v):RepC w ok (.r (frD f)) v:=by
 cases h with
 | @r _ us hl hd =>
  refine .r hl fun j d v h1 h2 => ?_
  by_cases h9:j=9
  ·subst h9
   cases h1
   exact rep_ag hA (hd 9 _ _ rfl h2)
  ·by_cases h13:j=13
   ·subst h13
    cases h1
    exact rep_by hB (hd 13 _ _ rfl h2)
   ·refine hd j d v ?_ h2
    match j,h1 with
    | 0,h1=>exact h1
    | 1,h1=>exact h1
    | 2,h1=>exact h1
    | 3,h1=>exact h1
    | 4,h1=>exact h1
    | 5,h1=>exact h1
    | 6,h1=>exact h1
    | 7,h1=>exact h1
    | 8,h1=>exact h1
    | 9,h1=>exact absurd rfl h9
    | 10,h1=>exact h1
    | 11,h1=>exact h1
    | 12,h1=>exact h1
    | 13,h1=>exact absurd rfl h13
    | j+14,h1=>exact absurd h1 (by simp [frD,frC])
theorem PC.frame {f:FuncId} {ds:List D} {res:Except (Int×Nat) Frame} (h:PC Tryz.prog [] f ds (RdE res)):PC Tryz.prog [] f ds (· = D.t [D.r (frD (frOf res)),I (noOf (errOf res)),I (atOf (errOf res):Nat)]):=by
 intro κ w vs h1 h2 h3 h4
 refine Calls.mono (h κ w vs h1 h2 h3 h4) ?_
 rintro e w' ⟨v,d,he,⟨A,B,hA,hB,rfl⟩,hr,hb⟩
 refine ⟨v,_,he,rfl,?_,hb⟩
 cases hr with
 | @t _ us hl hd =>
  refine .t hl fun j d v k1 k2 => ?_
  match j,k1 with
  | 0,k1 =>
   cases k1
   exact rep_frD hA hB (hd 0 _ _ rfl k2)
  | 1,k1=>exact hd 1 _ _ k1 k2
  | 2,k1=>exact hd 2 _ _ k1 k2
  | j+3,k1=>exact absurd k1 (by simp)
theorem read_pcS (b x:List UInt8) (hb2:b.length≤1000000) (hO:PC Tryz.prog [] 95 [bytesD b] (· = .t [bytesD x,.v (.bool false)])) (hs:x.length≤1000000) (hz:isSealed b=false):PC Tryz.prog [] 64 [bytesD b] ((RdE (decX b))):=by
 refine PC.of (N:=148) Tryz.func64 rfl rfl (Nat.le_of_ble_eq_true rfl) ?_
 refine PW.a [0,2] 1 (PW.q [0,2,11] 1 (PW.cd (decide ((b.length:Int)<(7:Int))) ?_ ?_)) <;> intro hz0 <;> try simp only [boolS] at hz0
 ·refine PW.t [2,3,4] 1 (rq (D.t [D.r [I 0,I 0,I 0,I 0,I 0,I 0,D.v (.bool false),I 0,I 0,D.v (.slice none 0 0),I 0,I 0,I 0,D.v (.slice none 0 0)],I 2,I 0]) ?_)
  rw [show decX b = .error (2,0) from by unfold decX; rw [if_pos oM]]; exact rde_err (2,0)
 ·refine PW.k (PW.w 1 [0,2,14] 1 (PL.gc (A:=[]) (fun _=>hO) (PL.n 5 [0,2,5,6] 1 (PW.q [0,2,5,19] 1 ?_))))
  refine PW.cd true (fun hz1 => ?_) (fun hz1=>by cases hz1)
  refine PW.t [2,3,4] 1 (rq (D.t [D.r [I 0,I 0,I 0,I 0,I 0,I 0,D.v (.bool false),I 0,I 0,D.v (.slice none 0 0),I 0,I 0,I 0,D.v (.slice none 0 0)],I 4,I (IntKind.i64.wrap ((b.length:Int)-4))]) ?_)
  rw [show decX b = .error (4,b.length-4) from by unfold decX; rw [if_neg oM,hz,if_neg (by decide)],show IntKind.i64.wrap ((b.length:Int)-4)=((b.length-4:Nat):Int) by rw [Ev.wrap_i64 oM oM]; omega]; exact rde_err (4,b.length-4)
theorem read_pcT (b x:List UInt8) (hb2:b.length≤1000000) (hO:PC Tryz.prog [] 95 [bytesD b] (· = .t [bytesD x,.v (.bool true)])) (hs:x.length≤1000000) (hb:b.length<7):PC Tryz.prog [] 64 [bytesD b] ((RdE (decX b))):=by
 refine PC.of (N:=148) Tryz.func64 rfl rfl (Nat.le_of_ble_eq_true rfl) ?_
 refine PW.a [0,2] 1 (PW.q [0,2,11] 1 (PW.cd (decide ((b.length:Int)<(7:Int))) ?_ ?_)) <;> intro hz0 <;> try simp only [boolS] at hz0
 ·refine PW.t [2,3,4] 1 (rq (D.t [D.r [I 0,I 0,I 0,I 0,I 0,I 0,D.v (.bool false),I 0,I 0,D.v (.slice none 0 0),I 0,I 0,I 0,D.v (.slice none 0 0)],I 2,I 0]) ?_)
  rw [show decX b = .error (2,0) from by unfold decX; rw [if_pos oM]]; exact rde_err (2,0)
 ·refine PW.k (PW.seq ?_)
  exfalso; omega
theorem read_pcK (b x:List UInt8) (hb2:b.length≤1000000) (hO:PC Tryz.prog [] 95 [bytesD b] (· = .t [bytesD x,.v (.bool true)])) (hs:x.length≤1000000) (hb:7≤b.length) (hx:x.length+4=b.length) (hd:decX b = .error (5,0)) (hk2:¬(1≤((x.getD 0 default).toNat:Int)∧((x.getD 0 default).toNat:Int)≤5)):PC Tryz.prog [] 64 [bytesD b] ((RdE (decX b))):=by
 refine PC.of (N:=148) Tryz.func64 rfl rfl (Nat.le_of_ble_eq_true rfl) ?_
 refine PW.a [0,2] 1 (PW.q [0,2,11] 1 (PW.cd (decide ((b.length:Int)<(7:Int))) ?_ ?_)) <;> intro hz0 <;> try simp only [boolS] at hz0
 ·refine PW.t [2,3,4] 1 (rq (D.t [D.r [I 0,I 0,I 0,I 0,I 0,I 0,D.v (.bool false),I 0,I 0,D.v (.slice none 0 0),I 0,I 0,I 0,D.v (.slice none 0 0)],I 2,I 0]) ?_)
  exfalso; omega
 ·refine PW.k (PW.w 1 [0,2,14] 1 (PL.gc (A:=[]) (fun _=>hO) (PL.n 5 [0,2,5,6] 1 (PW.q [0,2,5,19] 1 (PW.cd false (fun hz1=>by cases hz1) (fun hz1 => ?_))))))
  refine PW.k (PW.seq (PW.sr [2,5,33] 1 (p:=(0≤(0:Int)∧(0:Int)<(x.length:Int))∧(((decide (((x.getD 0 default).toNat:Int)<(1:Int)))=false∧True→0≤(0:Int)∧(0:Int)<(x.length:Int)))) nD (PW.cd ((decide (((x.getD 0 default).toNat:Int)<(1:Int)))||(decide (((x.getD 0 default).toNat:Int)>(5:Int)))) ?_ ?_))) <;> intro hz2 <;> try simp only [boolS] at hz2
  ·refine PW.t [2,3,4] 1 (rq (D.t [D.r [I 0,I 0,I 0,I 0,I 0,I 0,D.v (.bool false),I 0,I 0,D.v (.slice none 0 0),I 0,I 0,I 0,D.v (.slice none 0 0)],I 5,I 0]) ?_)
   rw [hd]; exact rde_err (5,0)
  ·refine PW.k (PW.seq ?_)
   exfalso; omega
theorem read_pcA (b:List UInt8) (hb2:b.length≤1000000):PC Tryz.prog [] 64 [bytesD b] (· = D.t [D.r (frD (frOf (decX b))),I (noOf (errOf (decX b))),I (atOf (errOf (decX b)):Nat)]):=by
 refine PC.frame ?_
 have hO:=openR_pc b hb2
 have hs:(inner b).length≤1000000:=by unfold inner; split <;> simp <;> omega
 cases hz:isSealed b with
 | false=>rw [hz] at hO; exact read_pcS b (inner b) hb2 hO hs hz
 | true =>
  rw [hz] at hO
  by_cases h7:b.length<7
  ·exact read_pcT b (inner b) hb2 hO hs h7
  ·have hin:=inner_yes hz
   have hlen:(inner b).length+4=b.length:=by rw [hin,List.length_take]; omega
   have hdx:decX b=readX (inner b):=by unfold decX; rw [if_neg h7,if_pos hz,hin]
   have e:((num ((inner b).take 1):Nat):Int)=(((inner b).getD 0 default).toNat:Int):=by
    cases hx:inner b with
    | nil=>rw [hx] at hlen; simp at hlen; omega
    | cons d t =>
     have e:num (List.take 1 (d::t))=d.toNat:=by simp [num]
     rw [e]; rfl
   by_cases hk:1≤num ((inner b).take 1)∧num ((inner b).take 1)≤5
   ·rw [hdx]
    exact read_pc b (inner b) oM hb2 hO hlen hk oM hs
   ·exact read_pcK b (inner b) hb2 hO hs oM hlen (by rw [hdx]; unfold readX; rw [if_neg hk]) oM
end Go.Proofs.YtdomlccfjnkbjaaGreatDoor.Fr
namespace Go.Proofs.YtdomlccfjnkbjaaGreatDoor.Fr
open Go.RowKit Go.Proofs.YtdomlccfjnkbjaaGreatDoor.Sm Go.Proofs.YtdomlccfjnkbjaaGreatDoor.Wr Go.Proofs.YtdomlccfjnkbjaaGreatDoor.Dp
set_option maxHeartbeats 4000000
set_option maxRecDepth 100000
set_option linter.unusedVariables false
set_option linter.unusedSimpArgs false
theorem decodeR_pc (b:List UInt8) (f:Frame) (no at_:Int) (hR:PC Tryz.prog [] 64 [bytesD b] (· = D.t [D.r (frD f),I no,I at_])):PC Tryz.prog [] 34 [bytesD b] ((· = D.t [D.r (frD f),I no])):=by
 refine PC.of (N:=15) Tryz.func34 rfl rfl (Nat.le_of_ble_eq_true rfl) ?_
 refine PW.a [0,2] 1 (PW.w 1 [2,8] 1 (PL.gc (A:=[]) (fun _=>hR) (PL.n 8 [2,4,5] 2 (PW.t [2,3] 2 (rq (D.t [D.r [I f.kind,I f.part,I f.node,I f.wait,I f.mask,I f.link,D.v (.bool f.flag),I f.cycle,I f.offset,sl' 1 (fun x=>[I x]) f.ages,I f.frm,I f.to,I f.seq,bytesD f.body],I no]) ?_)))))
 rfl
theorem wf_dec (x:List UInt8):Wf (frOf (decX x))∧∀ d ∈ (frOf (decX x)).ages, -9223372036854775808≤d∧d≤9223372036854775807:=by
 have hb:Wf (bare 0 0 0)∧∀ d ∈ (bare 0 0 0).ages, -9223372036854775808≤d∧d≤9223372036854775807:=⟨by unfold Wf Is64 bare; dsimp only; omega,fun d hd=>by cases hd⟩
 unfold decX
 split
 ·exact hb
 ·split
  ·exact wf_fr _
  ·exact hb
theorem frv_of {w':World} {ok:Nat→Prop} {f:Frame} {v:Value} (hf:Wf f∧∀ d ∈ f.ages, -9223372036854775808≤d∧d≤9223372036854775807) (hok:∀ g,ok g→g<w'.heap.size) (h:RepC w' ok (.r (frD f)) v):∃ cs:List Value,v = .agg cs.toArray∧FrV w' w'.heap.size (.agg cs.toArray) f:=by
 cases h with
 | @r _ us hl2 hd2 =>
  match us,hl2 with
  | [u0,u1,u2,u3,u4,u5,u6,u7,u8,u9,u10,u11,u12,u13],_ =>
   obtain rfl:=repC_v (hd2 0 _ _ rfl rfl)
   obtain rfl:=repC_v (hd2 1 _ _ rfl rfl)
   obtain rfl:=repC_v (hd2 2 _ _ rfl rfl)
   obtain rfl:=repC_v (hd2 3 _ _ rfl rfl)
   obtain rfl:=repC_v (hd2 4 _ _ rfl rfl)
   obtain rfl:=repC_v (hd2 5 _ _ rfl rfl)
   obtain rfl:=repC_v (hd2 6 _ _ rfl rfl)
   obtain rfl:=repC_v (hd2 7 _ _ rfl rfl)
   obtain rfl:=repC_v (hd2 8 _ _ rfl rfl)
   obtain ⟨a1,n1,c1,rfl,hr1⟩:=ag_row (B:=w'.heap.size) (.inl rfl) (hd2 9 _ _ rfl rfl) hok hf.2
   obtain rfl:=repC_v (hd2 10 _ _ rfl rfl)
   obtain rfl:=repC_v (hd2 11 _ _ rfl rfl)
   obtain rfl:=repC_v (hd2 12 _ _ rfl rfl)
   obtain ⟨a2,n2,c2,rfl,hr2⟩:=by_row (B:=w'.heap.size) (.inl rfl) (hd2 13 _ _ rfl rfl) hok
   exact ⟨_,rfl,⟨a1,n1,c1,a2,n2,c2,rfl,hr1,hr2,hf.1⟩⟩
end Go.Proofs.YtdomlccfjnkbjaaGreatDoor.Fr
