/- The document's own reader of fields. -/
import Derived.Test.YtdomlccfjnkbjaaGreatDoorRdOne
import Derived.Test.YtdomlccfjnkbjaaGreatDoorFrList
import Derived.Test.YtdomlccfjnkbjaaGreatDoorFrAlive
import Derived.Test.YtdomlccfjnkbjaaGreatDoorFrEncM
import Derived.Test.YtdomlccfjnkbjaaGreatDoorWrR
import Derived.Test.YtdomlccfjnkbjaaGreatDoorLsArg
namespace Go.Proofs.YtdomlccfjnkbjaaGreatDoor.Pl
open Go.RowKit Go.Proofs.YtdomlccfjnkbjaaGreatDoor.Sm Go.Proofs.YtdomlccfjnkbjaaGreatDoor.Dp
open Go.Proofs.YtdomlccfjnkbjaaGreatDoor.Wr
open Go.Proofs.YtdomlccfjnkbjaaGreatDoor.Fr (runP runP_ok runP_error numP offP Par)
set_option maxHeartbeats 4000000
set_option maxRecDepth 100000
set_option linter.unusedVariables false
set_option linter.unusedSimpArgs false
def fobj (l:List UInt8) (at_:Nat) (bad:Bool) (e p:Int):Dp.Obj := .var 148 [bytesD l,I (at_:Int),.v (.bool bad),I e,I p]
def Rel (st:Except (Int×Nat) Nat) (at_:Nat) (bad:Bool) (e p:Int):Prop:=match st with
 | .ok pos=>at_=pos∧bad=false∧e=0
 | .error z=>z.1≠0∧e=z.1∧p=(z.2:Int)
def FO (l:List UInt8) (st:Except (Int×Nat) Nat) (ob:Dp.Obj):Prop:=∃ (at_:Nat) (bad:Bool) (e p:Int),Rel st at_ bad e p∧at_≤l.length∧ob = .var 148 [bytesD l,I (at_:Int),.v (.bool bad),I e,I p]
theorem copyR_pc (l:List UInt8) (hl:l.length≤1000000):PC Tryz.prog [] 73 [bytesD l] (· = bytesD l):=PC.made8 hl fun a n c w hr hn=>copyR_calls a n c l w hr oM
theorem rnum_pc (l:List UInt8):PC Tryz.prog [] 161 [bytesD l] (· = I (numI l)):=PC.of8 fun a n c w hr=>Wr.numberR_calls a n c l _ w hr
theorem roff_pc (l:List UInt8):PC Tryz.prog [] 163 [bytesD l] (· = I (offI l)):=PC.of8 fun a n c w hr=>Wr.offsetR_calls a n c l _ w hr
theorem piece8 {l:List UInt8} {a m n:Nat} (hm:m=n) (h:a+n≤l.length) {w:World} {ok:Nat→Prop} {v:Value} (hr:RepC w ok (D.s m 1 (fun k=>(fun i=>u8d (l.getD i default)) (a+k))) v):RepC w ok (bytesD ((l.drop a).take n)) v:=by
 refine hr.same (by rw [List.length_take,List.length_drop]; omega) fun i hi => ?_
 dsimp only
 rw [List.getD_eq_getElem?_getD,List.getD_eq_getElem?_getD,List.getElem?_take,if_pos oM,List.getElem?_drop]
theorem dTake_pm (l:List UInt8) (at_ k:Nat) (bad:Bool) (e p:Int) (hk:k≤1000000) (ha:at_+k≤l.length) (hb:bad=false) (hs:l.length≤1000000):PM Tryz.prog [] 130 [D.p 0 0 0 0,I (k:Int)] (Obj.var 148 [bytesD l,I (at_:Int),D.v (.bool bad),I e,I p]) (fun d m=>d=bytesD ((l.drop at_).take k)∧m=fobj l (at_+k) bad e p):=by
 refine PM.of (N:=57) Tryz.func130 rfl rfl (Nat.le_of_ble_eq_true rfl) ?_
 have hw9:IntKind.i64.wrap ((l.length:Int)-(at_:Int))=(l.length:Int)-(at_:Int):=Ev.wrap_i64 oM oM
 have hw8:IntKind.i64.wrap ((at_:Int)+(k:Int))=(at_:Int)+(k:Int):=Ev.wrap_i64 oM oM
 refine PW.a [0,1] 1 (PW.seq (PW.seq (PW.open [] kR ?_)))
 refine PO.a [0,1,2,3,4,5,6,7,8,9,10,11,12,13,14,15,16,17,18,19,20,21] 22 [0,1,27] 0 (PO.done kR ?_)
 show PW _ _ _ _ _
 refine PW.cd ((bad||(decide ((k:Int)<(0:Int))))||(decide ((k:Int)>(IntKind.i64.wrap ((l.length:Int)-(at_:Int)))))) ?_ ?_ <;> intro hz0 <;> try simp only [boolS] at hz0
 ·refine PW.a [] 1 (PW.t [4] 1 ?_)
  refine retM_ret (d:=D.v (.slice none 0 0)) (ps:=[]) (ob:=Obj.var 148 [bytesD l,I (at_:Int),D.v (.bool true),I e,I p]) kR trivial kR kR ?_
  exfalso
  rw [hb,hw9] at hz0
  simp at hz0
  omega
 ·refine PW.k (PW.seq (PW.open [] kR (PO.tk [0,1,2,3,4,5,6,7,8,9,10,11,12,13,14] 17 [0,1,45] 2 (p:=(0≤(at_:Int)∧(at_:Int)≤(IntKind.i64.wrap ((at_:Int)+(k:Int)))∧(IntKind.i64.wrap ((at_:Int)+(k:Int)))≤(l.length:Int))) oM (fun _ _ h=>h) (PO.one (n:=1) 15 kR ?_))))
  refine PO1.gc _ (ds0:=[D.s (((IntKind.i64.wrap ((at_:Int)+(k:Int))).toNat)-at_) 1 (fun k=>(fun i=>u8d (l.getD i default)) (at_+k))]) (A:=[]) (fun _=>PC.arg (ds:=[D.s (((IntKind.i64.wrap ((at_:Int)+(k:Int))).toNat)-at_) 1 (fun k=>(fun i=>u8d (l.getD i default)) (at_+k))]) 0 (bytesD ((l.drop at_).take k)) rfl (fun w ok v hv=>piece8 (by rw [Ev.wrap_i64 oM oM]; omega) ha hv) (copyR_pc _ (by rw [List.length_take]; omega))) ?_ rfl
  refine PO.a [16] 1 [0,1,5] 0 (PO.done kR ?_)
  show PW _ _ _ _ _
  refine PW.a [5] 1 (PW.t [4] 1 ?_)
  refine retM_ret (d:=bytesD ((l.drop at_).take k)) (ps:=[]) (ob:=Obj.var 148 [bytesD l,I (IntKind.i64.wrap ((at_:Int)+(k:Int))),D.v (.bool bad),I e,I p]) kR trivial kR kR ?_
  rw [show IntKind.i64.wrap ((at_:Int)+(k:Int))=((at_+k:Nat):Int) by rw [Ev.wrap_i64 oM oM]; omega]
  exact ⟨rfl,rfl⟩
theorem dwide_pm (l:List UInt8) (at_ k:Nat) (bad:Bool) (e p:Int) (hk:1≤k∧k≤7) (ha:at_+k≤l.length) (hb:bad=false) (hs:l.length≤1000000):PM Tryz.prog [] 162 [D.p 0 0 0 0,I (k:Int)] (Obj.var 148 [bytesD l,I (at_:Int),D.v (.bool bad),I e,I p]) (fun d m=>d=bytesD ((l.drop at_).take k)∧m=fobj l (at_+k) bad e p):=by
 refine PM.of (N:=17) Tryz.func162 rfl rfl (Nat.le_of_ble_eq_true rfl) ?_
 refine PW.a [0,1] 1 (PW.q [0,1,10] 1 (PW.cd ((decide ((k:Int)<(1:Int)))||(decide ((k:Int)>(7:Int)))) ?_ ?_)) <;> intro hz0 <;> try simp only [boolS] at hz0
 ·(exfalso; omega)
 ·refine PW.k (PW.w 2 [14,15] 1 (PL.cm (f:=130) (ds:=[D.p 0 0 0 0,I (k:Int)]) (ob:=Obj.var 148 [bytesD l,I (at_:Int),D.v (.bool bad),I e,I p]) 0 (dTake_pm l at_ k bad e p oM ha hb hs) ?_))
  rintro _ _ ⟨rfl,rfl⟩
  refine PL.n 1 [4] 1 (PW.ret ?_)
  refine retM_ret (d:=bytesD ((l.drop at_).take k)) (ps:=[]) (ob:=Obj.var 148 [bytesD l,I ((at_+k):Int),D.v (.bool bad),I e,I p]) kR trivial kR kR ?_
  exact ⟨rfl,rfl⟩
theorem dNumber_pm (l:List UInt8) (at_ k:Nat) (bad:Bool) (e p:Int) (hk:1≤k∧k≤7) (ha:at_+k≤l.length) (hb:bad=false) (hs:l.length≤1000000):PM Tryz.prog [] 128 [D.p 0 0 0 0,I (k:Int)] (Obj.var 148 [bytesD l,I (at_:Int),D.v (.bool bad),I e,I p]) (fun d m=>d=I (numI ((l.drop at_).take k))∧m=fobj l (at_+k) bad e p):=by
 refine PM.of (N:=9) Tryz.func128 rfl rfl (Nat.le_of_ble_eq_true rfl) ?_
 refine PW.a [0,1] 1 (PW.w 2 [5,6] 1 (PL.cm (f:=162) (ds:=[D.p 0 0 0 0,I (k:Int)]) (ob:=Obj.var 148 [bytesD l,I (at_:Int),D.v (.bool bad),I e,I p]) 0 (dwide_pm l at_ k bad e p hk ha hb hs) ?_))
 rintro _ _ ⟨rfl,rfl⟩
 refine PL.gc (A:=[]) (fun _=>rnum_pc ((l.drop at_).take k)) (PL.n 1 [4] 1 (PW.ret ?_))
 refine retM_ret (d:=I (numI ((l.drop at_).take k))) (ps:=[]) (ob:=Obj.var 148 [bytesD l,I ((at_+k):Int),D.v (.bool bad),I e,I p]) kR trivial kR kR ?_
 exact ⟨rfl,rfl⟩
theorem dOffset_pm (l:List UInt8) (at_ k:Nat) (bad:Bool) (e p:Int) (hk:1≤k∧k≤7) (ha:at_+k≤l.length) (hb:bad=false) (hs:l.length≤1000000):PM Tryz.prog [] 129 [D.p 0 0 0 0,I (k:Int)] (Obj.var 148 [bytesD l,I (at_:Int),D.v (.bool bad),I e,I p]) (fun d m=>d=I (offI ((l.drop at_).take k))∧m=fobj l (at_+k) bad e p):=by
 refine PM.of (N:=9) Tryz.func129 rfl rfl (Nat.le_of_ble_eq_true rfl) ?_
 refine PW.a [0,1] 1 (PW.w 2 [5,6] 1 (PL.cm (f:=162) (ds:=[D.p 0 0 0 0,I (k:Int)]) (ob:=Obj.var 148 [bytesD l,I (at_:Int),D.v (.bool bad),I e,I p]) 0 (dwide_pm l at_ k bad e p hk ha hb hs) ?_))
 rintro _ _ ⟨rfl,rfl⟩
 refine PL.gc (A:=[]) (fun _=>roff_pc ((l.drop at_).take k)) (PL.n 1 [4] 1 (PW.ret ?_))
 refine retM_ret (d:=I (offI ((l.drop at_).take k))) (ps:=[]) (ob:=Obj.var 148 [bytesD l,I ((at_+k):Int),D.v (.bool bad),I e,I p]) kR trivial kR kR ?_
 exact ⟨rfl,rfl⟩
def BegR (l:List UInt8) (k at_:Nat) (e p:Int) (z:Bool) (e' p':Int):Prop:=(z=true∧e=0∧at_+k≤l.length∧e'=0∧p'=(at_:Int))∨(z=false∧((e≠0∧e'=e∧p'=p)∨(e=0∧l.length<at_+k∧e'=2∧p'=(at_:Int))))
theorem dbegin_pm (l:List UInt8) (at_ k:Nat) (bad:Bool) (e p:Int) (hk:k≤1000000) (hle:at_≤l.length) (hs:l.length≤1000000):PM Tryz.prog [] 127 [D.p 0 0 0 0,I (k:Int)] (Obj.var 148 [bytesD l,I (at_:Int),D.v (.bool bad),I e,I p]) (fun d m=>∃ z e' p',d=D.v (.bool z)∧m=fobj l at_ bad e' p'∧BegR l k at_ e p z e' p'):=by
 refine PM.of (N:=35) Tryz.func127 rfl rfl (Nat.le_of_ble_eq_true rfl) ?_
 have hw9:IntKind.i64.wrap ((l.length:Int)-(at_:Int))=(l.length:Int)-(at_:Int):=Ev.wrap_i64 oM oM
 refine PW.a [0,1] 1 (PW.q [0,1,9] 1 (PW.cd (e != (0:Int)) ?_ ?_)) <;> intro hz0 <;> try simp only [boolS] at hz0
 ·refine PW.t [4] 1 ?_
  refine retM_ret (d:=D.v (.bool false)) (ps:=[]) (ob:=Obj.var 148 [bytesD l,I (at_:Int),D.v (.bool bad),I e,I p]) kR trivial kR kR ?_
  exact ⟨_,_,_,rfl,rfl,.inr ⟨rfl,.inl ⟨hz0,rfl,rfl⟩⟩⟩
 ·refine PW.k (PW.a [0,1] 1 (PW.seq (PW.seq (PW.open [] kR ?_))))
  refine PO.a [0,1,2,3,4,5,6,7,8,9,10,11,12,13] 14 [0,31] 0 (PO.done kR ?_)
  show PW _ _ _ _ _
  refine PW.cd (decide ((IntKind.i64.wrap ((l.length:Int)-(at_:Int)))<(k:Int))) ?_ ?_ <;> intro hz1 <;> try simp only [boolS] at hz1
  ·refine PW.a [] 1 (PW.t [4] 1 ?_)
   refine retM_ret (d:=D.v (.bool false)) (ps:=[]) (ob:=Obj.var 148 [bytesD l,I (at_:Int),D.v (.bool bad),I 2,I (at_:Int)]) kR trivial kR kR ?_
   exact ⟨_,_,_,rfl,rfl,.inr ⟨rfl,.inr ⟨by omega,by omega,rfl,rfl⟩⟩⟩
  ·refine PW.k (PW.t [4] 1 ?_)
   refine retM_ret (d:=D.v (.bool true)) (ps:=[]) (ob:=Obj.var 148 [bytesD l,I (at_:Int),D.v (.bool bad),I e,I (at_:Int)]) kR trivial kR kR ?_
   exact ⟨_,_,_,rfl,rfl,.inl ⟨rfl,by omega,by omega,by omega,rfl⟩⟩
structure FieldP (Q:Par Int) (l:List UInt8) (at_ k:Nat) (lo hi N:Int):Prop where
 short:l.length<at_+k→Q l at_ = .error (2,at_)
 bad:at_+k≤l.length→¬(lo≤N∧N≤hi)→Q l at_ = .error (6,at_)
 ok:at_+k≤l.length→(lo≤N∧N≤hi)→Q l at_ = .ok (N,at_+k)
theorem field_num (l:List UInt8) (at_ k:Nat) (lo hi:Int) (hk:1≤k∧k≤7):FieldP (numP k lo hi) l at_ k lo hi (numI ((l.drop at_).take k)):=by
 have hlen:((l.drop at_).take k).length≤7:=by rw [List.length_take]; omega
 rw [numI_eq hlen]
 refine ⟨fun h => ?_,fun h h' => ?_,fun h h' => ?_⟩ <;> unfold numP
 ·rw [if_pos h]
 ·rw [if_neg oM,if_neg h']
 ·rw [if_neg oM,if_pos h']
theorem field_off (l:List UInt8) (at_:Nat):FieldP offP l at_ 6 (-1099511627776) 1099511627776 (offI ((l.drop at_).take 6)):=by
 refine ⟨fun h => ?_,fun h h' => ?_,fun h h' => ?_⟩ <;> unfold offP
 ·rw [if_pos h]
 ·rw [if_neg oM,if_neg h']
 ·rw [if_neg oM,if_pos h']
section
variable {l:List UInt8} {at_ k:Nat} {bad:Bool} {e p e' p':Int} {z:Bool} {st:Except (Int×Nat) Nat}
theorem beg_yes (hB:BegR l k at_ e p z e' p') (hR:Rel st at_ bad e p) (hz:z=true):st = .ok at_∧bad=false∧at_+k≤l.length∧e'=0∧p'=(at_:Int):=by
 rcases hB with ⟨_,h1,h2,h3,h4⟩|⟨h,_⟩
 ·cases st with
  | ok pos=>obtain ⟨rfl,h5,_⟩:=hR; exact ⟨rfl,h5,h2,h3,h4⟩
  | error y=>exact absurd (hR.2.1▸h1) hR.1
 ·rw [hz] at h; cases h
theorem beg_no {α : Type} {Q:Par α} {d : α} (hB:BegR l k at_ e p z e' p') (hR:Rel st at_ bad e p) (hz:z=false) (hQ:l.length<at_+k→Q l at_ = .error (2,at_)):(runP Q d l st).1=d∧Rel (runP Q d l st).2 at_ bad e' p':=by
 rcases hB with ⟨h,_⟩|⟨_,⟨h1,rfl,rfl⟩|⟨h1,h2,rfl,rfl⟩⟩
 ·rw [hz] at h; cases h
 ·cases st with
  | ok pos=>exact absurd hR.2.2 h1
  | error y=>exact ⟨rfl,hR⟩
 ·cases st with
  | ok pos =>
   obtain ⟨rfl,_,_⟩:=hR
   rw [runP_error (hQ h2)]
   exact ⟨rfl,by simp,rfl,rfl⟩
  | error y=>exact absurd (hR.2.1▸h1) hR.1
theorem field_bad {Q:Par Int} {lo hi N:Int} (F:FieldP Q l at_ k lo hi N) (hy:st = .ok at_∧bad=false∧at_+k≤l.length∧e'=0∧p'=(at_:Int)) (hz:¬(lo≤N∧N≤hi)):(runP Q 0 l st).1=0∧Rel (runP Q 0 l st).2 (at_+k) bad 6 p':=by
 obtain ⟨rfl,h1,h2,h3,rfl⟩:=hy
 rw [runP_error (F.bad h2 hz)]
 exact ⟨rfl,by simp,rfl,rfl⟩
theorem field_ok {Q:Par Int} {lo hi N:Int} (F:FieldP Q l at_ k lo hi N) (hy:st = .ok at_∧bad=false∧at_+k≤l.length∧e'=0∧p'=(at_:Int)) (hz:lo≤N∧N≤hi):(runP Q 0 l st).1=N∧Rel (runP Q 0 l st).2 (at_+k) bad e' p':=by
 obtain ⟨rfl,h1,h2,h3,rfl⟩:=hy
 rw [runP_ok (F.ok h2 hz)]
 exact ⟨rfl,rfl,h1,h3⟩
end
theorem dwithin_pc (n lo hi:Int):PC Tryz.prog [] 69 [I n,I lo,I hi] (· = D.v (.bool (decide (lo≤n∧n≤hi)))):=by
 refine PC.of (N:=15) Tryz.func69 rfl rfl (Nat.le_of_ble_eq_true rfl) ?_
 refine PW.a [0,1,2] 0 (PW.t [6] 0 (rq (D.v (.bool ((decide (n≥lo))&&(decide (n≤hi))))) ?_))
 refine congrArg (fun b=>D.v (.bool b)) ?_
 rw [Bool.eq_iff_iff]
 simp
theorem dtime_pc (n:Int):PC Tryz.prog [] 70 [I n] (· = D.v (.bool (decide (-1099511627776≤n∧n≤1099511627776)))):=by
 refine PC.of (N:=9) Tryz.func70 rfl rfl (Nat.le_of_ble_eq_true rfl) ?_
 refine PW.a [0] 0 (PW.t [2] 0 (rq (D.v (.bool ((decide (n≥((-1099511627776):Int)))&&(decide (n≤(1099511627776:Int)))))) ?_))
 refine congrArg (fun b=>D.v (.bool b)) ?_
 rw [Bool.eq_iff_iff]
 simp
theorem dnumber_pm0 (l:List UInt8) (at_:Nat) (bad:Bool) (e p:Int) (st:Except (Int×Nat) Nat) (hR:Rel st at_ bad e p) (hle:at_≤l.length) (hs:l.length≤1000000) (k:Nat) (lo hi:Int) (hk:1≤k∧k≤7):PM Tryz.prog [] 96 [D.p 0 0 0 0,I (k:Int),I lo,I hi] (Obj.var 148 [bytesD l,I (at_:Int),D.v (.bool bad),I e,I p]) (fun d ob'=>∃ V s',(runP (numP k lo hi) 0 l st).1=V∧(runP (numP k lo hi) 0 l st).2=s'∧d=I V∧FO l s' ob'):=by
 refine PM.of (N:=28) Tryz.func96 rfl rfl (Nat.le_of_ble_eq_true rfl) ?_
 refine PW.a [0,1,2,3] 1 (PW.seq (PW.w 2 [0,1,2,3,10,11] 1 (PL.cm (f:=127) (ds:=[D.p 0 0 0 0,I (k:Int)]) (ob:=Obj.var 148 [bytesD l,I (at_:Int),D.v (.bool bad),I e,I p]) 0 (dbegin_pm l at_ k bad e p oM oM hs) ?_)))
 rintro _ _ ⟨z1,f1,q1,rfl,rfl,hB1⟩
 refine PL.n 1 [0,1,2,3,13] 1 (PW.cd (!z1) ?_ ?_) <;> intro hz0 <;> try simp only [boolS] at hz0
 ·try have hy:=beg_yes hB1 hR (by simpa using hz0)
  refine PW.t [8] 1 ?_
  refine retM_ret (d:=I 0) (ps:=[]) (ob:=Obj.var 148 [bytesD l,I (at_:Int),D.v (.bool bad),I f1,I q1]) kR trivial kR kR ?_
  obtain ⟨a1,a2⟩:=beg_no hB1 hR (d:=0) (Q:=numP k lo hi) (by simpa using hz0) (field_num l at_ k lo hi hk).short
  exact ⟨_,_,a1,rfl,rfl,_,_,_,_,a2,hle,rfl⟩
 ·try have hy:=beg_yes hB1 hR (by simpa using hz0)
  refine PW.k (PW.w 4 [0,2,3,16,17] 1 (PL.cm (f:=128) (ds:=[D.p 0 0 0 0,I (k:Int)]) (ob:=Obj.var 148 [bytesD l,I (at_:Int),D.v (.bool bad),I f1,I q1]) 0 (dNumber_pm l at_ k bad f1 q1 hk hy.2.2.1 hy.2.1 hs) ?_))
  rintro _ _ ⟨rfl,rfl⟩
  refine PL.n 1 [0,2,3,9] 1 (PW.seq (PW.w 3 [0,9,19,20,21] 1 (PL.gc (A:=[]) (fun _=>dwithin_pc (numI ((l.drop at_).take k)) lo hi) (PL.n 1 [0,9,23] 1 (PW.cd (!(decide (lo≤numI ((l.drop at_).take k)∧numI ((l.drop at_).take k)≤hi))) ?_ ?_))))) <;> intro hz1 <;> try simp only [boolS] at hz1
  ·try have hy:=beg_yes hB1 hR (by simpa using hz0)
   refine PW.a [] 1 (PW.t [8] 1 ?_)
   refine retM_ret (d:=I 0) (ps:=[]) (ob:=Obj.var 148 [bytesD l,I ((at_+k):Int),D.v (.bool bad),I 6,I q1]) kR trivial kR kR ?_
   obtain ⟨a1,a2⟩:=field_bad (field_num l at_ k lo hi hk) hy (by simpa using hz1)
   exact ⟨_,_,a1,rfl,rfl,_,_,_,_,a2,hy.2.2.1,rfl⟩
  ·try have hy:=beg_yes hB1 hR (by simpa using hz0)
   refine PW.k (PW.t [8] 1 ?_)
   refine retM_ret (d:=I (numI ((l.drop at_).take k))) (ps:=[]) (ob:=Obj.var 148 [bytesD l,I ((at_+k):Int),D.v (.bool bad),I f1,I q1]) kR trivial kR kR ?_
   obtain ⟨a1,a2⟩:=field_ok (field_num l at_ k lo hi hk) hy (by simpa using hz1)
   exact ⟨_,_,a1,rfl,rfl,_,_,_,_,a2,hy.2.2.1,rfl⟩
theorem doffset_pm0 (l:List UInt8) (at_:Nat) (bad:Bool) (e p:Int) (st:Except (Int×Nat) Nat) (hR:Rel st at_ bad e p) (hle:at_≤l.length) (hs:l.length≤1000000):PM Tryz.prog [] 98 [D.p 0 0 0 0] (Obj.var 148 [bytesD l,I (at_:Int),D.v (.bool bad),I e,I p]) (fun d ob'=>∃ V s',(runP offP 0 l st).1=V∧(runP offP 0 l st).2=s'∧d=I V∧FO l s' ob'):=by
 refine PM.of (N:=18) Tryz.func98 rfl rfl (Nat.le_of_ble_eq_true rfl) ?_
 refine PW.a [0] 1 (PW.seq (PW.w 1 [0,4] 1 (PL.cm (f:=127) (ds:=[D.p 0 0 0 0,I 6]) (ob:=Obj.var 148 [bytesD l,I (at_:Int),D.v (.bool bad),I e,I p]) 0 (dbegin_pm l at_ 6 bad e p oM oM hs) ?_)))
 rintro _ _ ⟨z1,f1,q1,rfl,rfl,hB1⟩
 refine PL.n 1 [0,6] 1 (PW.cd (!z1) ?_ ?_) <;> intro hz0 <;> try simp only [boolS] at hz0
 ·try have hy:=beg_yes hB1 hR (by simpa using hz0)
  refine PW.t [2] 1 ?_
  refine retM_ret (d:=I 0) (ps:=[]) (ob:=Obj.var 148 [bytesD l,I (at_:Int),D.v (.bool bad),I f1,I q1]) kR trivial kR kR ?_
  obtain ⟨a1,a2⟩:=beg_no hB1 hR (d:=0) (Q:=offP) (by simpa using hz0) (field_off l at_).short
  exact ⟨_,_,a1,rfl,rfl,_,_,_,_,a2,hle,rfl⟩
 ·try have hy:=beg_yes hB1 hR (by simpa using hz0)
  refine PW.k (PW.w 3 [0,9] 1 (PL.cm (f:=129) (ds:=[D.p 0 0 0 0,I 6]) (ob:=Obj.var 148 [bytesD l,I (at_:Int),D.v (.bool bad),I f1,I q1]) 0 (dOffset_pm l at_ 6 bad f1 q1 oM hy.2.2.1 hy.2.1 hs) ?_))
  rintro _ _ ⟨rfl,rfl⟩
  refine PL.n 1 [0,3] 1 (PW.seq (PW.w 1 [0,3,11] 1 (PL.gc (A:=[]) (fun _=>dtime_pc (offI ((l.drop at_).take 6))) (PL.n 1 [0,3,13] 1 (PW.cd (!(decide (-1099511627776≤offI ((l.drop at_).take 6)∧offI ((l.drop at_).take 6)≤1099511627776))) ?_ ?_))))) <;> intro hz1 <;> try simp only [boolS] at hz1
  ·try have hy:=beg_yes hB1 hR (by simpa using hz0)
   refine PW.a [] 1 (PW.t [2] 1 ?_)
   refine retM_ret (d:=I 0) (ps:=[]) (ob:=Obj.var 148 [bytesD l,I ((at_+6):Int),D.v (.bool bad),I 6,I q1]) kR trivial kR kR ?_
   obtain ⟨a1,a2⟩:=field_bad (field_off l at_) hy (by simpa using hz1)
   exact ⟨_,_,a1,rfl,rfl,_,_,_,_,a2,hy.2.2.1,rfl⟩
  ·try have hy:=beg_yes hB1 hR (by simpa using hz0)
   refine PW.k (PW.t [2] 1 ?_)
   refine retM_ret (d:=I (offI ((l.drop at_).take 6))) (ps:=[]) (ob:=Obj.var 148 [bytesD l,I ((at_+6):Int),D.v (.bool bad),I f1,I q1]) kR trivial kR kR ?_
   obtain ⟨a1,a2⟩:=field_ok (field_off l at_) hy (by simpa using hz1)
   exact ⟨_,_,a1,rfl,rfl,_,_,_,_,a2,hy.2.2.1,rfl⟩
theorem fnumber_pm (l:List UInt8) (st:Except (Int×Nat) Nat) {ob:Dp.Obj} (hO:FO l st ob) (hs:l.length≤1000000) (k:Nat) (lo hi:Int) (hk:1≤k∧k≤7):PM Tryz.prog [] 96 [.p 0 0 0 0,.v (.int .i64 (k:Int)),.v (.int .i64 lo),.v (.int .i64 hi)] ob (fun d ob'=>∃ V s',(runP (numP k lo hi) 0 l st).1=V∧(runP (numP k lo hi) 0 l st).2=s'∧d=I V∧FO l s' ob'):=by
 obtain ⟨at_,bad,e,p,hR,hle,rfl⟩:=hO
 exact dnumber_pm0 l at_ bad e p st hR hle hs k lo hi hk
theorem foffset_pm (l:List UInt8) (st:Except (Int×Nat) Nat) {ob:Dp.Obj} (hO:FO l st ob) (hs:l.length≤1000000):PM Tryz.prog [] 98 [.p 0 0 0 0] ob (fun d ob'=>∃ V s',(runP offP 0 l st).1=V∧(runP offP 0 l st).2=s'∧d=I V∧FO l s' ob'):=by
 obtain ⟨at_,bad,e,p,hR,hle,rfl⟩:=hO
 exact doffset_pm0 l at_ bad e p st hR hle hs
theorem dages_pm0 (l:List UInt8) (at_:Nat) (bad:Bool) (e p:Int) (st:Except (Int×Nat) Nat) (hR:Rel st at_ bad e p) (hle:at_≤l.length) (hs:l.length≤1000000):PM Tryz.prog [] 97 [D.p 0 0 0 0] (Obj.var 148 [bytesD l,I (at_:Int),D.v (.bool bad),I e,I p]) (fun d ob'=>∃ (L:List Int) (s':Except (Int×Nat) Nat),(∀ pos,s' = .ok pos→(runP Fr.agesP [] l st).1=L)∧(runP Fr.agesP [] l st).2=s'∧(∀ d ∈ L, -9223372036854775808≤d∧d≤9223372036854775807)∧d=sl' 1 (fun x=>[I x]) L∧FO l s' ob'):=by
 refine PM.of (N:=19) Tryz.func97 rfl rfl (Nat.le_of_ble_eq_true rfl) ?_
 refine PW.a [0] 1 (PW.a [0,3] 1 (PW.w 1 [0,3,6] 1 (PL.cm (f:=96) (ds:=[D.p 0 0 0 0,I 1,I 1,I 6]) (ob:=Obj.var 148 [bytesD l,I (at_:Int),D.v (.bool bad),I e,I p]) 0 (fnumber_pm l _ ⟨at_,bad,e,p,hR,hle,rfl⟩ hs 1 1 6 (by decide)) ?_)))
 rintro d ob ⟨V1,s1,hV1,hs1,rfl,at1,bad1,e1,p1,hR1,hle1,rfl⟩
 refine PL.n 1 [0,3,4] 1 (PW.q [0,3,4,5] 1 (PW.block (PW.born 3 3 1 kR (PW.loopR (α := Nat×List Int×Nat×Bool×Int×Int) (fun (i,xs,at9,bad9,e9,p9)=>{ tab:=[⟨0,[],D.p 0 0 0 0⟩,⟨3,[],D.h 1 xs.length⟩,⟨4,[],I V1⟩,⟨5,[],I (i:Int)⟩],mem:=[Obj.var 148 [bytesD l,I (at9:Int),D.v (.bool bad9),I e9,I p9],Obj.row 3 1 xs.length (fun j=>(fun x=>[I x]) (xs.getD j default))],fx:=1 }) (fun (i,xs,at9,bad9,e9,p9)=>i≤V1.toNat∧Rel (Fr.reps l i s1).2 at9 bad9 e9 p9∧at9≤l.length∧xs=(Fr.reps l i s1).1) (fun (i,xs,at9,bad9,e9,p9)=>V1.toNat-i) [0,3,4,5] 2 (0,[],at1,bad1,e1,p1) (s1:={ tab:=[⟨0,[],D.p 0 0 0 0⟩,⟨3,[],D.h 1 0⟩,⟨4,[],I V1⟩,⟨5,[],I 0⟩],mem:=[Obj.var 148 [bytesD l,I (at1:Int),D.v (.bool bad1),I e1,I p1],Obj.row 3 1 0 (fun _=>[])],fx:=1 }) kR kR ?_ ?_ ?_))))
 ·dsimp only
  exact ⟨rfl,rfl,rfl,(.same (.row rfl (fun j hj=>absurd hj (Nat.not_lt_zero _)) .nil))⟩
 ·dsimp only
  exact ⟨Nat.zero_le _,hR1,hle1,rfl⟩
 rintro ⟨i,xs,at9,bad9,e9,p9⟩ hinv
 dsimp only at hinv
 have hR9:=hinv.2.1
 have hle9:=hinv.2.2.1
 have hv6:=Fr.runP_wf (lo:=1) (hi:=6) (k:=1) (x:=l) (st:=st) oM (by decide)
 rw [hV1] at hv6
 have hxl:xs.length=i:=by rw [hinv.2.2.2,Fr.reps_length]
 show PW _ _ _ _ _
 refine PW.q [0,3,4,5,10] 2 (PW.cd (decide ((i:Int)<V1)) ?_ ?_) <;> intro hz0 <;> try simp only [boolS] at hz0
 ·refine PW.k (PW.seq (PW.block (PW.region (PL.a 2 [0,4,5,13,14] 2 (PL.cm (f:=96) (ds:=[D.p 0 0 0 0,I 1,I 0,I 201]) (ob:=Obj.var 148 [bytesD l,I (at9:Int),D.v (.bool bad9),I e9,I p9]) 0 (fnumber_pm l _ ⟨at9,bad9,e9,p9,hR9,hle9,rfl⟩ hs 1 0 201 (by decide)) ?_)))))
  rintro d ob ⟨V2,s2,hV2,hs2,rfl,at2,bad2,e2,p2,hR2,hle2,rfl⟩
  refine PL.rw 2 [0,4,5,17] 3 (p:=((xs.length=xs.length∧1≤1)∧(xs.length+1)*8≤140737488355328∧xs.length+1≤9223372036854775807)) oM (PL.ap 1 (fun x=>[I x]) xs (V2) (PL.a 1 [0,3,4,5] 3 (PL.nil ?_)))
  show PW _ _ _ _ _
  refine PW.b [0,3,4,5] 3 ?_
  refine BackR.of (s1:={ tab:=[⟨0,[],D.p 0 0 0 0⟩,⟨3,[],D.h 1 (xs.length+1)⟩,⟨4,[],I V1⟩,⟨5,[],I (IntKind.i64.wrap ((i:Int)+1))⟩],mem:=[Obj.var 148 [bytesD l,I (at2:Int),D.v (.bool bad2),I e2,I p2],Obj.row 3 1 (xs.length+1) (fun j=>(fun x=>[I x]) ((xs++[V2]).getD j default))],fx:=1 }) (i+1,xs++[V2],at2,bad2,e2,p2) kR kR ?_ ?_ ?_
  ·dsimp only
   rw [show IntKind.i64.wrap ((i:Int)+1)=((i+1:Nat):Int) by rw [Ev.wrap_i64 oM oM]; omega]
   try simp only [List.length_append,List.length_singleton]
   exact Rem.refl _
  ·dsimp only
   exact ⟨by omega,by rw [show (Fr.reps l (i+1) s1).2=s2 from hs2]; exact hR2,hle2,by rw [hinv.2.2.2,← hV2]; rfl⟩
  ·dsimp only
   exact nD
 ·refine PW.e (PW.t [2] 2 ?_)
  refine retM_ret (d:=D.s xs.length 1 (fun j=>(fun x=>[I x]) (xs.getD j default))) (ps:=[xs.length≤xs.length]) (ob:=Obj.var 148 [bytesD l,I (at9:Int),D.v (.bool bad9),I e9,I p9]) kR (show (xs.length≤xs.length) from by exact nD) kR kR ?_
  have hi:i=V1.toNat:=by omega
  have hw:=Fr.ages_reps l st
  rw [hV1,hs1,← hi] at hw
  exact ⟨xs,_,fun pos h=>by rw [hinv.2.2.2]; exact (hw.2 pos (hw.1.trans h)).symm,hw.1,by rw [hinv.2.2.2]; exact Fr.reps_wf l s1 i,rfl,_,_,_,_,hinv.2.1,hinv.2.2.1,rfl⟩
theorem dbody_pm0 (l:List UInt8) (at_:Nat) (bad:Bool) (e p:Int) (st:Except (Int×Nat) Nat) (hR:Rel st at_ bad e p) (hle:at_≤l.length) (hs:l.length≤1000000):PM Tryz.prog [] 99 [D.p 0 0 0 0] (Obj.var 148 [bytesD l,I (at_:Int),D.v (.bool bad),I e,I p]) (fun d ob'=>∃ V s',(runP Fr.bodyP [] l st).1=V∧(runP Fr.bodyP [] l st).2=s'∧(d=bytesD V∨(d=D.v (.slice none 0 0)∧V=[]))∧FO l s' ob'):=by
 refine PM.of (N:=15) Tryz.func99 rfl rfl (Nat.le_of_ble_eq_true rfl) ?_
 refine PW.a [0] 1 (PW.w 1 [0,4] 1 (PL.cm (f:=96) (ds:=[D.p 0 0 0 0,I 1,I 0,I 24]) (ob:=Obj.var 148 [bytesD l,I (at_:Int),D.v (.bool bad),I e,I p]) 0 (fnumber_pm l _ ⟨at_,bad,e,p,hR,hle,rfl⟩ hs 1 0 24 (by decide)) ?_))
 rintro d ob ⟨V1,s1,hV1,hs1,rfl,at1,bad1,e1,p1,hR1,hle1,rfl⟩
 obtain ⟨N,rfl⟩:∃ N:Nat,V1=(N:Int):=⟨V1.toNat,by have:=Fr.runP_wf (lo:=0) (hi:=24) (k:=1) (x:=l) (st:=st) oM (by decide); rw [hV1] at this; omega⟩
 have hN:=Fr.runP_wf (lo:=0) (hi:=24) (k:=1) (x:=l) (st:=st) oM (by decide)
 rw [hV1] at hN
 have hbd:runP Fr.bodyP [] l st=runP (Fr.takeP N) [] l s1:=by
   unfold Fr.bodyP
   rw [Fr.runP_bind (numP 1 0 24) 0,hV1,hs1]
   rfl
 refine PL.n 1 [0,3] 1 (PW.seq (PW.w 2 [0,3,6,7] 1 (PL.cm (f:=127) (ds:=[D.p 0 0 0 0,I (N:Int)]) (ob:=Obj.var 148 [bytesD l,I (at1:Int),D.v (.bool bad1),I e1,I p1]) 0 (dbegin_pm l at1 N bad1 e1 p1 oM oM hs) ?_)))
 rintro _ _ ⟨z1,f1,q1,rfl,rfl,hB1⟩
 refine PL.n 1 [0,3,9] 1 (PW.cd (!z1) ?_ ?_) <;> intro hz0 <;> try simp only [boolS] at hz0
 ·try have hy:=beg_yes hB1 hR1 (by simpa using hz0)
  refine PW.t [2] 1 ?_
  refine retM_ret (d:=D.v (.slice none 0 0)) (ps:=[]) (ob:=Obj.var 148 [bytesD l,I (at1:Int),D.v (.bool bad1),I f1,I q1]) kR trivial kR kR ?_
  obtain ⟨a1,a2⟩:=beg_no hB1 hR1 (d:=[]) (Q:=Fr.takeP N) (by simpa using hz0) (fun h=>by unfold Fr.takeP; rw [if_pos h])
  rw [← hbd] at a1 a2
  exact ⟨_,_,a1,rfl,.inr ⟨rfl,rfl⟩,_,_,_,_,a2,hle1,rfl⟩
 ·try have hy:=beg_yes hB1 hR1 (by simpa using hz0)
  refine PW.k (PW.w 4 [12,13] 1 (PL.cm (f:=130) (ds:=[D.p 0 0 0 0,I (N:Int)]) (ob:=Obj.var 148 [bytesD l,I (at1:Int),D.v (.bool bad1),I f1,I q1]) 0 (dTake_pm l at1 N bad1 f1 q1 oM hy.2.2.1 hy.2.1 hs) ?_))
  rintro _ _ ⟨rfl,rfl⟩
  refine PL.n 1 [2] 1 (PW.ret ?_)
  refine retM_ret (d:=bytesD ((l.drop at1).take N)) (ps:=[]) (ob:=Obj.var 148 [bytesD l,I ((at1+N):Int),D.v (.bool bad1),I f1,I q1]) kR trivial kR kR ?_
  obtain ⟨h1,h2,h3,h4,h5⟩:=hy
  have hq:runP (Fr.takeP N) [] l s1=((l.drop at1).take N,.ok (at1+N)):=by
    rw [h1]
    exact runP_ok (r:=((l.drop at1).take N,at1+N)) (by unfold Fr.takeP; rw [if_neg oM])
  rw [hq] at hbd
  exact ⟨(l.drop at1).take N,.ok (at1+N),by rw [hbd],by rw [hbd],.inl rfl,_,_,_,_,⟨rfl,h2,h4⟩,h3,rfl⟩
theorem fages_pm (l:List UInt8) (st:Except (Int×Nat) Nat) {ob:Dp.Obj} (hO:FO l st ob) (hs:l.length≤1000000):PM Tryz.prog [] 97 [.p 0 0 0 0] ob (fun d ob'=>∃ (L:List Int) (s':Except (Int×Nat) Nat),(∀ pos,s' = .ok pos→(runP Fr.agesP [] l st).1=L)∧(runP Fr.agesP [] l st).2=s'∧(∀ d ∈ L, -9223372036854775808≤d∧d≤9223372036854775807)∧d=sl' 1 (fun x=>[I x]) L∧FO l s' ob'):=by
 obtain ⟨at_,bad,e,p,hR,hle,rfl⟩:=hO
 exact dages_pm0 l at_ bad e p st hR hle hs
theorem fbody_pm (l:List UInt8) (st:Except (Int×Nat) Nat) {ob:Dp.Obj} (hO:FO l st ob) (hs:l.length≤1000000):PM Tryz.prog [] 99 [.p 0 0 0 0] ob (fun d ob'=>∃ V s',(runP Fr.bodyP [] l st).1=V∧(runP Fr.bodyP [] l st).2=s'∧d=bytesD V∧FO l s' ob'):=by
 obtain ⟨at_,bad,e,p,hR,hle,rfl⟩:=hO
 refine PM.coarse (dbody_pm0 l at_ bad e p st hR hle hs) fun d m ⟨V,s',h1,h2,h3,h4⟩=>⟨bytesD V,⟨V,s',h1,h2,rfl,h4⟩,fun w ok v hv => ?_⟩
 rcases h3 with rfl|⟨rfl,rfl⟩
 ·exact hv
 ·cases hv
  exact .s0 _ _ none 0 (fun _=>rfl) (Nat.zero_le _)
theorem openR_pc (l:List UInt8) (hs:l.length≤1000000):PC Tryz.prog [] 95 [bytesD l] (· = .t [bytesD (inner l),.v (.bool (isSealed l))]):=by
 intro κ w vs hκ _ hl hd
 match vs,hl with
 | [v],_ =>
  obtain ⟨a,c,rfl,hr⟩:=rep_bytes (hd 0 _ _ rfl rfl) hκ
  refine Calls.mono (openR_calls a _ c l w hr hs) fun e w' ⟨v,h1,h2⟩=>⟨_,_,h1,rfl,.t (vs:=[v,.bool (isSealed l)]) rfl fun j d u k1 k2 => ?_,h2.2⟩
  match j,k1,k2 with
  | 0,k1,k2 =>
   cases k1
   cases k2
   exact (made_rep h2).mono fun b hb=>⟨⟨.inr hb.1,hb.2⟩,rfl⟩
  | 1,k1,k2=>cases k1; cases k2; exact .v _
end Go.Proofs.YtdomlccfjnkbjaaGreatDoor.Pl
