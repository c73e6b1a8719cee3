/- Chapter 12's laws GaugeBegins, GaugeAlike. -/
import Derived.Test.YtgklghpkfmoogaaGreatDoorGaThree
import Derived.Test.YtgklghpkfmoogaaGreatDoorGaTwo
import Derived.Test.YtgklghpkfmoogaaGreatDoorTbMath
import Derived.Test.YtgklghpkfmoogaaGreatDoorDpNil
namespace Go.Proofs.YtgklghpkfmoogaaGreatDoor.Pl
open Go.RowKit Go.Proofs.YtgklghpkfmoogaaGreatDoor.Sm Go.Proofs.YtgklghpkfmoogaaGreatDoor.Dp
open Go.Proofs.YtgklghpkfmoogaaGreatDoor.Fr (bare frD frC)
set_option maxHeartbeats 4000000
set_option maxRecDepth 100000
set_option linter.unusedVariables false
set_option linter.unusedSimpArgs false
theorem drumlineref1_SameLongs_pc (xs:List Int) (hl:xs.length<1000000):PC Tryz.prog [] 7 [sl' 1 (fun x=>[I x]) xs,sl' 1 (fun x=>[I x]) xs] (· = D.v (.bool true)):=by
 refine PC.of (N:=26) Tryz.func7 rfl rfl (Nat.le_of_ble_eq_true rfl) ?_
 refine PW.sr [0,1] 0 trivial ?_
 refine PW.seq ?_
 refine PW.sr [0,1,10] 0 trivial ?_
 refine PW.cd ((xs.length:Int) != (xs.length:Int)) (fun hz0 => ?_) (fun hz0 => ?_)
 ·try simp only [boolS,isB_true,isB_false] at hz0
  refine PW.sr [4] 0 trivial ?_
  refine PW.ret ?_
  refine retQ_ret (d:=D.v (.bool false)) (ps:=[]) kR trivial ?_
  exfalso
  simp at hz0
 ·try simp only [boolS,isB_true,isB_false] at hz0
  refine PW.skip ?_
  show PW _ _ _ _ _
  refine PW.seq ?_
  refine PW.sr [0,1,5] 0 trivial ?_
  refine PW.block ?_
  refine PW.lp (α := Nat) (fun i=>{ tab:=[⟨0,[],sl' 1 (fun x=>[I x]) xs⟩,⟨1,[],sl' 1 (fun x=>[I x]) xs⟩,⟨5,[],I (i:Int)⟩],mem:=[] }) (fun i=>i≤xs.length) (fun i=>xs.length-i) [0,1,5] 0 (0) ?_ ?_
  ·exact Nat.zero_le _
  rintro i hinv
  show PW _ _ _ _ _
  refine PW.seq ?_
  refine PW.sr [0,1,5,14] 0 trivial ?_
  refine PW.cd (decide ((i:Int)<(xs.length:Int))) (fun hz1 => ?_) (fun hz1 => ?_)
  ·try simp only [boolS,isB_true,isB_false] at hz1
   refine PW.skip ?_
   show PW _ _ _ _ _
   refine PW.seq ?_
   refine PW.block ?_
   refine PW.seq ?_
   refine PW.open [] kR ?_
   refine PO.tk [0,1,2,3,4,5,6,7,8] 9 [0,1,5,25] 0 (p:=(0≤(i:Int)∧(i:Int)<(xs.length:Int))∧(0≤(i:Int)∧(i:Int)<(xs.length:Int))) oM (fun _ _ h=>h) ?_
   refine PO.done kR ?_
   show PW _ _ _ _ _
   refine PW.cd ((xs.getD i default) != (xs.getD i default)) (fun hz2 => ?_) (fun hz2 => ?_)
   ·try simp only [boolS,isB_true,isB_false] at hz2
    refine PW.sr [4] 0 trivial ?_
    refine PW.ret ?_
    refine retQ_ret (d:=D.v (.bool false)) (ps:=[]) kR trivial ?_
    exfalso
    simp at hz2
   ·try simp only [boolS,isB_true,isB_false] at hz2
    refine PW.skip ?_
    show PW _ _ _ _ _
    refine PW.rr [0,1,5] 0 trivial ?_
    refine BackR.of (s1:={ tab:=[⟨0,[],sl' 1 (fun x=>[I x]) xs⟩,⟨1,[],sl' 1 (fun x=>[I x]) xs⟩,⟨5,[],I (IntKind.i64.wrap ((i:Int)+1))⟩],mem:=[] }) (i+1) kR kR ?_ ?_ ?_
    ·rw [wrapS i oM]
     exact Rem.refl _
    ·exact nD
    ·exact nD
  ·try simp only [boolS,isB_true,isB_false] at hz1
   refine PW.exit ?_
   show PW _ _ _ _ _
   refine PW.sr [4] 0 trivial ?_
   refine PW.ret ?_
   refine retQ_ret (d:=D.v (.bool true)) (ps:=[]) kR trivial ?_
   rfl
theorem drumlinelaw12_GaugeBegins_pc (e:Nat→Addr) (hA:Apart e) (n part p:Int) (l:List Heard) (hls:l.length≤maxLen) (c:Config) (hM:PC Tryz.prog (errG3 e) 6 [I n] (· = D.r (Config.d c))) (hp0:c.parts.length<1000000) (hl0:c.links.length<1000000):PC Tryz.prog (errG3 e) 3 [I n,I part,I p,sl' 16 Heard.d l] (· = D.v (.bool true)):=by
 refine PC.of (N:=31) Tryz.func3 rfl rfl (Nat.le_of_ble_eq_true rfl) ?_
 refine PW.sr [0,1,2,3] 0 trivial ?_
 refine PW.seq ?_
 refine PW.sg ?_
 refine PL.gc (G:=(errG3 e)) (A:=[]) (fun _=>PC.more (drumlinelaw12_alive_pc)) ?_
 refine PL.rw 6 [0,1,2,3,16] 0 trivial ?_
 refine PL.nl ?_
 refine PW.cd (false||(decide ((l.length:Int)>(60:Int)))) (fun hz0 => ?_) (fun hz0 => ?_)
 ·try simp only [boolS,isB_true,isB_false] at hz0
  refine PW.sg ?_
  refine PL.gc (G:=(errG3 e)) (A:=[]) (fun _=>PC.more (drumlinelaw12_alive_pc)) ?_
  refine PL.rw 1 [8] 0 trivial ?_
  refine PL.nl ?_
  refine PW.ret ?_
  refine retQ_ret (d:=D.v (.bool true)) (ps:=[]) kR trivial ?_
  rfl
 ·try simp only [boolS,isB_true,isB_false] at hz0
  refine PW.skip ?_
  show PW _ _ _ _ _
  refine PW.sg ?_
  refine PL.rw 1 [1,2,3,18] 0 trivial ?_
  refine PL.gc (A:=[]) (fun _=>hM) ?_
  refine PL.rw 2 [1,2,3,9] 1 trivial ?_
  refine PL.nl ?_
  refine PW.seq ?_
  refine PW.open [] kR ?_
  refine PO.tk [0,1,2,3,5,6,7,8] 12 [20,21,22,23,25,26,27,28] 4 trivial (fun _ _ h=>h) ?_
  refine PO.one (n:=3) 4 kR ?_
  refine PO1.gc _ (A:=[]) (fun _=>gauge_Begins_pc e hA c part p l oM hp0 hl0) ?_ rfl
  refine PO.one (n:=2) 9 kR ?_
  refine PO1.gc _ (G:=(errG3 e)) (A:=[]) (fun _=>PC.more (drumlineref10_Begins_pc  c part p l oM hp0 hl0)) ?_ rfl
  refine PO.one (n:=1) 10 kR ?_
  refine PO1.gc _ (G:=(errG3 e)) (A:=[]) (fun _=>PC.more (drumlineref1_SameLongs_pc (beginsOf c part p l) (by have:=beginsN_len (slotsOf c part) p l l.length; unfold beginsOf; omega))) ?_ rfl
  refine PO.tk [11] 1 [8] 0 trivial (fun _ _ h=>h) ?_
  refine PO.done kR ?_
  show PW _ _ _ _ _
  refine PW.ret ?_
  refine retQ_ret (d:=D.v (.bool true)) (ps:=[]) kR trivial ?_
  rfl
def toH (h:Int×Int):Heard:=⟨h.1,bare 0 0 0,h.2⟩
def enc0 (h:Int×Int):List D:=[I h.1,I 0,I 0,I 0,I 0,I 0,I 0,D.v (.bool false),I 0,I 0,D.v (.slice none 0 0),I 0,I 0,I 0,D.v (.slice none 0 0),I h.2]
theorem heard_coarse0 (l:List (Int×Int)) {w:World} {ok:Nat→Prop} {v:Value} (h:RepC w ok (D.s l.length 16 fun i=>enc0 (l.getD i default)) v):RepC w ok (sl' 16 Heard.d (l.map toH)) v:=by
 unfold sl'
 rw [List.length_map]
 refine RepC.seqw h fun i hi => ?_
 have e:(l.map toH).getD i default=toH (l.getD i default):=by simp [List.getD_eq_getElem?_getD,hi]
 rw [e]
 generalize l.getD i default=x
 refine ⟨rfl,rfl,fun j d' hj => ?_⟩
 match j,hj with
 | 0,hj|1,hj|2,hj|3,hj|4,hj|5,hj|6,hj|7,hj|8,hj|9,hj|11,hj|12,hj|13,hj|15,hj=>cases hj; exact ⟨_,rfl,fun _ _ _ h=>h⟩
 | 10,hj|14,hj=>cases hj; exact ⟨_,rfl,fun _ _ _ h=>h.nil_s⟩
 | j+16,hj=>exact absurd hj (by simp [Heard.d,frD,frC])
def turnN (n:Int) (ts:List Int) (i:Nat):List (Int×Int):=(List.range i).map fun (k:Nat)=>((k:Int).tmod n,IntKind.i64.wrap (ts.getD k default))
theorem turnN_one (n:Int) (ts:List Int) (i:Nat):turnN n ts (i+1)=turnN n ts i++[((i:Int).tmod n,IntKind.i64.wrap (ts.getD i default))]:=by simp [turnN,List.range_succ]
theorem turnN_len (n:Int) (ts:List Int) (i:Nat):(turnN n ts i).length=i:=by simp [turnN]
theorem begins_all {ss:List Slot} {p:Int} {l:List Heard}:∀ n,(∀ i,i<n→hitB ss (l.getD i default)=true)→beginsN ss p l n=(List.range n).map fun i=>hitI ss p (l.getD i default)
 | 0,_=>rfl
 | n+1,h=>by
  rw [beginsN,if_pos (h n oM),begins_all n fun i hi=>h i oM,List.range_succ,List.map_append]
  rfl
theorem alike_at {c:Config} {q p:Int} {ts:List Int} (F:Sched c q) (N:Nums c) (hp : -c.drift≤p∧p≤c.drift) (ht:∀ t ∈ ts, -2147483648≤t∧t≤2147483647):(beginsOf c q p ((turnN ((slotsOf c q).length:Int) ts ts.length).map toH)).length=ts.length∧∀ i,i<ts.length→∃ a t:Int,(60≤a∧a≤4060∧a=60+100*(i:Int).tmod ((slotsOf c q).length:Int))∧t=ts.getD i default∧(-2147483648≤t∧t≤2147483647)∧(beginsOf c q p ((turnN ((slotsOf c q).length:Int) ts ts.length).map toH)).getD i default=t-realI a p:=by
 have f4:=F.many
 have n1:=N.cyc
 have each:∀ i,i<ts.length→∃ a t:Int,(60≤a∧a≤4060∧a=60+100*(i:Int).tmod ((slotsOf c q).length:Int))∧t=ts.getD i default∧(-2147483648≤t∧t≤2147483647)∧hitB (slotsOf c q) (((turnN ((slotsOf c q).length:Int) ts ts.length).map toH).getD i default)=true∧hitI (slotsOf c q) p (((turnN ((slotsOf c q).length:Int) ts ts.length).map toH).getD i default)=t-realI a p:=by
  intro i hi
  have e:((turnN ((slotsOf c q).length:Int) ts ts.length).map toH).getD i default=toH ((i:Int).tmod ((slotsOf c q).length:Int),IntKind.i64.wrap (ts.getD i default)):=by simp [turnN,List.getD_eq_getElem?_getD,hi]
  rw [e]
  have m1:0≤(i:Int).tmod ((slotsOf c q).length:Int):=Int.tmod_nonneg _ oM
  have m2:(i:Int).tmod ((slotsOf c q).length:Int)<((slotsOf c q).length:Int):=Int.tmod_lt_of_pos _ oM
  have e60:=F.at_ ((i:Int).tmod ((slotsOf c q).length:Int)).toNat oM
  have hm:ts.getD i default ∈ ts:=by rw [List.getD_eq_getElem?_getD,List.getElem?_eq_getElem hi]; exact List.getElem_mem hi
  have h3:=ht _ hm
  have w:=Ev.wrap_i64 (x:=ts.getD i default) oM oM
  generalize hk:(i:Int).tmod ((slotsOf c q).length:Int)=k at m1 m2 e60 ⊢
  have hb:=begin_is (x:=((slotsOf c q).getD k.toNat default).at_) (p:=p) (t:=ts.getD i default) oM oM
  refine ⟨60+100*k,ts.getD i default,by omega,rfl,h3,?_,?_⟩
  ·unfold hitB toH
   dsimp only
   rw [decide_eq_true m1,decide_eq_true m2,w,hb.1]
   rfl
  ·unfold hitI toH
   dsimp only
   rw [w,hb.2,e60]
   congr 2
   omega
 have hl:((turnN ((slotsOf c q).length:Int) ts ts.length).map toH).length=ts.length:=by rw [List.length_map,turnN_len]
 have hall:=begins_all (ss:=slotsOf c q) (p:=p) (l:=(turnN ((slotsOf c q).length:Int) ts ts.length).map toH) ts.length fun i hi=>by
  obtain ⟨_,_,_,_,_,h,_⟩:=each i hi
  exact h
 unfold beginsOf
 rw [hl,hall]
 refine ⟨by simp,fun i hi => ?_⟩
 obtain ⟨a,t,h1,h2,h3,_,h4⟩:=each i hi
 refine ⟨a,t,h1,h2,h3,?_⟩
 rw [← h4]
 simp [List.getD_eq_getElem?_getD,hi]
theorem alike_two {c:Config} {k p q:Int} {ts:List Int} (F:Sched c k) (N:Nums c) (hp : -c.drift≤p∧p≤c.drift) (hq : -c.drift≤q∧q≤c.drift) (ht:∀ t ∈ ts, -2147483648≤t∧t≤2147483647) {A B:List Int} (hA:A=beginsOf c k p ((turnN ((slotsOf c k).length:Int) ts ts.length).map toH)) (hB:B=beginsOf c k q ((turnN ((slotsOf c k).length:Int) ts ts.length).map toH)):A.length=ts.length∧B.length=ts.length∧∀ i,i<ts.length→IntKind.i64.wrap (A.getD i default-B.getD i default)<edgeI c∧IntKind.i64.wrap (B.getD i default-A.getD i default)<edgeI c:=by
 have ha:=alike_at F N hp ht
 have hb:=alike_at F N hq ht
 rw [← hA] at ha
 rw [← hB] at hb
 obtain ⟨h,he,hj⟩:=N.all
 have hR:=inR_of h
 have n1:=N.cyc
 have n5:=N.dri
 have n6:=N.rat
 refine ⟨ha.1,hb.1,fun i hi => ?_⟩
 obtain ⟨a,t,a1,a2,a3,a4⟩:=ha.2 i hi
 obtain ⟨b,u,b1,b2,b3,b4⟩:=hb.2 i hi
 obtain rfl:a=b:=by omega
 obtain rfl:t=u:=by omega
 have h1:=real_apart hR (x:=a) (p:=p) (q:=q) (r:=0) oM hp hq oM
 have s1:=real_small hR (x:=a) (p:=p) (r:=0) oM hp oM
 have s2:=real_small hR (x:=a) (p:=q) (r:=0) oM hq oM
 rw [Int.add_zero] at s1 s2
 rw [Int.add_zero,Int.add_zero] at h1
 rw [a4,b4,Ev.wrap_i64 oM oM,Ev.wrap_i64 oM oM]
 omega
theorem drumlinelaw12_GaugeAlike_pc (e:Nat→Addr) (hA:Apart e) (n part p dp dq:Int) (ts:List Int) (hts:ts.length≤maxLen) (ht:∀ t ∈ ts, -2147483648≤t∧t≤2147483647) (c:Config) (hM:PC Tryz.prog (errG3 e) 6 [I n] (· = D.r (Config.d c))) (hp0:c.parts.length<1000000) (hl0:c.links.length<1000000) (N:Nums c) (hr:rangedB c=true) (hpp:(IntKind.i64.wrap part).tmod (c.parts.length:Int)=p) (hp1:1≤c.parts.length) (F:Sched c p):PC Tryz.prog (errG3 e) 4 [I n,D.v (.int .u8 part),D.r [I dp,I dq],sl' 1 (fun x=>[D.v (.int .i32 x)]) ts] (· = D.v (.bool true)):=by
 refine PC.of (N:=137) Tryz.func4 rfl rfl (Nat.le_of_ble_eq_true rfl) ?_
 obtain ⟨hou,he,hj⟩:=N.all
 have hR:=inR_of hou
 have n5:=N.dri
 have f4:=F.many
 have wd:IntKind.i64.wrap (0-c.drift) = -c.drift:=by rw [Ev.wrap_i64 oM oM]; omega
 refine PW.sr [0,1,3,6] 1 trivial ?_
 refine PW.seq ?_
 refine PW.sg ?_
 refine PL.gc (G:=(errG3 e)) (A:=[]) (fun _=>PC.more (drumlinelaw12_alive_pc)) ?_
 refine PL.rw 6 [0,1,3,6,24] 1 trivial ?_
 refine PL.nl ?_
 refine PW.cd (false||(decide ((ts.length:Int)>(40:Int)))) (fun hz0 => ?_) (fun hz0 => ?_)
 ·try simp only [boolS,isB_true,isB_false] at hz0
  refine PW.sg ?_
  refine PL.gc (G:=(errG3 e)) (A:=[]) (fun _=>PC.more (drumlinelaw12_alive_pc)) ?_
  refine PL.rw 1 [8] 1 trivial ?_
  refine PL.nl ?_
  refine PW.ret ?_
  refine retQ_ret (d:=D.v (.bool true)) (ps:=[]) kR trivial ?_
  rfl
 ·try simp only [boolS,isB_true,isB_false] at hz0
  refine PW.skip ?_
  show PW _ _ _ _ _
  refine PW.sg ?_
  refine PL.rw 1 [1,3,6,26] 1 trivial ?_
  refine PL.gc (A:=[]) (fun _=>hM) ?_
  refine PL.rw 2 [1,3,6,9] 2 trivial ?_
  refine PL.nl ?_
  refine PW.seq ?_
  refine PW.open [] kR ?_
  refine PO.tk [0,1,2,3,4,5] 6 [1,3,9,10,11] 0 (p:=(0≤(0:Int)∧(0:Int)<((2:Nat):Int))∧(0≤(1:Int)∧(1:Int)<((2:Nat):Int))) oM (fun _ _ h=>h) ?_
  refine PO.done kR ?_
  show PW _ _ _ _ _
  refine PW.seq ?_
  refine PW.sr [1,3,9,10,11,55] 2 trivial ?_
  refine PW.cd ((((decide (dp<(IntKind.i64.wrap (0-c.drift))))||(decide (dp>c.drift)))||(decide (dq<(IntKind.i64.wrap (0-c.drift)))))||(decide (dq>c.drift))) (fun hz1 => ?_) (fun hz1 => ?_)
  ·try simp only [boolS,isB_true,isB_false] at hz1
   refine PW.sr [8] 2 trivial ?_
   refine PW.ret ?_
   refine retQ_ret (d:=D.v (.bool true)) (ps:=[]) kR trivial ?_
   rfl
  ·try simp only [boolS,isB_true,isB_false] at hz1
   refine PW.skip ?_
   show PW _ _ _ _ _
   refine PW.sg ?_
   refine PL.rw 5 [3,9,10,11,57,60] 2 trivial ?_
   refine PL.div (k := .i64) (A:=[]) (IntKind.i64.wrap part) (c.parts.length:Int) ((IntKind.i64.wrap part).tmod (c.parts.length:Int)) rfl (by first|exact .inl ⟨rfl,rfl⟩|exact .inr ⟨rfl,rfl⟩) kR kR kR kR kR (fun _=>by omega) ?_
   refine PL.row 1 [3,9,10,11,12] 2 (s':={ tab:=[⟨3,[],sl' 1 (fun x=>[D.v (.int .i32 x)]) ts⟩,⟨9,[],D.p 1 0 0 0⟩,⟨10,[],I dp⟩,⟨11,[],I dq⟩,⟨12,[],I ((IntKind.i64.wrap part).tmod (c.parts.length:Int))⟩],mem:=[Obj.var 33 [I dp,I dq],Obj.var 27 (Config.d c)],gl:=(errG3 e) }) (p:=True) kR kR kR kR kR trivial ?_
   refine PL.eq (s':={ tab:=[⟨3,[],sl' 1 (fun x=>[D.v (.int .i32 x)]) ts⟩,⟨9,[],D.p 1 0 0 0⟩,⟨10,[],I dp⟩,⟨11,[],I dq⟩,⟨12,[],I p⟩],mem:=[Obj.var 33 [I dp,I dq],Obj.var 27 (Config.d c)],gl:=(errG3 e) }) (by rw [hpp]) ?_
   refine PL.nl ?_
   refine PW.sr [3,9,10,11,12,13] 2 trivial ?_
   refine PW.seq ?_
   refine PW.sr [3,9,10,11,12,13,14] 2 trivial ?_
   refine PW.block ?_
   refine PW.born 13 42 16 kR ?_
   refine PW.loopR (α := Nat×List (Int×Int)) (fun (i,xs)=>{ tab:=[⟨3,[],sl' 1 (fun x=>[D.v (.int .i32 x)]) ts⟩,⟨9,[],D.p 1 0 0 0⟩,⟨10,[],I dp⟩,⟨11,[],I dq⟩,⟨12,[],I p⟩,⟨13,[],D.h 2 xs.length⟩,⟨14,[],I (i:Int)⟩],mem:=[Obj.var 33 [I dp,I dq],Obj.var 27 (Config.d c),Obj.row 42 16 xs.length (fun j=>enc0 (xs.getD j default))],gl:=(errG3 e) }) (fun (i,xs)=>i≤ts.length∧xs=turnN ((slotsOf c p).length:Int) ts i) (fun (i,xs)=>ts.length-i) [3,9,10,11,12,13,14] 3 (0,[]) (s1:={ tab:=[⟨3,[],sl' 1 (fun x=>[D.v (.int .i32 x)]) ts⟩,⟨9,[],D.p 1 0 0 0⟩,⟨10,[],I dp⟩,⟨11,[],I dq⟩,⟨12,[],I p⟩,⟨13,[],D.h 2 0⟩,⟨14,[],I 0⟩],mem:=[Obj.var 33 [I dp,I dq],Obj.var 27 (Config.d c),Obj.row 42 16 0 (fun _=>[])],gl:=(errG3 e) }) kR kR ?_ ?_ ?_
   ·dsimp only
    exact ⟨rfl,rfl,rfl,(.same (.same (.row rfl (fun j hj=>absurd hj (Nat.not_lt_zero _)) .nil)))⟩
   ·dsimp only
    exact ⟨Nat.zero_le _,rfl⟩
   rintro ⟨i,xs⟩ hinv
   dsimp only at hinv
   have hxl:xs.length=i:=by rw [hinv.2,turnN_len]
   show PW _ _ _ _ _
   refine PW.seq ?_
   refine PW.sr [3,9,10,11,12,13,14,65] 3 trivial ?_
   refine PW.cd (decide ((i:Int)<(ts.length:Int))) (fun hz2 => ?_) (fun hz2 => ?_)
   ·try simp only [boolS,isB_true,isB_false] at hz2
    refine PW.skip ?_
    show PW _ _ _ _ _
    refine PW.seq ?_
    refine PW.block ?_
    refine PW.open [2] kR ?_
    refine PO.tk [0,1,2,3,7,8,9,10,11] 16 [3,9,10,11,12,13,14,68,69,70,71,79] 7 (p:=(0≤(i:Int)∧(i:Int)<(ts.length:Int))) oM (fun _ _ h=>h) ?_
    refine PO.one (n:=6) 4 kR ?_
    refine PO1.gc _ (G:=(errG3 e)) (A:=[]) (fun _=>PC.more ((drumlineref5_Slots_pc0 c p hp0 hl0).list)) ?_ rfl
    refine PO.tk [5] 6 [3,9,10,11,12,13,14,68,69,73,79] 5 trivial (fun _ _ h=>h) ?_
    refine PO.one (n:=4) 6 kR ?_
    refine PO1.div (k := .i64) (A:=[]) (i:Int) ((slotsOf c p).length:Int) ((i:Int).tmod ((slotsOf c p).length:Int)) rfl rfl (by first|exact .inl ⟨rfl,rfl⟩|exact .inr ⟨rfl,rfl⟩) kR kR kR kR kR (fun _=>by omega) ?_
    refine PO.tk [12] 4 [3,9,10,11,12,13,14,68,80] 3 trivial (fun _ _ h=>h) ?_
    refine PO.one (n:=2) 13 kR ?_
    refine PO1.mm rfl [3,9,10,11,12,13,14,68,81] 4 trivial ?_
    refine PO.one (n:=1) 14 kR ?_
    refine PO1.mm rfl [3,9,10,11,12,13,14,82] 4 (p:=((xs.length=xs.length∧1≤1)∧(xs.length+1)*160≤140737488355328∧xs.length+1≤9223372036854775807)) oM ?_
    refine PO.rm 2 (t:=42) (z:=16) (n:=(xs.length+1)) (fun j=>if j<xs.length then (fun j=>enc0 (xs.getD j default)) j else (fun k=>([[I ((i:Int).tmod ((slotsOf c p).length:Int)),I 0,I 0,I 0,I 0,I 0,I 0,D.v (.bool false),I 0,I 0,D.v (.slice none 0 0),I 0,I 0,I 0,D.v (.slice none 0 0),I (IntKind.i64.wrap (ts.getD i default))]][k]?).getD []) (j-xs.length)) (fun j=>enc0 ((xs++[((i:Int).tmod ((slotsOf c p).length:Int),IntKind.i64.wrap (ts.getD i default))]).getD j default)) (fun j hj=>by (try dsimp only); rw [getD_app xs [((i:Int).tmod ((slotsOf c p).length:Int),IntKind.i64.wrap (ts.getD i default))] j default,show xs.length=xs.length from (by (try simp only [List.length_set,List.length_replicate,List.length_append,List.length_cons,List.length_nil]) <;> omega)]; split <;> first|rfl|(rename_i hjn; rw [show j-xs.length=0 by omega]; rfl)) ?_
    refine PO.tk [15] 1 [3,9,10,11,12,13,14] 0 trivial (fun _ _ h=>h) ?_
    refine PO.done kR ?_
    show PW _ _ _ _ _
    refine PW.rr [3,9,10,11,12,13,14] 4 trivial ?_
    refine BackR.of (s1:={ tab:=[⟨3,[],sl' 1 (fun x=>[D.v (.int .i32 x)]) ts⟩,⟨9,[],D.p 1 0 0 0⟩,⟨10,[],I dp⟩,⟨11,[],I dq⟩,⟨12,[],I p⟩,⟨13,[],D.h 2 (xs.length+1)⟩,⟨14,[],I (IntKind.i64.wrap ((i:Int)+1))⟩],mem:=[Obj.var 33 [I dp,I dq],Obj.var 27 (Config.d c),Obj.row 42 16 (xs.length+1) (fun j=>enc0 ((xs++[((i:Int).tmod ((slotsOf c p).length:Int),IntKind.i64.wrap (ts.getD i default))]).getD j default))],gl:=(errG3 e) }) (i+1,xs++[((i:Int).tmod ((slotsOf c p).length:Int),IntKind.i64.wrap (ts.getD i default))]) kR kR ?_ ?_ ?_
    ·dsimp only
     rw [wrapS i oM]
     try simp only [List.length_append,List.length_singleton]
     exact Rem.refl _
    ·dsimp only
     exact ⟨by omega,by rw [turnN_one,← hinv.2]⟩
    ·dsimp only
     exact nD
   ·try simp only [boolS,isB_true,isB_false] at hz2
    refine PW.exit ?_
    show PW _ _ _ _ _
    refine PW.seq ?_
    refine PW.open [] kR ?_
    refine PO.tk [0,1,2,3,5,6,7,8] 12 [9,13,83,84,85,86,88,89,90,91] 4 trivial (fun _ _ h=>h) ?_
    refine PO.sel [9,13,83,84,85,86,88,89,90,91] 3 rfl kR ?_
    refine PO.eq (s':={ tab:=[⟨9,[],D.p 1 0 0 0⟩,⟨13,[],D.h 2 xs.length⟩,⟨83,[],D.r (Config.d c)⟩,⟨84,[],I p⟩,⟨85,[],I dp⟩,⟨86,[],D.h 2 xs.length⟩,⟨88,[],D.r (Config.d c)⟩,⟨89,[],I p⟩,⟨90,[],I dq⟩,⟨91,[],D.h 2 xs.length⟩],mem:=[Obj.var 33 [I dp,I dq],Obj.var 27 (Config.d c),Obj.row 42 16 xs.length (fun j=>enc0 (xs.getD j default))],gl:=(errG3 e) }) kR ?_
    refine PO.frzR 2 (t:=42) (z:=16) (m:=xs.length) (f:=(fun j=>enc0 (xs.getD j default))) (f':=(fun i=>enc0 (xs.getD i default))) (s':={ tab:=[⟨9,[],D.p 1 0 0 0⟩,⟨13,[],D.s xs.length 16 (fun i=>enc0 (xs.getD i default))⟩,⟨83,[],D.r (Config.d c)⟩,⟨84,[],I p⟩,⟨85,[],I dp⟩,⟨86,[],D.s xs.length 16 (fun i=>enc0 (xs.getD i default))⟩,⟨88,[],D.r (Config.d c)⟩,⟨89,[],I p⟩,⟨90,[],I dq⟩,⟨91,[],D.s xs.length 16 (fun i=>enc0 (xs.getD i default))⟩],mem:=[Obj.var 33 [I dp,I dq],Obj.var 27 (Config.d c),Obj.dead],gl:=(errG3 e) }) rfl (fun j hj=>rfl) (Nat.zero_le _) (fz_eq (n:=xs.length) (d:=D.s xs.length 16 (fun i=>enc0 (xs.getD i default))) (fun d9=>{ tab:=[⟨9,[],D.p 1 0 0 0⟩,⟨13,[],d9⟩,⟨83,[],D.r (Config.d c)⟩,⟨84,[],I p⟩,⟨85,[],I dp⟩,⟨86,[],d9⟩,⟨88,[],D.r (Config.d c)⟩,⟨89,[],I p⟩,⟨90,[],I dq⟩,⟨91,[],d9⟩],mem:=[Obj.var 33 [I dp,I dq],Obj.var 27 (Config.d c),Obj.dead],gl:=(errG3 e) }) kR rfl) ?_
    refine PO.one (n:=3) 4 kR ?_
    refine PO1.gc _ (A:=[]) (fun _=>PC.arg (ds:=[D.r (Config.d c),I p,I dp,D.s xs.length 16 (fun i=>enc0 (xs.getD i default))]) 3 (sl' 16 Heard.d (xs.map toH)) rfl (fun w ok v=>heard_coarse0 xs) (gauge_Begins_pc e hA c p dp (xs.map toH) (by rw [List.length_map]; omega) hp0 hl0)) ?_ rfl
    refine PO.one (n:=2) 9 kR ?_
    refine PO1.gc _ (A:=[]) (fun _=>PC.arg (ds:=[D.r (Config.d c),I p,I dq,D.s xs.length 16 (fun i=>enc0 (xs.getD i default))]) 3 (sl' 16 Heard.d (xs.map toH)) rfl (fun w ok v=>heard_coarse0 xs) (gauge_Begins_pc e hA c p dq (xs.map toH) (by rw [List.length_map]; omega) hp0 hl0)) ?_ rfl
    refine PO.tk [10,11] 2 [9,13,15,16] 0 trivial (fun _ _ h=>h) ?_
    refine PO.done kR ?_
    show PW _ _ _ _ _
    refine PW.seq ?_
    refine PW.sr [9,15,16,104] 3 trivial ?_
    refine PW.cd ((((beginsOf c p dp (xs.map toH)).length:Int) != (xs.length:Int))||(((beginsOf c p dq (xs.map toH)).length:Int) != (xs.length:Int))) (fun hz3 => ?_) (fun hz3 => ?_)
    ·try simp only [boolS,isB_true,isB_false] at hz3
     refine PW.sr [8] 3 trivial ?_
     refine PW.ret ?_
     refine retQ_ret (d:=D.v (.bool false)) (ps:=[]) kR trivial ?_
     exfalso
     simp only [wd] at hz1
     have hal:=alike_two F N (p:=dp) (q:=dq) oM oM ht (A:=beginsOf c p dp (turnN ((slotsOf c p).length:Int) ts ts.length |>.map toH)) (B:=beginsOf c p dq (turnN ((slotsOf c p).length:Int) ts ts.length |>.map toH)) rfl rfl
     have e8:i=ts.length:=by omega
     have e9:=hinv.2
     rw [e8] at e9
     rw [← e9] at hal
     omega
    ·try simp only [boolS,isB_true,isB_false] at hz3
     refine PW.skip ?_
     show PW _ _ _ _ _
     refine PW.seq ?_
     refine PW.sr [9,15,16,17] 3 trivial ?_
     refine PW.block ?_
     refine PW.lp (α := Nat) (fun k=>{ tab:=[⟨9,[],D.p 1 0 0 0⟩,⟨15,[],sl' 1 (fun x=>[I x]) (beginsOf c p dp (xs.map toH))⟩,⟨16,[],sl' 1 (fun x=>[I x]) (beginsOf c p dq (xs.map toH))⟩,⟨17,[],I (k:Int)⟩],mem:=[Obj.var 33 [I dp,I dq],Obj.var 27 (Config.d c),Obj.dead],gl:=(errG3 e) }) (fun k=>k≤ts.length) (fun k=>ts.length-k) [9,15,16,17] 3 (0) ?_ ?_
     ·exact Nat.zero_le _
     rintro k hinw
     show PW _ _ _ _ _
     refine PW.seq ?_
     refine PW.sr [9,15,16,17,108] 3 trivial ?_
     refine PW.cd (decide ((k:Int)<((beginsOf c p dp (xs.map toH)).length:Int))) (fun hz4 => ?_) (fun hz4 => ?_)
     ·try simp only [boolS,isB_true,isB_false] at hz4
      refine PW.skip ?_
      show PW _ _ _ _ _
      refine PW.seq ?_
      refine PW.block ?_
      refine PW.seq ?_
      refine PW.open [] kR ?_
      refine PO.tk [0,1,2,3,4,5,6,7,8,9] 26 [9,15,16,17,119,120] 16 (p:=(0≤(k:Int)∧(k:Int)<((beginsOf c p dp (xs.map toH)).length:Int))∧(0≤(k:Int)∧(k:Int)<((beginsOf c p dq (xs.map toH)).length:Int))) oM (fun _ _ h=>h) ?_
      refine PO.one (n:=15) 10 kR ?_
      refine PO1.gc _ (d:=I (edgeI c)) (A:=[]) (fun _=>(bounds_Edge_pc e hA c hp0 hl0).eq (congrArg I (if_pos hr))) ?_ rfl
      refine PO.tk [11,12,13,14,15,16,17,18,19,20,21,22] 15 [9,15,16,17,123,132,133] 3 (p:=(((decide ((IntKind.i64.wrap (((beginsOf c p dp (xs.map toH)).getD k default)-((beginsOf c p dq (xs.map toH)).getD k default)))≥(edgeI c)))=false∧True→0≤(k:Int)∧(k:Int)<((beginsOf c p dq (xs.map toH)).length:Int)))∧(((decide ((IntKind.i64.wrap (((beginsOf c p dp (xs.map toH)).getD k default)-((beginsOf c p dq (xs.map toH)).getD k default)))≥(edgeI c)))=false∧True→0≤(k:Int)∧(k:Int)<((beginsOf c p dp (xs.map toH)).length:Int)))) nD (fun _ _ h=>h) ?_
      refine PO.one (n:=2) 23 kR ?_
      refine PO1.gc _ (d:=I (edgeI c)) (A:=[(123,false)]) (fun _=>(bounds_Edge_pc e hA c hp0 hl0).eq (congrArg I (if_pos hr))) ?_ rfl
      refine PO.tk [24,25] 2 [9,15,16,17,136] 0 trivial (fun _ _ h=>h) ?_
      refine PO.done kR ?_
      show PW _ _ _ _ _
      refine PW.cd ((decide ((IntKind.i64.wrap (((beginsOf c p dp (xs.map toH)).getD k default)-((beginsOf c p dq (xs.map toH)).getD k default)))≥(edgeI c)))||(decide ((IntKind.i64.wrap (((beginsOf c p dq (xs.map toH)).getD k default)-((beginsOf c p dp (xs.map toH)).getD k default)))≥(edgeI c)))) (fun hz5 => ?_) (fun hz5 => ?_)
      ·try simp only [boolS,isB_true,isB_false] at hz5
       refine PW.sr [8] 3 trivial ?_
       refine PW.ret ?_
       refine retQ_ret (d:=D.v (.bool false)) (ps:=[]) kR trivial ?_
       exfalso
       simp only [wd] at hz1
       have hal:=alike_two F N (p:=dp) (q:=dq) oM oM ht (A:=beginsOf c p dp (turnN ((slotsOf c p).length:Int) ts ts.length |>.map toH)) (B:=beginsOf c p dq (turnN ((slotsOf c p).length:Int) ts ts.length |>.map toH)) rfl rfl
       have e8:i=ts.length:=by omega
       have e9:=hinv.2
       rw [e8] at e9
       rw [← e9] at hal
       have hk:=hal.2.2 k oM
       omega
      ·try simp only [boolS,isB_true,isB_false] at hz5
       refine PW.skip ?_
       show PW _ _ _ _ _
       refine PW.rr [9,15,16,17] 3 trivial ?_
       refine BackR.of (s1:={ tab:=[⟨9,[],D.p 1 0 0 0⟩,⟨15,[],sl' 1 (fun x=>[I x]) (beginsOf c p dp (xs.map toH))⟩,⟨16,[],sl' 1 (fun x=>[I x]) (beginsOf c p dq (xs.map toH))⟩,⟨17,[],I (IntKind.i64.wrap ((k:Int)+1))⟩],mem:=[Obj.var 33 [I dp,I dq],Obj.var 27 (Config.d c),Obj.dead],gl:=(errG3 e) }) (k+1) kR kR ?_ ?_ ?_
       ·rw [wrapS k oM]
        exact Rem.refl _
       ·exact nD
       ·exact nD
     ·try simp only [boolS,isB_true,isB_false] at hz4
      refine PW.exit ?_
      show PW _ _ _ _ _
      refine PW.sr [8] 3 trivial ?_
      refine PW.ret ?_
      refine retQ_ret (d:=D.v (.bool true)) (ps:=[]) kR trivial ?_
      rfl
end Go.Proofs.YtgklghpkfmoogaaGreatDoor.Pl
