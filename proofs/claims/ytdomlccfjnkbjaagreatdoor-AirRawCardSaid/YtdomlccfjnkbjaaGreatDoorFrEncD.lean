/- The document's own Encode. -/
import Derived.Test.YtdomlccfjnkbjaaGreatDoorFrMayD
import Derived.Test.YtdomlccfjnkbjaaGreatDoorFrEncM
namespace Go.Proofs.YtdomlccfjnkbjaaGreatDoor.Pl
open Go.RowKit Go.Proofs.YtdomlccfjnkbjaaGreatDoor.Sm Go.Proofs.YtdomlccfjnkbjaaGreatDoor.Dp
open Go.Proofs.YtdomlccfjnkbjaaGreatDoor.Fr (bare frD frC WfA bytesOf)
set_option maxHeartbeats 4000000
set_option maxRecDepth 100000
set_option linter.unusedVariables false
set_option linter.unusedSimpArgs false
theorem agesL_take {x:List Int} {k:Nat} (h:k<x.length):Fr.agesL (x.take (k+1))=Fr.agesL (x.take k)++Wr.plainL (x.getD k default) 1:=by
 unfold Fr.agesL
 rw [List.take_add_one,List.flatMap_append,List.getElem?_eq_getElem h,List.getD_eq_getElem?_getD,List.getElem?_eq_getElem h]
 simp
theorem agesL_len (x:List Int) (k:Nat):(Fr.agesL (x.take k)).length≤7*k:=by
 induction k with
 | zero=>simp [Fr.agesL]
 | succ k ih =>
  rcases Nat.lt_or_ge k x.length with h|h
  ·rw [agesL_take h,List.length_append]
   have:=Fr.plainL_le (x.getD k default) 1 oM
   omega
  ·rw [List.take_of_length_le oM]
   rw [List.take_of_length_le h] at ih
   omega
theorem putAgesR_pk (l:List UInt8) (x:List Int) (hl:l.length≤1000) (hx:x.length≤6):PK Tryz.prog [] 42 [D.h 0 l.length,sl' 1 (fun x=>[I x]) x] [Obj.row 5 1 l.length (fun j=>u8d (l.getD j default))] 0 (fun d m=>∃ n' ob',d = .h 0 n'∧m=[ob']∧ob'.shutB=true∧(∃ L:List UInt8,L=l++(Wr.plainL (x.length:Int) 1++Fr.agesL x)∧L.length≤l.length+49∧n'=L.length∧ob'=Obj.row 5 1 L.length (fun j=>u8d (L.getD j default)))):=by
 refine PK.of (N:=23) Tryz.func42 rfl rfl (Nat.le_of_ble_eq_true rfl) 0 ?_
 have hp9:=Fr.plainL_le (x.length:Int) 1 oM
 refine PW.a [0,1] 1 (PW.w 3 [1,6,8] 1 (PL.cx (f:=41) (ds:=[D.h 0 l.length,I (x.length:Int),I 1]) (ob:=Obj.row 5 1 l.length (fun j=>u8d (l.getD j default))) 0 (putR_px l (x.length:Int) 1 oM oM) ?_))
 rintro _ _ ⟨b1,e101,h101,rfl,rfl⟩
 refine PL.n 1 [0,1] 1 (PW.q [0,1,5] 1 (PW.block (PW.lp (α := Nat×List UInt8) (fun (k,ys)=>{ tab:=[⟨0,[],D.h 0 ys.length⟩,⟨1,[],sl' 1 (fun x=>[I x]) x⟩,⟨5,[],I (k:Int)⟩],mem:=[Obj.row 5 1 ys.length (fun j=>u8d (ys.getD j default))] }) (fun (k,ys)=>k≤x.length∧ys=(l++Wr.plainL (x.length:Int) 1)++Fr.agesL (x.take k)) (fun (k,ys)=>x.length-k) [0,1,5] 1 (0,b1) ?_ ?_)))
 ·dsimp only
  exact ⟨Nat.zero_le _,by rw [e101]; simp [Fr.agesL]⟩
 rintro ⟨k,ys⟩ hinv
 dsimp only at hinv
 have hy9:ys.length≤2000:=by
   rw [hinv.2,List.length_append,List.length_append]
   have:=agesL_len x k
   omega
 show PW _ _ _ _ _
 refine PW.q [0,1,5,13] 1 (PW.cd (decide ((k:Int)<(x.length:Int))) ?_ ?_) <;> intro hz0 <;> try simp only [boolS] at hz0
 ·refine PW.k (PW.seq (PW.block (PW.region (PL.rw 5 [1,5,16,20] 1 (p:=(0≤(k:Int)∧(k:Int)<(x.length:Int))) oM (PL.cx (f:=41) (ds:=[D.h 0 ys.length,I (x.getD k default),I 1]) (ob:=Obj.row 5 1 ys.length (fun j=>u8d (ys.getD j default))) 0 (putR_px ys (x.getD k default) 1 oM oM) ?_)))))
  rintro _ _ ⟨b2,e102,h102,rfl,rfl⟩
  refine PL.a 1 [0,1,5] 1 (PL.nil ?_)
  show PW _ _ _ _ _
  refine PW.b [0,1,5] 1 ?_
  refine BackR.of (s1:={ tab:=[⟨0,[],D.h 0 b2.length⟩,⟨1,[],sl' 1 (fun x=>[I x]) x⟩,⟨5,[],I (IntKind.i64.wrap ((k:Int)+1))⟩],mem:=[Obj.row 5 1 b2.length (fun j=>u8d (b2.getD j default))] }) (k+1,b2) kR kR ?_ ?_ ?_
  ·dsimp only
   rw [show IntKind.i64.wrap ((k:Int)+1)=((k+1:Nat):Int) by rw [Ev.wrap_i64 oM oM]; omega]
   exact Rem.refl _
  ·dsimp only
   exact ⟨by omega,by subst_vars; rw [agesL_take oM,← List.append_assoc,← hinv.2]⟩
  ·dsimp only
   exact nD
 ·refine PW.e (PW.t [4] 1 (retI_r (d:=D.h 0 ys.length) (ps:=[]) (mem:=[Obj.row 5 1 ys.length (fun j=>u8d (ys.getD j default))]) trivial ?_))
  obtain rfl:k=x.length:=by omega
  rw [List.take_length,List.append_assoc] at hinv
  exact ⟨_,_,rfl,rfl,rfl,ys,hinv.2,by have:=agesL_len x x.length; rw [List.take_length] at this; rw [hinv.2,List.length_append,List.length_append]; omega,rfl,rfl⟩
theorem putAgesR_px (l:List UInt8) (x:List Int) (hl:l.length≤1000) (hx:x.length≤6):PX Tryz.prog [] 42 [D.h 0 l.length,sl' 1 (fun x=>[I x]) x] (Obj.row 5 1 l.length (fun j=>u8d (l.getD j default))) (fun n' ob'=>∃ L:List UInt8,L=l++(Wr.plainL (x.length:Int) 1++Fr.agesL x)∧L.length≤l.length+49∧n'=L.length∧ob'=Obj.row 5 1 L.length (fun j=>u8d (L.getD j default))):=PX.of (putAgesR_pk l x hl hx)
theorem flagR_pc (b:Bool):PC Tryz.prog [] 43 [D.v (.bool b)] (· = I (if b=true then 1 else 0)):=by
 refine PC.of (N:=4) Tryz.func43 rfl rfl (Nat.le_of_ble_eq_true rfl) ?_
 refine PW.a [0] 0 (PW.q [3] 0 (PW.cd b ?_ ?_)) <;> intro hz0 <;> try simp only [boolS] at hz0
 ·refine PW.t [2] 0 (rq (I 1) ?_)
  rw [if_pos hz0]
 ·refine PW.k (PW.t [2] 0 (rq (I 0) ?_))
  rw [if_neg (by rw [hz0]; decide)]
theorem signedR_pc (n k:Int):PC Tryz.prog [] 44 [I n,I k] (· = D.t [bytesD (Wr.signedL n k),.v (.bool (Wr.signedB n k))]):=by
 intro κ w vs hκ _ hl hd
 match vs,hl with
 | [u,v],_ =>
  have h1:=hd 0 _ _ rfl rfl
  have h2:=hd 1 _ _ rfl rfl
  cases h1
  cases h2
  refine (Wr.signedR_calls n k w).mono ?_
  rintro e w' ⟨v,rfl,hm⟩
  refine ⟨_,_,rfl,rfl,?_,hm.2⟩
  have hr:=made_rep hm
  refine .t rfl fun j d v e1 e2 => ?_
  match j,e1,e2 with
  | 0,e1,e2 =>
   cases e1
   cases e2
   exact hr.mono fun g hg=>⟨⟨.inr hg.1,hg.2⟩,rfl⟩
  | 1,e1,e2 =>
   cases e1
   cases e2
   exact .v _
  | j+2,e1,e2=>exact absurd e1 (by simp)
theorem signedL_le (n:Int):(Wr.signedL n 6).length≤6:=by
 unfold Wr.signedL
 split
 ·split <;> rw [Wr.be_length] <;> decide
 ·exact Nat.zero_le _
theorem encodeR_pc0 (f:Fr.Frame) (hf:WfA f):PC Tryz.prog [] 20 [D.r (frD f)] (fun d=>d=D.t [bytesD (bytesOf f),I (if Fr.mayB f=true then 0 else 1)]∨(d=D.t [D.v (.slice none 0 0),I 1]∧Fr.mayB f=false)):=by
 refine PC.of (N:=95) Tryz.func20 rfl rfl (Nat.le_of_ble_eq_true rfl) ?_
 refine PW.dead ?_
 show PW _ _ _ _ _
 have qs:=signedL_le f.offset
 have g5:Fr.mayB f=true→(f.kind=2∨f.kind=4)→f.ages.length≤6:=fun hm h=>(Fr.agesOk_iff.1 ((Fr.may_iff.1 hm).2.2.1 h)).1.2
 have g6:Fr.mayB f=true→f.body.length≤24:=fun hm=>(Fr.may_iff.1 hm).2.2.2.2.2.2.2.2.2.2.2
 have g7:Fr.mayB f=true→1≤f.kind∧f.kind≤5:=fun hm=>(Fr.may_iff.1 hm).1.1
 refine PW.a [1] 2 (PW.seq (PW.w 1 [1,7] 2 (PL.gc (A:=[]) (fun _=>mayR_pc f hf) (PL.n 1 [1,9] 2 (PW.cd (!(Fr.mayB f)) ?_ ?_))))) <;> intro hz0 <;> try simp only [boolS] at hz0
 ·refine PW.t [2,3] 2 (rq (D.t [D.v (.slice none 0 0),I 1]) ?_)
  exact .inr ⟨rfl,hz0⟩
 ·have g8:=And.intro (g6 hz0) (g7 hz0)
  refine PW.k (PW.seq (PW.open [0] kR ?_))
  refine PO.a [0,1,3,4,6,7] 10 [1,11,14,17] 4 (PO.one (n:=3) 2 kR ?_)
  refine PO1.cx (f:=41) (ds:=[D.v (.slice none 0 0),I f.kind,I 1]) (ob:=Obj.dead) _ 0 (PX.nil (putR_px [] f.kind 1 (Nat.zero_le _) oM)) ?_ rfl
  rintro _ _ ⟨b12,e112,h112,rfl,rfl⟩
  rw [List.length_nil] at h112
  refine PO.one (n:=2) 5 kR ?_
  refine PO1.cx (f:=41) (ds:=[D.h 0 b12.length,I f.part,I 1]) (ob:=Obj.row 5 1 b12.length (fun j=>u8d (b12.getD j default))) _ 0 (putR_px b12 f.part 1 oM oM) ?_ rfl
  rintro _ _ ⟨b13,e113,h113,rfl,rfl⟩
  refine PO.one (n:=1) 8 kR ?_
  refine PO1.cx (f:=41) (ds:=[D.h 0 b13.length,I f.node,I 1]) (ob:=Obj.row 5 1 b13.length (fun j=>u8d (b13.getD j default))) _ 0 (putR_px b13 f.node 1 oM oM) ?_ rfl
  rintro _ _ ⟨b14,e114,h114,rfl,rfl⟩
  refine PO.a [9] 1 [1,4] 0 (PO.done kR ?_)
  show PW _ _ _ _ _
  refine PW.q [1,4,20] 2 (PW.block (PW.a [1,4,20,21] 2 (PW.cd (f.kind == (1:Int)) ?_ ?_))) <;> intro hz1 <;> try simp only [boolS] at hz1
  ·refine PW.region (PL.a 3 [23,25] 2 (PL.cx (f:=41) (ds:=[D.h 0 b14.length,I f.wait,I 2]) (ob:=Obj.row 5 1 b14.length (fun j=>u8d (b14.getD j default))) 0 (putR_px b14 f.wait 2 oM oM) ?_))
   rintro _ _ ⟨b15,e115,h115,rfl,rfl⟩
   refine PL.a 1 [4] 2 (PL.nil ?_)
   show PW _ _ _ _ _
   refine PW.w 1 [93] 2 (PL.sl [93] 2 (PL.eq (s':={ tab:=[⟨93,[],D.h 0 b15.length⟩],mem:=[Obj.row 5 1 b15.length (fun j=>u8d (b15.getD j default)),Obj.var 25 [I f.kind,I f.part,I f.node,I f.wait,I f.mask,I f.link,D.v (.bool f.flag),I f.cycle,I f.offset,sl' 1 (fun x=>[I x]) f.ages,I f.frm,I f.to,I f.seq,bytesD f.body]] }) kR (PL.frzR 0 (t:=5) (z:=1) (m:=b15.length) (f:=(fun j=>u8d (b15.getD j default))) (f':=(fun i=>u8d (b15.getD i default))) (s':={ tab:=[⟨93,[],bytesD b15⟩],mem:=[Obj.dead,Obj.var 25 [I f.kind,I f.part,I f.node,I f.wait,I f.mask,I f.link,D.v (.bool f.flag),I f.cycle,I f.offset,sl' 1 (fun x=>[I x]) f.ages,I f.frm,I f.to,I f.seq,bytesD f.body]] }) rfl (fun j hj=>rfl) (Nat.zero_le _) (fz_eq (n:=b15.length) (d:=D.s b15.length 1 (fun i=>u8d (b15.getD i default))) (fun d9=>{ tab:=[⟨93,[],d9⟩],mem:=[Obj.dead,Obj.var 25 [I f.kind,I f.part,I f.node,I f.wait,I f.mask,I f.link,D.v (.bool f.flag),I f.cycle,I f.offset,sl' 1 (fun x=>[I x]) f.ages,I f.frm,I f.to,I f.seq,bytesD f.body]] }) kR rfl) (PL.gc (A:=[]) (fun _=>PC.made8 (l:=b15) (by (try rw [List.length_append]) <;> omega) (fun a n c w hr hn=>sealR_calls a n c b15 w hr hn)) (PL.n 2 [2,3] 2 (PW.ret (rq (D.t [bytesD (Sm.sealB b15),I 0]) ?_)))))))
   subst_vars
   refine .inl ?_
   rw [if_pos hz0,show bytesOf f=Sm.sealB (Fr.enc f) from if_pos hz0,← Fr.encL_1 hz0 oM]
  ·refine PW.a [1,4,20,27] 2 (PW.cd (f.kind == (2:Int)) ?_ ?_) <;> intro hz2 <;> try simp only [boolS] at hz2
   ·refine PW.open [0] kR ?_
    refine PO.a [0,1,2,4,5,7,8] 11 [4,29,31,34,37] 4 (PO.one (n:=3) 3 kR ?_)
    refine PO1.cx (f:=41) (ds:=[D.h 0 b14.length,I f.cycle,I 6]) (ob:=Obj.row 5 1 b14.length (fun j=>u8d (b14.getD j default))) _ 0 (putR_px b14 f.cycle 6 oM oM) ?_ rfl
    rintro _ _ ⟨b19,e119,h119,rfl,rfl⟩
    refine PO.one (n:=2) 6 kR ?_
    refine PO1.cx (f:=41) (ds:=[D.h 0 b19.length,I f.mask,I 2]) (ob:=Obj.row 5 1 b19.length (fun j=>u8d (b19.getD j default))) _ 0 (putR_px b19 f.mask 2 oM oM) ?_ rfl
    rintro _ _ ⟨b20,e120,h120,rfl,rfl⟩
    refine PO.one (n:=1) 9 kR ?_
    refine PO1.cx (f:=42) (ds:=[D.h 0 b20.length,sl' 1 (fun x=>[I x]) f.ages]) (ob:=Obj.row 5 1 b20.length (fun j=>u8d (b20.getD j default))) _ 0 (putAgesR_px b20 f.ages oM (g5 hz0 oM)) ?_ rfl
    rintro _ _ ⟨b21,e121,h121,rfl,rfl⟩
    refine PO.a [10] 1 [4] 0 (PO.done kR ?_)
    show PW _ _ _ _ _
    refine PW.w 1 [93] 2 (PL.sl [93] 2 (PL.eq (s':={ tab:=[⟨93,[],D.h 0 b21.length⟩],mem:=[Obj.row 5 1 b21.length (fun j=>u8d (b21.getD j default)),Obj.var 25 [I f.kind,I f.part,I f.node,I f.wait,I f.mask,I f.link,D.v (.bool f.flag),I f.cycle,I f.offset,sl' 1 (fun x=>[I x]) f.ages,I f.frm,I f.to,I f.seq,bytesD f.body]] }) kR (PL.frzR 0 (t:=5) (z:=1) (m:=b21.length) (f:=(fun j=>u8d (b21.getD j default))) (f':=(fun i=>u8d (b21.getD i default))) (s':={ tab:=[⟨93,[],bytesD b21⟩],mem:=[Obj.dead,Obj.var 25 [I f.kind,I f.part,I f.node,I f.wait,I f.mask,I f.link,D.v (.bool f.flag),I f.cycle,I f.offset,sl' 1 (fun x=>[I x]) f.ages,I f.frm,I f.to,I f.seq,bytesD f.body]] }) rfl (fun j hj=>rfl) (Nat.zero_le _) (fz_eq (n:=b21.length) (d:=D.s b21.length 1 (fun i=>u8d (b21.getD i default))) (fun d9=>{ tab:=[⟨93,[],d9⟩],mem:=[Obj.dead,Obj.var 25 [I f.kind,I f.part,I f.node,I f.wait,I f.mask,I f.link,D.v (.bool f.flag),I f.cycle,I f.offset,sl' 1 (fun x=>[I x]) f.ages,I f.frm,I f.to,I f.seq,bytesD f.body]] }) kR rfl) (PL.gc (A:=[]) (fun _=>PC.made8 (l:=b21) (by (try rw [List.length_append]) <;> omega) (fun a n c w hr hn=>sealR_calls a n c b21 w hr hn)) (PL.n 2 [2,3] 2 (PW.ret (rq (D.t [bytesD (Sm.sealB b21),I 0]) ?_)))))))
    subst_vars
    refine .inl ?_
    rw [if_pos hz0,show bytesOf f=Sm.sealB (Fr.enc f) from if_pos hz0,← Fr.encL_2 hz0 oM]
   ·refine PW.a [1,4,20,39] 2 (PW.cd (f.kind == (3:Int)) ?_ ?_) <;> intro hz3 <;> try simp only [boolS] at hz3
    ·refine PW.seq (PW.open [0] kR ?_)
     refine PO.a [0,1,2,4,5,8,9] 12 [1,4,41,43,46,50] 5 (PO.one (n:=4) 3 kR ?_)
     refine PO1.cx (f:=41) (ds:=[D.h 0 b14.length,I f.link,I 1]) (ob:=Obj.row 5 1 b14.length (fun j=>u8d (b14.getD j default))) _ 0 (putR_px b14 f.link 1 oM oM) ?_ rfl
     rintro _ _ ⟨b31,e131,h131,rfl,rfl⟩
     refine PO.one (n:=3) 6 kR ?_
     refine PO1.gc _ (A:=[]) (fun _=>flagR_pc f.flag) ?_ rfl
     refine PO.one (n:=2) 7 kR ?_
     refine PO1.cx (f:=41) (ds:=[D.h 0 b31.length,I (if f.flag=true then (1:Int) else 0),I 1]) (ob:=Obj.row 5 1 b31.length (fun j=>u8d (b31.getD j default))) _ 0 (putR_px b31 (if f.flag=true then (1:Int) else 0) 1 oM oM) ?_ rfl
     rintro _ _ ⟨b32,e132,h132,rfl,rfl⟩
     refine PO.one (n:=1) 10 kR ?_
     refine PO1.cx (f:=41) (ds:=[D.h 0 b32.length,I f.cycle,I 6]) (ob:=Obj.row 5 1 b32.length (fun j=>u8d (b32.getD j default))) _ 0 (putR_px b32 f.cycle 6 oM oM) ?_ rfl
     rintro _ _ ⟨b33,e133,h133,rfl,rfl⟩
     refine PO.a [11] 1 [1,4] 0 (PO.done kR ?_)
     show PW _ _ _ _ _
     refine PW.w 2 [4,54] 2 (PL.gc (A:=[]) (fun _=>signedR_pc f.offset 6) (PL.n 5 [4,5] 2 (PW.region (PL.rw 3 [60] 2 (p:=((b33.length=b33.length∧True)∧(b33.length+(Wr.signedL f.offset 6).length)*1≤140737488355328∧b33.length+(Wr.signedL f.offset 6).length≤9223372036854775807)) nD (PL.rm 0 (t:=5) (z:=1) (n:=(b33.length+(Wr.signedL f.offset 6).length)) (fun j=>if j<b33.length then (fun j=>u8d (b33.getD j default)) j else (fun i=>u8d ((Wr.signedL f.offset 6).getD i default)) (j-b33.length)) (fun j=>u8d ((b33++(Wr.signedL f.offset 6)).getD j default)) (fun j hj=>by (try dsimp only); rw [getD_app]; rcases Nat.lt_or_ge j (b33.length) with hj9|hj9 <;> first|(rw [if_pos hj9,if_pos (show j<b33.length from (by (try simp only [List.length_set,List.length_replicate,List.length_append,List.length_cons,List.length_nil]) <;> omega))])|(rw [if_neg (Nat.not_lt.2 hj9),if_neg (show ¬ j<b33.length from (by (try simp only [List.length_set,List.length_replicate,List.length_append,List.length_cons,List.length_nil]) <;> omega)),show j-b33.length=j-(b33.length) from (by (try simp only [List.length_set,List.length_replicate,List.length_append,List.length_cons,List.length_nil]) <;> omega)])) (PL.a 1 [4] 2 (PL.nil ?_)))))))
     show PW _ _ _ _ _
     refine PW.w 1 [93] 2 (PL.sl [93] 2 (PL.eq (s':={ tab:=[⟨93,[],D.h 0 (b33.length+(Wr.signedL f.offset 6).length)⟩],mem:=[Obj.row 5 1 (b33.length+(Wr.signedL f.offset 6).length) (fun j=>u8d ((b33++(Wr.signedL f.offset 6)).getD j default)),Obj.var 25 [I f.kind,I f.part,I f.node,I f.wait,I f.mask,I f.link,D.v (.bool f.flag),I f.cycle,I f.offset,sl' 1 (fun x=>[I x]) f.ages,I f.frm,I f.to,I f.seq,bytesD f.body]] }) kR (PL.frzR 0 (t:=5) (z:=1) (m:=(b33.length+(Wr.signedL f.offset 6).length)) (f:=(fun j=>u8d ((b33++(Wr.signedL f.offset 6)).getD j default))) (f':=(fun i=>u8d ((b33++(Wr.signedL f.offset 6)).getD i default))) (s':={ tab:=[⟨93,[],bytesD (b33++(Wr.signedL f.offset 6))⟩],mem:=[Obj.dead,Obj.var 25 [I f.kind,I f.part,I f.node,I f.wait,I f.mask,I f.link,D.v (.bool f.flag),I f.cycle,I f.offset,sl' 1 (fun x=>[I x]) f.ages,I f.frm,I f.to,I f.seq,bytesD f.body]] }) rfl (fun j hj=>rfl) (Nat.zero_le _) (fz_eq (n:=b33.length+(Wr.signedL f.offset 6).length) (d:=D.s (b33.length+(Wr.signedL f.offset 6).length) 1 (fun i=>u8d ((b33++(Wr.signedL f.offset 6)).getD i default))) (fun d9=>{ tab:=[⟨93,[],d9⟩],mem:=[Obj.dead,Obj.var 25 [I f.kind,I f.part,I f.node,I f.wait,I f.mask,I f.link,D.v (.bool f.flag),I f.cycle,I f.offset,sl' 1 (fun x=>[I x]) f.ages,I f.frm,I f.to,I f.seq,bytesD f.body]] }) kR (sl_len (z:=1) (n:=b33.length+(Wr.signedL f.offset 6).length) (e:=u8d) (xs:=(b33++(Wr.signedL f.offset 6))) (by (try simp only [List.length_replicate,List.length_append,List.length_cons,List.length_nil,List.length_set]) <;> omega))) (PL.gc (A:=[]) (fun _=>PC.made8 (l:=(b33++(Wr.signedL f.offset 6))) (by (try rw [List.length_append]) <;> omega) (fun a n c w hr hn=>sealR_calls a n c (b33++(Wr.signedL f.offset 6)) w hr hn)) (PL.n 2 [2,3] 2 (PW.ret (rq (D.t [bytesD (Sm.sealB (b33++(Wr.signedL f.offset 6))),I 0]) ?_)))))))
     subst_vars
     refine .inl ?_
     rw [if_pos hz0,show bytesOf f=Sm.sealB (Fr.enc f) from if_pos hz0,← Fr.encL_3 hz0 oM]
    ·refine PW.a [1,4,20,61] 2 (PW.cd (f.kind == (4:Int)) ?_ ?_) <;> intro hz4 <;> try simp only [boolS] at hz4
     ·refine PW.open [0] kR ?_
      refine PO.a [0,1,2,4,5] 8 [4,63,65,68] 3 (PO.one (n:=2) 3 kR ?_)
      refine PO1.cx (f:=41) (ds:=[D.h 0 b14.length,I f.link,I 1]) (ob:=Obj.row 5 1 b14.length (fun j=>u8d (b14.getD j default))) _ 0 (putR_px b14 f.link 1 oM oM) ?_ rfl
      rintro _ _ ⟨b36,e136,h136,rfl,rfl⟩
      refine PO.one (n:=1) 6 kR ?_
      refine PO1.cx (f:=42) (ds:=[D.h 0 b36.length,sl' 1 (fun x=>[I x]) f.ages]) (ob:=Obj.row 5 1 b36.length (fun j=>u8d (b36.getD j default))) _ 0 (putAgesR_px b36 f.ages oM (g5 hz0 oM)) ?_ rfl
      rintro _ _ ⟨b37,e137,h137,rfl,rfl⟩
      refine PO.a [7] 1 [4] 0 (PO.done kR ?_)
      show PW _ _ _ _ _
      refine PW.w 1 [93] 2 (PL.sl [93] 2 (PL.eq (s':={ tab:=[⟨93,[],D.h 0 b37.length⟩],mem:=[Obj.row 5 1 b37.length (fun j=>u8d (b37.getD j default)),Obj.var 25 [I f.kind,I f.part,I f.node,I f.wait,I f.mask,I f.link,D.v (.bool f.flag),I f.cycle,I f.offset,sl' 1 (fun x=>[I x]) f.ages,I f.frm,I f.to,I f.seq,bytesD f.body]] }) kR (PL.frzR 0 (t:=5) (z:=1) (m:=b37.length) (f:=(fun j=>u8d (b37.getD j default))) (f':=(fun i=>u8d (b37.getD i default))) (s':={ tab:=[⟨93,[],bytesD b37⟩],mem:=[Obj.dead,Obj.var 25 [I f.kind,I f.part,I f.node,I f.wait,I f.mask,I f.link,D.v (.bool f.flag),I f.cycle,I f.offset,sl' 1 (fun x=>[I x]) f.ages,I f.frm,I f.to,I f.seq,bytesD f.body]] }) rfl (fun j hj=>rfl) (Nat.zero_le _) (fz_eq (n:=b37.length) (d:=D.s b37.length 1 (fun i=>u8d (b37.getD i default))) (fun d9=>{ tab:=[⟨93,[],d9⟩],mem:=[Obj.dead,Obj.var 25 [I f.kind,I f.part,I f.node,I f.wait,I f.mask,I f.link,D.v (.bool f.flag),I f.cycle,I f.offset,sl' 1 (fun x=>[I x]) f.ages,I f.frm,I f.to,I f.seq,bytesD f.body]] }) kR rfl) (PL.gc (A:=[]) (fun _=>PC.made8 (l:=b37) (by (try rw [List.length_append]) <;> omega) (fun a n c w hr hn=>sealR_calls a n c b37 w hr hn)) (PL.n 2 [2,3] 2 (PW.ret (rq (D.t [bytesD (Sm.sealB b37),I 0]) ?_)))))))
      subst_vars
      refine .inl ?_
      rw [if_pos hz0,show bytesOf f=Sm.sealB (Fr.enc f) from if_pos hz0,← Fr.encL_4 hz0 oM]
     ·refine PW.a [1,4,70] 2 (PW.cd (f.kind == (5:Int)) ?_ ?_) <;> intro hz5 <;> try simp only [boolS] at hz5
      ·refine PW.seq (PW.open [0] kR ?_)
       refine PO.a [0,1,2,4,5,7,8,10,11] 14 [1,4,72,74,77,80,83] 5 (PO.one (n:=4) 3 kR ?_)
       refine PO1.cx (f:=41) (ds:=[D.h 0 b14.length,I f.link,I 1]) (ob:=Obj.row 5 1 b14.length (fun j=>u8d (b14.getD j default))) _ 0 (putR_px b14 f.link 1 oM oM) ?_ rfl
       rintro _ _ ⟨b50,e150,h150,rfl,rfl⟩
       refine PO.one (n:=3) 6 kR ?_
       refine PO1.cx (f:=41) (ds:=[D.h 0 b50.length,I f.frm,I 1]) (ob:=Obj.row 5 1 b50.length (fun j=>u8d (b50.getD j default))) _ 0 (putR_px b50 f.frm 1 oM oM) ?_ rfl
       rintro _ _ ⟨b51,e151,h151,rfl,rfl⟩
       refine PO.one (n:=2) 9 kR ?_
       refine PO1.cx (f:=41) (ds:=[D.h 0 b51.length,I f.to,I 1]) (ob:=Obj.row 5 1 b51.length (fun j=>u8d (b51.getD j default))) _ 0 (putR_px b51 f.to 1 oM oM) ?_ rfl
       rintro _ _ ⟨b52,e152,h152,rfl,rfl⟩
       refine PO.one (n:=1) 12 kR ?_
       refine PO1.cx (f:=41) (ds:=[D.h 0 b52.length,I f.seq,I 4]) (ob:=Obj.row 5 1 b52.length (fun j=>u8d (b52.getD j default))) _ 0 (putR_px b52 f.seq 4 oM oM) ?_ rfl
       rintro _ _ ⟨b53,e153,h153,rfl,rfl⟩
       refine PO.a [13] 1 [1,4] 0 (PO.done kR ?_)
       show PW _ _ _ _ _
       refine PW.open [0] kR ?_
       refine PO.a [0,1,2,3,5,6] 9 [4,85,88,91] 3 (PO.one (n:=2) 4 kR ?_)
       refine PO1.cx (f:=41) (ds:=[D.h 0 b53.length,I (f.body.length:Int),I 1]) (ob:=Obj.row 5 1 b53.length (fun j=>u8d (b53.getD j default))) _ 0 (putR_px b53 (f.body.length:Int) 1 oM oM) ?_ rfl
       rintro _ _ ⟨b55,e155,h155,rfl,rfl⟩
       refine PO.one (n:=1) 7 kR (PO1.mm rfl [4,92] 2 (p:=((b55.length=b55.length∧True)∧(b55.length+f.body.length)*1≤140737488355328∧b55.length+f.body.length≤9223372036854775807)) nD (PO.rm 0 (t:=5) (z:=1) (n:=(b55.length+f.body.length)) (fun j=>if j<b55.length then (fun j=>u8d (b55.getD j default)) j else (fun i=>u8d (f.body.getD i default)) (j-b55.length)) (fun j=>u8d ((b55++f.body).getD j default)) (fun j hj=>by (try dsimp only); rw [getD_app]; rcases Nat.lt_or_ge j (b55.length) with hj9|hj9 <;> first|(rw [if_pos hj9,if_pos (show j<b55.length from (by (try simp only [List.length_set,List.length_replicate,List.length_append,List.length_cons,List.length_nil]) <;> omega))])|(rw [if_neg (Nat.not_lt.2 hj9),if_neg (show ¬ j<b55.length from (by (try simp only [List.length_set,List.length_replicate,List.length_append,List.length_cons,List.length_nil]) <;> omega)),show j-b55.length=j-(b55.length) from (by (try simp only [List.length_set,List.length_replicate,List.length_append,List.length_cons,List.length_nil]) <;> omega)])) ?_))
       refine PO.a [8] 1 [4] 0 (PO.done kR ?_)
       show PW _ _ _ _ _
       refine PW.w 1 [93] 2 (PL.sl [93] 2 (PL.eq (s':={ tab:=[⟨93,[],D.h 0 (b55.length+f.body.length)⟩],mem:=[Obj.row 5 1 (b55.length+f.body.length) (fun j=>u8d ((b55++f.body).getD j default)),Obj.var 25 [I f.kind,I f.part,I f.node,I f.wait,I f.mask,I f.link,D.v (.bool f.flag),I f.cycle,I f.offset,sl' 1 (fun x=>[I x]) f.ages,I f.frm,I f.to,I f.seq,bytesD f.body]] }) kR (PL.frzR 0 (t:=5) (z:=1) (m:=(b55.length+f.body.length)) (f:=(fun j=>u8d ((b55++f.body).getD j default))) (f':=(fun i=>u8d ((b55++f.body).getD i default))) (s':={ tab:=[⟨93,[],bytesD (b55++f.body)⟩],mem:=[Obj.dead,Obj.var 25 [I f.kind,I f.part,I f.node,I f.wait,I f.mask,I f.link,D.v (.bool f.flag),I f.cycle,I f.offset,sl' 1 (fun x=>[I x]) f.ages,I f.frm,I f.to,I f.seq,bytesD f.body]] }) rfl (fun j hj=>rfl) (Nat.zero_le _) (fz_eq (n:=b55.length+f.body.length) (d:=D.s (b55.length+f.body.length) 1 (fun i=>u8d ((b55++f.body).getD i default))) (fun d9=>{ tab:=[⟨93,[],d9⟩],mem:=[Obj.dead,Obj.var 25 [I f.kind,I f.part,I f.node,I f.wait,I f.mask,I f.link,D.v (.bool f.flag),I f.cycle,I f.offset,sl' 1 (fun x=>[I x]) f.ages,I f.frm,I f.to,I f.seq,bytesD f.body]] }) kR (sl_len (z:=1) (n:=b55.length+f.body.length) (e:=u8d) (xs:=(b55++f.body)) (by (try simp only [List.length_replicate,List.length_append,List.length_cons,List.length_nil,List.length_set]) <;> omega))) (PL.gc (A:=[]) (fun _=>PC.made8 (l:=(b55++f.body)) (by (try rw [List.length_append]) <;> omega) (fun a n c w hr hn=>sealR_calls a n c (b55++f.body) w hr hn)) (PL.n 2 [2,3] 2 (PW.ret (rq (D.t [bytesD (Sm.sealB (b55++f.body)),I 0]) ?_)))))))
       subst_vars
       refine .inl ?_
       rw [if_pos hz0,show bytesOf f=Sm.sealB (Fr.enc f) from if_pos hz0,← Fr.encL_5 hz0 rfl oM]
      ·refine PW.k (PW.w 1 [93] 2 (PL.sl [93] 2 (PL.eq (s':={ tab:=[⟨93,[],D.h 0 b14.length⟩],mem:=[Obj.row 5 1 b14.length (fun j=>u8d (b14.getD j default)),Obj.var 25 [I f.kind,I f.part,I f.node,I f.wait,I f.mask,I f.link,D.v (.bool f.flag),I f.cycle,I f.offset,sl' 1 (fun x=>[I x]) f.ages,I f.frm,I f.to,I f.seq,bytesD f.body]] }) kR (PL.frzR 0 (t:=5) (z:=1) (m:=b14.length) (f:=(fun j=>u8d (b14.getD j default))) (f':=(fun i=>u8d (b14.getD i default))) (s':={ tab:=[⟨93,[],bytesD b14⟩],mem:=[Obj.dead,Obj.var 25 [I f.kind,I f.part,I f.node,I f.wait,I f.mask,I f.link,D.v (.bool f.flag),I f.cycle,I f.offset,sl' 1 (fun x=>[I x]) f.ages,I f.frm,I f.to,I f.seq,bytesD f.body]] }) rfl (fun j hj=>rfl) (Nat.zero_le _) (fz_eq (n:=b14.length) (d:=D.s b14.length 1 (fun i=>u8d (b14.getD i default))) (fun d9=>{ tab:=[⟨93,[],d9⟩],mem:=[Obj.dead,Obj.var 25 [I f.kind,I f.part,I f.node,I f.wait,I f.mask,I f.link,D.v (.bool f.flag),I f.cycle,I f.offset,sl' 1 (fun x=>[I x]) f.ages,I f.frm,I f.to,I f.seq,bytesD f.body]] }) kR rfl) (PL.gc (A:=[]) (fun _=>PC.made8 (l:=b14) (by (try rw [List.length_append]) <;> omega) (fun a n c w hr hn=>sealR_calls a n c b14 w hr hn)) (PL.n 2 [2,3] 2 (PW.ret ?_)))))))
       refine rq (D.t [bytesD (Sm.sealB b14),I 0]) ?_
       exfalso
       omega
end Go.Proofs.YtdomlccfjnkbjaaGreatDoor.Pl
