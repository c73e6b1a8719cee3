/- Chapter 14: whether two contents are the same; their order. -/
import Derived.Test.YtkhdnlkdcikdmaaDpOb
import Derived.Test.YtkhdnlkdcikdmaaDpS3
import Derived.Test.YtkhdnlkdcikdmaaFrDeep
namespace Go.Proofs.Ytkhdnlkdcikdmaa.Pl
open Go.RowKit Go.Proofs.Ytkhdnlkdcikdmaa.Sm Go.Proofs.Ytkhdnlkdcikdmaa.Dp
open Go.Proofs.Ytkhdnlkdcikdmaa.Fr (bare frD frC)
set_option maxHeartbeats 4000000
set_option maxRecDepth 100000
set_option linter.unusedVariables false
set_option linter.unusedSimpArgs false
structure Content where
 cycle:Int
 ages:List Int
deriving DecidableEq,Inhabited
def Content.d (c:Content):List D:=[I c.cycle,sl' 1 (fun x=>[I x]) c.ages]
theorem wrapS (i:Nat) (h:i<4611686018427387904):IntKind.i64.wrap ((i:Int)+1)=((i+1:Nat):Int):=by rw [Ev.wrap_i64 oM oM]; omega
def cmpI (x y:Int):Int:=if x<y then -1 else if x>y then 1 else 0
def orL:List Int→Int
 | []=>0
 | x::xs=>if x=0 then orL xs else x
def lexL:List Int→List Int→Int
 | [],[]=>0
 | [],_::_ => -1
 | _::_,[]=>1
 | x::xs,y::ys=>if cmpI x y=0 then lexL xs ys else cmpI x y
def cmpC (a b:Content):Int:=if a.cycle=b.cycle then lexL a.ages b.ages else cmpI a.cycle b.cycle
def sameC (a b:Content):Bool:=decide (a=b)
def ordX (l:List Content) (i j:Int):Int:=orL [cmpC (l.getD i.toNat default) (l.getD j.toNat default),cmpI i j]
theorem drop_at {xs:List Int} {i:Nat} (h:i<xs.length):xs.drop i=xs.getD i default::xs.drop (i+1):=by
 rw [List.drop_eq_getElem_cons h,List.getD_eq_getElem?_getD,List.getElem?_eq_getElem h]
 rfl
theorem drop_end {xs:List Int} {i:Nat} (h:xs.length≤i):xs.drop i=[]:=List.drop_eq_nil_iff.2 h
theorem or_hit {xs:List Int} {i:Nat} (h:orL xs=orL (xs.drop i)) (hi:i<xs.length) (hn:¬ xs.getD i default=0):xs.getD i default=orL xs:=by rw [h,drop_at hi,orL,if_neg hn]
theorem or_miss {xs:List Int} {i:Nat} (h:orL xs=orL (xs.drop i)) (hi:i<xs.length) (hn:xs.getD i default=0):orL xs=orL (xs.drop (i+1)):=by rw [h,drop_at hi,orL,if_pos hn]
theorem or_end {xs:List Int} {i:Nat} (h:orL xs=orL (xs.drop i)) (hi:xs.length≤i):orL xs=0:=by rw [h,drop_end hi]; rfl
section
variable {xs ys:List Int} {i:Nat}
theorem lex_more (h:lexL xs ys=lexL (xs.drop i) (ys.drop i)) (hi:i<xs.length) (hj:ys.length≤i):lexL xs ys=1:=by rw [h,drop_at hi,drop_end hj]; rfl
theorem lex_hit (h:lexL xs ys=lexL (xs.drop i) (ys.drop i)) (hi:i<xs.length) (hj:i<ys.length) (hn:¬ cmpI (xs.getD i default) (ys.getD i default)=0):lexL xs ys=cmpI (xs.getD i default) (ys.getD i default):=by rw [h,drop_at hi,drop_at hj,lexL,if_neg hn]
theorem lex_miss (h:lexL xs ys=lexL (xs.drop i) (ys.drop i)) (hi:i<xs.length) (hj:i<ys.length) (hn:cmpI (xs.getD i default) (ys.getD i default)=0):lexL xs ys=lexL (xs.drop (i+1)) (ys.drop (i+1)):=by rw [h,drop_at hi,drop_at hj,lexL,if_pos hn]
theorem lex_less (h:lexL xs ys=lexL (xs.drop i) (ys.drop i)) (hi:xs.length≤i) (hj:i<ys.length):lexL xs ys = -1:=by rw [h,drop_at hj,drop_end hi]; rfl
theorem lex_end (h:lexL xs ys=lexL (xs.drop i) (ys.drop i)) (hi:xs.length≤i) (hj:ys.length≤i):lexL xs ys=0:=by rw [h,drop_end hj,drop_end hi]; rfl
end
theorem cmpI_zero {x y:Int}:cmpI x y=0↔x=y:=by unfold cmpI; split <;> (try split) <;> omega
theorem cmpI_swap (x y:Int):cmpI y x = -cmpI x y:=by unfold cmpI; split <;> (try split) <;> (try split) <;> (try split) <;> omega
theorem lex_zero:∀ {xs ys:List Int},lexL xs ys=0↔xs=ys
 | [],[]=>by simp [lexL]
 | [],_::_=>by simp [lexL]
 | _::_,[]=>by simp [lexL]
 | x::xs,y::ys=>by
  rw [lexL,List.cons.injEq]
  by_cases h:cmpI x y=0
  ·rw [if_pos h,lex_zero]
   exact ⟨fun h2=>⟨cmpI_zero.1 h,h2⟩,fun h2=>h2.2⟩
  ·rw [if_neg h]
   exact ⟨fun h2=>absurd h2 h,fun h2=>absurd (cmpI_zero.2 h2.1) h⟩
theorem cmpC_zero {a b:Content}:cmpC a b=0↔a=b:=by
 obtain ⟨x,xs⟩:=a
 obtain ⟨y,ys⟩:=b
 unfold cmpC
 dsimp only
 rw [Content.mk.injEq]
 by_cases h:x=y
 ·rw [if_pos h,lex_zero]
  exact ⟨fun h2=>⟨h,h2⟩,fun h2=>h2.2⟩
 ·rw [if_neg h,cmpI_zero]
  exact ⟨fun h2=>absurd h2 h,fun h2=>absurd h2.1 h⟩
theorem sameC_is (a b:Content):(cmpC a b == 0)=sameC a b:=by
 unfold sameC
 by_cases h:a=b
 ·rw [cmpC_zero.2 h,decide_eq_true h]
  rfl
 ·rw [decide_eq_false h,beq_eq_false_iff_ne]
  exact fun h2=>h (cmpC_zero.1 h2)
theorem sameC_iff {a b:Content}:sameC a b=true↔a=b:=by simp [sameC]
theorem sameC_no {a b:Content}:sameC a b=false↔¬ a=b:=by simp [sameC]
theorem sameI {a b:Content}:(a.cycle=b.cycle∧a.ages=b.ages)↔a=b:=by
 obtain ⟨x,xs⟩:=a
 obtain ⟨y,ys⟩:=b
 rw [Content.mk.injEq]
theorem isNaN_int_pc (x:Int):PC Try.prog [] 41 [I x] (· = D.v (.bool false)):=by
 refine po 6 Try.func41 rfl (PW.a [0] 0 (PW.t [2] 0 (rq (D.v (.bool (x != x))) ?_)))
 simp
theorem compare_int_pc (x y:Int):PC Try.prog [] 32 [I x,I y] (· = I (cmpI x y)):=by
 refine po 20 Try.func32 rfl (PW.a [0,1] 0 (PW.w 1 [0,1,7] 0 (PL.gc (A:=[]) (fun _=>isNaN_int_pc x) (PL.n 1 [0,1,5] 0 (PW.w 1 [0,1,5,9] 0 (PL.gc (A:=[]) (fun _=>isNaN_int_pc y) (PL.n 1 [0,1,5,6] 0 ?_)))))))
 refine PW.q [0,1,6,11] 0 (PW.cd false (fun hz0=>by cases hz0) (fun hz0 => ?_))
 refine PW.k (PW.q [0,1,13] 0 (PW.cd false (fun hz1=>by cases hz1) (fun hz1 => ?_)))
 refine PW.k (PW.q [0,1,16] 0 (PW.cd (decide (x<y)) ?_ ?_)) <;> intro hz2 <;> try simp only [boolS] at hz2
 ·refine PW.t [4] 0 (rq (I (-1)) ?_)
  unfold cmpI; rw [if_pos oM]
 ·refine PW.k (PW.q [19] 0 (PW.cd (decide (x>y)) ?_ ?_)) <;> intro hz3 <;> try simp only [boolS] at hz3
  ·refine PW.t [4] 0 (rq (I 1) ?_)
   unfold cmpI; rw [if_neg oM,if_pos oM]
  ·refine PW.k (PW.t [4] 0 (rq (I 0) ?_))
   unfold cmpI; rw [if_neg oM,if_neg oM]
theorem isNaN_int64_pc (x:Int):PC Try.prog [] 42 [I x] (· = D.v (.bool false)):=by
 refine po 6 Try.func42 rfl (PW.a [0] 0 (PW.t [2] 0 (rq (D.v (.bool (x != x))) ?_)))
 simp
theorem compare_int64_pc (x y:Int):PC Try.prog [] 37 [I x,I y] (· = I (cmpI x y)):=by
 refine po 20 Try.func37 rfl (PW.a [0,1] 0 (PW.w 1 [0,1,7] 0 (PL.gc (A:=[]) (fun _=>isNaN_int64_pc x) (PL.n 1 [0,1,5] 0 (PW.w 1 [0,1,5,9] 0 (PL.gc (A:=[]) (fun _=>isNaN_int64_pc y) (PL.n 1 [0,1,5,6] 0 ?_)))))))
 refine PW.q [0,1,6,11] 0 (PW.cd false (fun hz0=>by cases hz0) (fun hz0 => ?_))
 refine PW.k (PW.q [0,1,13] 0 (PW.cd false (fun hz1=>by cases hz1) (fun hz1 => ?_)))
 refine PW.k (PW.q [0,1,16] 0 (PW.cd (decide (x<y)) ?_ ?_)) <;> intro hz2 <;> try simp only [boolS] at hz2
 ·refine PW.t [4] 0 (rq (I (-1)) ?_)
  unfold cmpI; rw [if_pos oM]
 ·refine PW.k (PW.q [19] 0 (PW.cd (decide (x>y)) ?_ ?_)) <;> intro hz3 <;> try simp only [boolS] at hz3
  ·refine PW.t [4] 0 (rq (I 1) ?_)
   unfold cmpI; rw [if_neg oM,if_pos oM]
  ·refine PW.k (PW.t [4] 0 (rq (I 0) ?_))
   unfold cmpI; rw [if_neg oM,if_neg oM]
theorem or_pc (xs:List Int) (hl:xs.length<1000000):PC Try.prog [] 31 [sl' 1 (fun x=>[I x]) xs] (· = I (orL xs)):=by
 refine po 18 Try.func31 rfl (PW.a [0] 0 (PW.a [0,3] 0 (PW.q [3,6,7,8] 0 (PW.block (PW.lp (α := Nat) (fun i=>{ tab:=[⟨3,[],I 0⟩,⟨6,[],sl' 1 (fun x=>[I x]) xs⟩,⟨7,[],I (xs.length:Int)⟩,⟨8,[],I (i:Int)⟩],mem:=[] }) (fun i=>i≤xs.length∧orL xs=orL (xs.drop i)) (fun i=>xs.length-i) [3,6,7,8] 0 (0) ?_ ?_)))))
 ·exact ⟨Nat.zero_le _,rfl⟩
 rintro i hinv
 show PW _ _ _ _ _
 refine PW.a [3,6,7,8,9] 0 (PW.seq (PW.cd (decide ((i:Int)<(xs.length:Int))) ?_ ?_)) <;> intro hz0 <;> try simp only [boolS] at hz0
 ·refine PW.k (PW.seq (PW.block (PW.sr [3,5,6,7,8] 0 (p:=(0≤(i:Int)∧(i:Int)<(xs.length:Int))) oM (PW.a [3,5,6,7,8,14] 0 (PW.cd ((xs.getD i default) != (0:Int)) ?_ ?_))))) <;> intro hz1 <;> try simp only [boolS] at hz1
  ·refine PW.t [2] 0 (rq (I (xs.getD i default)) ?_)
   rw [or_hit hinv.2 oM hz1]
  ·refine PW.k (PW.b [3,6,7,8] 0 ?_)
   refine BackR.u [(8,I (IntKind.i64.wrap ((i:Int)+1)),I ((i+1):Int))] [] (i+1) ?_
   ·exact ⟨by omega,or_miss hinv.2 oM (by simpa using hz1)⟩
 ·refine PW.e (PW.t [2] 0 (rq (I 0) ?_))
  rw [or_end hinv.2 oM]
theorem lex_pc (xs ys:List Int) (hl:xs.length<1000000) (hm:ys.length<1000000):PC Try.prog [] 38 [sl' 1 (fun x=>[I x]) xs,sl' 1 (fun x=>[I x]) ys] (· = I (lexL xs ys)):=by
 refine po 36 Try.func38 rfl (PW.a [0,1] 0 (PW.q [0,1,9,10,11] 0 (PW.block (PW.lp (α := Nat) (fun i=>{ tab:=[⟨0,[],sl' 1 (fun x=>[I x]) xs⟩,⟨1,[],sl' 1 (fun x=>[I x]) ys⟩,⟨9,[],sl' 1 (fun x=>[I x]) xs⟩,⟨10,[],I (xs.length:Int)⟩,⟨11,[],I (i:Int)⟩],mem:=[] }) (fun i=>i≤xs.length∧i≤ys.length∧lexL xs ys=lexL (xs.drop i) (ys.drop i)) (fun i=>xs.length-i) [0,1,9,10,11] 0 (0) ?_ ?_))))
 ·exact ⟨Nat.zero_le _,Nat.zero_le _,rfl⟩
 rintro i hinv
 show PW _ _ _ _ _
 refine PW.a [0,1,9,10,11,12] 0 (PW.seq (PW.cd (decide ((i:Int)<(xs.length:Int))) ?_ ?_)) <;> intro hz0 <;> try simp only [boolS] at hz0
 ·refine PW.k (PW.seq (PW.block (PW.sr [0,1,5,6,9,10,11] 0 (p:=(0≤(i:Int)∧(i:Int)<(xs.length:Int))) oM (PW.q [0,1,5,6,9,10,11,19] 0 (PW.cd (decide ((i:Int)≥(ys.length:Int))) ?_ ?_))))) <;> intro hz1 <;> try simp only [boolS] at hz1
  ·refine PW.t [4] 0 (rq (I 1) ?_)
   rw [lex_more hinv.2.2 oM oM]
  ·refine PW.k (PW.sr [0,1,6,7,9,10,11] 0 (p:=(0≤(i:Int)∧(i:Int)<(ys.length:Int))) oM (PW.w 2 [0,1,9,10,11,24,25] 0 (PL.gc (A:=[]) (fun _=>compare_int_pc (xs.getD i default) (ys.getD i default)) (PL.n 1 [0,1,8,9,10,11] 0 (PW.a [0,1,8,9,10,11,28] 0 (PW.cd ((cmpI (xs.getD i default) (ys.getD i default)) != (0:Int)) ?_ ?_)))))) <;> intro hz2 <;> try simp only [boolS] at hz2
   ·refine PW.t [4] 0 (rq (I (cmpI (xs.getD i default) (ys.getD i default))) ?_)
    rw [lex_hit hinv.2.2 oM oM hz2]
   ·refine PW.k (PW.b [0,1,9,10,11] 0 ?_)
    refine BackR.u [(11,I (IntKind.i64.wrap ((i:Int)+1)),I ((i+1):Int))] [] (i+1) ?_
    ·exact ⟨by omega,by omega,lex_miss hinv.2.2 oM oM (by simpa using hz2)⟩
 ·refine PW.e (PW.q [35] 0 (PW.cd (decide ((xs.length:Int)<(ys.length:Int))) ?_ ?_)) <;> intro hz3 <;> try simp only [boolS] at hz3
  ·refine PW.t [4] 0 (rq (I (-1)) ?_)
   rw [lex_less hinv.2.2 oM oM]
  ·refine PW.k (PW.t [4] 0 (rq (I 0) ?_))
   rw [lex_end hinv.2.2 oM oM]
theorem vote_compare_pc (a b:Content) (ha:a.ages.length<1000000) (hb:b.ages.length<1000000):PC Try.prog [] 28 [D.r (Content.d a),D.r (Content.d b)] (· = I (cmpC a b)):=by
 refine po 20 Try.func28 rfl (PW.a [2,3] 2 (PW.q [2,3,9] 2 (PW.cd (a.cycle != b.cycle) ?_ ?_))) <;> intro hz0 <;> try simp only [boolS] at hz0
 ·refine PW.w 4 [11,13] 2 (PL.gc (A:=[]) (fun _=>compare_int64_pc a.cycle b.cycle) (PL.n 1 [4] 2 (PW.ret (rq (I (cmpI a.cycle b.cycle)) ?_))))
  rw [cmpC,if_neg (by simpa using hz0)]
 ·refine PW.k (PW.w 4 [16,18] 2 (PL.gc (A:=[]) (fun _=>lex_pc a.ages b.ages oM oM) (PL.n 1 [4] 2 (PW.ret (rq (I (lexL a.ages b.ages)) ?_)))))
  rw [cmpC,if_pos (by simpa using hz0)]
theorem ord_pc (l:List Content) (hl:l.length<1000000) (hA:∀ k,(l.getD k default).ages.length<1000000) (p q:Nat) (hp:p<l.length) (hq:q<l.length):PC Try.prog [] 30 [I (p:Int),I (q:Int),D.q [sl' 2 Content.d l] 0] (· = I (ordX l (p:Int) (q:Int))):=by
 refine po 20 Try.func30 rfl (PW.a [0,1,2] 0 (PW.seq (PW.open [] kR (PO.tk [0,1,2,3,4,5,6,7,9,10] 15 [9,13,15,16] 5 (p:=(0≤(p:Int)∧(p:Int)<(l.length:Int))∧(0≤(q:Int)∧(q:Int)<(l.length:Int))) oM (fun _ _ h=>h) (PO.one (n:=4) 8 kR ?_)))))
 refine PO1.gc _ (ds0:=[D.r [I ((l.getD p default).cycle),sl' 1 (fun x=>[I x]) ((l.getD p default).ages)],D.r [I ((l.getD q default).cycle),sl' 1 (fun x=>[I x]) ((l.getD q default).ages)]]) (A:=[]) (fun _=>vote_compare_pc (l.getD p default) (l.getD q default) (hA _) (hA _)) ?_ rfl
 refine PO.one (n:=3) 11 kR ?_
 refine PO1.gc _ (A:=[]) (fun _=>compare_int_pc (p:Int) (q:Int)) ?_ rfl
 refine PO.one (n:=2) 12 kR ?_
 refine PO1.a [18] 1 (PO.sel [18] 1 rfl kR (PO.eq (s':={ tab:=[⟨18,[],D.h 0 2⟩],mem:=[Obj.row 3 1 2 (fun k=>([[I (cmpC (l.getD p default) (l.getD q default))],[I (cmpI (p:Int) (q:Int))]][k]?).getD [])] }) kR (PO.frzR 0 (t:=3) (z:=1) (m:=2) (f:=(fun k=>([[I (cmpC (l.getD p default) (l.getD q default))],[I (cmpI (p:Int) (q:Int))]][k]?).getD [])) (f':=(fun i=>[I (([cmpC (l.getD p default) (l.getD q default),cmpI (p:Int) (q:Int)]).getD i default)])) (s':={ tab:=[⟨18,[],sl' 1 (fun x=>[I x]) ([cmpC (l.getD p default) (l.getD q default),cmpI (p:Int) (q:Int)])⟩],mem:=[Obj.dead] }) rfl (fun j hj=>match j,hj with|0,_=>rfl|1,_=>rfl|j+2,hj=>absurd hj oM) (Nat.zero_le _) kR (PO.one (n:=1) 13 kR ?_))))
 refine PO1.gc _ (A:=[]) (fun _=>or_pc ([cmpC (l.getD p default) (l.getD q default),cmpI (p:Int) (q:Int)]) (by simp)) ?_ rfl
 refine PO.a [14] 1 [5] 0 (PO.done kR ?_)
 show PW _ _ _ _ _
 refine PW.ret (rq (I (orL ([cmpC (l.getD p default) (l.getD q default),cmpI (p:Int) (q:Int)]))) ?_)
 rfl
theorem vote_Same_pc (a b:Content) (ha:a.ages.length<1000000) (hb:b.ages.length<1000000):PC Try.prog [] 20 [D.r (Content.d a),D.r (Content.d b)] (· = D.v (.bool (sameC a b))):=by
 refine po 9 Try.func20 rfl (PW.a [2,3] 2 (PW.w 2 [5,6] 2 (PL.gc (A:=[]) (fun _=>vote_compare_pc a b ha hb) (PL.n 2 [4] 2 (PW.ret (rq (D.v (.bool ((cmpC a b) == (0:Int)))) ?_))))))
 rw [sameC_is]
end Go.Proofs.Ytkhdnlkdcikdmaa.Pl
