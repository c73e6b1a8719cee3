/- Chapter 14: copies, masks, enough; the document's own SameContent, Win. -/
import Derived.Test.YtkhdnlkdcikdmaaVoOne
import Derived.Test.YtkhdnlkdcikdmaaVoClone
import Derived.Test.YtkhdnlkdcikdmaaDpShl
namespace Go.Proofs.Ytkhdnlkdcikdmaa.Pl
open Go.RowKit Go.Proofs.Ytkhdnlkdcikdmaa.Sm Go.Proofs.Ytkhdnlkdcikdmaa.Dp
open Go.Proofs.Ytkhdnlkdcikdmaa.Fr (bare frD frC)
set_option maxHeartbeats 4000000
set_option maxRecDepth 100000
set_option linter.unusedVariables false
set_option linter.unusedSimpArgs false
def enoughB (v f:Int):Bool:=decide (0≤f∧f≤3∧2*f+1≤v)
theorem enough_is (v f:Int):((decide (f≥0)&&decide (f≤3))&&decide (v≥IntKind.i64.wrap (IntKind.i64.wrap (2*f)+1)))=enoughB v f:=by
 unfold enoughB
 by_cases h:0≤f∧f≤3
 ·rw [Ev.wrap_i64 (x:=2*f) oM oM,Ev.wrap_i64 oM oM,decide_eq_true (p:=f≥0) oM,decide_eq_true (p:=f≤3) oM]
  simp only [Bool.true_and]
  exact decide_eq_decide.2 ⟨fun h2=>⟨h.1,h.2,h2⟩,fun h2=>h2.2.2⟩
 ·rw [decide_eq_false (p:=0≤f∧f≤3∧2*f+1≤v) (fun h2=>h ⟨h2.1,h2.2.1⟩),show (decide (f≥0)&&decide (f≤3))=false from by
   rw [← Bool.not_eq_true,Bool.and_eq_true,decide_eq_true_eq,decide_eq_true_eq]
   exact h]
  rfl
def orI (a b:Int):Int:=IntKind.i64.wrap ((BitVec.ofInt 64 a ||| BitVec.ofInt 64 b).toNat:Int)
def shlI (a n:Int):Int:=IntKind.i64.wrap (a*2^min n.toNat 64)
def maskN (l:List Heard):Nat→Int
 | 0=>0
 | i+1=>if 0≤(l.getD i default).frame.node∧(l.getD i default).frame.node<12 then orI (maskN l i) (shlI 1 (l.getD i default).frame.node) else maskN l i
theorem wrapU {x:Int} (h:0≤x∧x<12):IntKind.u64.wrap x=x:=by simp [IntKind.wrap,IntKind.bits,IntKind.signed]; omega
theorem count_one {l:List Content} {c:Content} {k:Nat} (h:k<l.length):(l.take (k+1)).count c=(l.take k).count c+if l.getD k default=c then 1 else 0:=by
 rw [List.take_succ_eq_append_getElem h,List.count_append,List.getD_eq_getElem?_getD,List.getElem?_eq_getElem h,List.count_singleton]
 simp
theorem vote_Enough_pc (v f:Int):PC Try.prog [] 12 [I v,I f] (· = D.v (.bool (enoughB v f))):=by
 refine po 18 Try.func12 rfl (PW.a [0,1] 0 (PW.t [4] 0 (rq (D.v (.bool (((decide (f≥(0:Int)))&&(decide (f≤(3:Int))))&&(decide (v≥(IntKind.i64.wrap ((IntKind.i64.wrap (2*f))+1))))))) ?_)))
 rw [← enough_is]
theorem drumlineref10_Enough_pc (v f:Int):PC Try.prog [] 13 [I v,I f] (· = D.v (.bool (enoughB v f))):=by
 refine po 18 Try.func13 rfl (PW.a [0,1] 0 (PW.t [4] 0 (rq (D.v (.bool (((decide (f≥(0:Int)))&&(decide (f≤(3:Int))))&&(decide (v≥(IntKind.i64.wrap ((IntKind.i64.wrap (2*f))+1))))))) ?_)))
 rw [← enough_is]
theorem drumlineref1_Ints_pc (xs:List Int) (hl:xs.length<1000000):PC Try.prog [] 35 [sl' 1 (fun x=>[I x]) xs] (· = sl' 1 (fun x=>[I x]) xs):=by
 refine po 5 Try.func35 rfl (PW.a [0] 0 (PW.sg (PL.rw 2 [4] 1 (p:=(True∧(0+xs.length)*8≤140737488355328∧0+xs.length≤9223372036854775807)) nD (PL.rm 0 (t:=3) (z:=1) (n:=(0+xs.length)) (fun j=>if j<0 then (fun _=>[]) j else (fun i=>[I (xs.getD i default)]) (j-0)) (fun j=>(fun x=>[I x]) (xs.getD j default)) (fun j hj=>by (try dsimp only); rw [if_neg (Nat.not_lt_zero j)]; rfl) (PL.n 1 [2] 1 (PW.ret (retQ_ret (d:=D.s (0+xs.length) 1 (fun j=>(fun x=>[I x]) (xs.getD j default))) (ps:=[0+xs.length≤0+xs.length]) kR (show (0+xs.length≤0+xs.length) from by exact nD) ?_)))))))
 unfold sl'
 rw [Nat.zero_add]
theorem drumlineref1_Copy_pc (xs:List UInt8) (hl:xs.length<1000000):PC Try.prog [] 36 [bytesD xs] (· = bytesD xs):=by
 refine po 5 Try.func36 rfl (PW.a [0] 0 (PW.sg (PL.rw 2 [4] 1 (p:=(True∧(0+xs.length)*1≤140737488355328∧0+xs.length≤9223372036854775807)) nD (PL.rm 0 (t:=5) (z:=1) (n:=(0+xs.length)) (fun j=>if j<0 then (fun _=>[]) j else (fun i=>u8d (xs.getD i default)) (j-0)) (fun j=>u8d (xs.getD j default)) (fun j hj=>by (try dsimp only); rw [if_neg (Nat.not_lt_zero j)]; rfl) (PL.n 1 [2] 1 (PW.ret (retQ_ret (d:=D.s (0+xs.length) 1 (fun j=>u8d (xs.getD j default))) (ps:=[0+xs.length≤0+xs.length]) kR (show (0+xs.length≤0+xs.length) from by exact nD) ?_)))))))
 unfold bytesD sl'
 rw [Nat.zero_add]
theorem vote_clone_pc (x:Heard) (h1:x.frame.ages.length<1000000) (h2:x.frame.body.length<1000000):PC Try.prog [] 26 [D.r (Heard.d x)] (· = D.r (Heard.d x)):=by
 refine po 16 Try.func26 rfl (PW.a [1,2] 2 (PW.w 3 [1,2,5] 2 (PL.gc (A:=[]) (fun _=>clone_int x.frame.ages h1) (PL.n 3 [1,2] 2 (PW.w 3 [1,2,11] 2 (PL.gc (A:=[]) (fun _=>clone_byte x.frame.body h2) (PL.n 3 [1,2] 2 ?_)))))))
 refine PW.t [2] 2 (rq (D.r [I x.slot,I x.frame.kind,I x.frame.part,I x.frame.node,I x.frame.wait,I x.frame.mask,I x.frame.link,D.v (.bool x.frame.flag),I x.frame.cycle,I x.frame.offset,sl' 1 (fun x=>[I x]) x.frame.ages,I x.frame.frm,I x.frame.to,I x.frame.seq,bytesD x.frame.body,I x.at_]) ?_)
 rfl
theorem drumlineref10_CopyHeard_pc (x:Heard) (h1:x.frame.ages.length<1000000) (h2:x.frame.body.length<1000000):PC Try.prog [] 27 [D.r (Heard.d x)] (· = D.r (Heard.d x)):=by
 refine po 16 Try.func27 rfl (PW.a [1,2] 2 (PW.w 3 [1,2,5] 2 (PL.gc (A:=[]) (fun _=>drumlineref1_Ints_pc x.frame.ages h1) (PL.n 3 [1,2] 2 (PW.w 3 [1,2,11] 2 (PL.gc (A:=[]) (fun _=>drumlineref1_Copy_pc x.frame.body h2) (PL.n 3 [1,2] 2 ?_)))))))
 refine PW.t [2] 2 (rq (D.r [I x.slot,I x.frame.kind,I x.frame.part,I x.frame.node,I x.frame.wait,I x.frame.mask,I x.frame.link,D.v (.bool x.frame.flag),I x.frame.cycle,I x.frame.offset,sl' 1 (fun x=>[I x]) x.frame.ages,I x.frame.frm,I x.frame.to,I x.frame.seq,bytesD x.frame.body,I x.at_]) ?_)
 rfl
theorem vote_Mask_pc (l:List Heard) (hl:l.length<1000000):PC Try.prog [] 18 [sl' 16 Heard.d l] (· = I (maskN l l.length)):=by
 refine po 30 Try.func18 rfl (PW.a [0] 0 (PW.a [0,3] 0 (PW.q [3,6,7,8] 0 (PW.block (PW.lp (α := Nat×Int) (fun (i,m)=>{ tab:=[⟨3,[],I m⟩,⟨6,[],sl' 16 Heard.d l⟩,⟨7,[],I (l.length:Int)⟩,⟨8,[],I (i:Int)⟩],mem:=[] }) (fun (i,m)=>i≤l.length∧m=maskN l i) (fun (i,m)=>l.length-i) [3,6,7,8] 0 (0,0) ?_ ?_)))))
 ·dsimp only
  exact ⟨Nat.zero_le _,rfl⟩
 rintro ⟨i,m⟩ hinv
 dsimp only at hinv
 show PW _ _ _ _ _
 refine PW.a [3,6,7,8,9] 0 (PW.seq (PW.cd (decide ((i:Int)<(l.length:Int))) ?_ ?_)) <;> intro hz0 <;> try simp only [boolS] at hz0
 ·try have wu9:=wrapU hz0
  refine PW.k (PW.seq (PW.block (PW.sr [3,5,6,7,8] 1 (p:=(0≤(i:Int)∧(i:Int)<(l.length:Int))) oM (PW.a [3,5,6,7,8,21] 1 (PW.cd ((decide ((((l.getD i default).frame).node)≥(0:Int)))&&(decide ((((l.getD i default).frame).node)<(12:Int)))) ?_ ?_))))) <;> intro hz1 <;> try simp only [boolS] at hz1
  ·try have wu9:=wrapU hz1
   refine PW.region (PL.a 4 [6,7,8,22,25] 1 (PL.shl (k := .i64) (yk := .i64) (A:=[]) (1:Int) (((l.getD i default).frame).node) (shlI (1:Int) (((l.getD i default).frame).node:Int)) rfl rfl kR kR kR kR kR (fun _=>by omega) (PL.a 2 [3,6,7,8] 1 (PL.nil ?_))))
   show PW _ _ _ _ _
   refine PW.b [3,6,7,8] 1 ?_
   refine BackR.u [(8,I (IntKind.i64.wrap ((i:Int)+1)),I ((i+1):Int))] [] (i+1,orI (m:Int) (shlI (1:Int) (((l.getD i default).frame).node:Int):Int)) ?_
   ·dsimp only
    exact ⟨by omega,by
     rw [maskN]
     split
     ·first|(exfalso; omega)|(rw [wu9,← hinv.2])|(rw [← hinv.2])
     ·first|(exfalso; omega)|exact hinv.2⟩
  ·try have wu9:=wrapU hz1
   refine PW.k (PW.b [3,6,7,8] 1 ?_)
   refine BackR.u [(8,I (IntKind.i64.wrap ((i:Int)+1)),I ((i+1):Int))] [] (i+1,m) ?_
   ·dsimp only
    exact ⟨by omega,by
     rw [maskN]
     split
     ·first|(exfalso; omega)|(rw [wu9,← hinv.2])|(rw [← hinv.2])
     ·first|(exfalso; omega)|exact hinv.2⟩
 ·try have wu9:=wrapU hz0
  refine PW.e (PW.t [2] 0 (rq (I m) ?_))
  rw [hinv.2,show i=l.length by omega]
theorem drumlineref10_Mask_pc (l:List Heard) (hl:l.length<1000000):PC Try.prog [] 19 [sl' 16 Heard.d l] (· = I (maskN l l.length)):=by
 refine po 30 Try.func19 rfl (PW.a [0] 0 (PW.a [0,3] 0 (PW.q [0,3,4] 0 (PW.block (PW.lp (α := Nat×Int) (fun (i,m)=>{ tab:=[⟨0,[],sl' 16 Heard.d l⟩,⟨3,[],I m⟩,⟨4,[],I (i:Int)⟩],mem:=[] }) (fun (i,m)=>i≤l.length∧m=maskN l i) (fun (i,m)=>l.length-i) [0,3,4] 0 (0,0) ?_ ?_)))))
 ·dsimp only
  exact ⟨Nat.zero_le _,rfl⟩
 rintro ⟨i,m⟩ hinv
 dsimp only at hinv
 show PW _ _ _ _ _
 refine PW.q [0,3,4,9] 0 (PW.cd (decide ((i:Int)<(l.length:Int))) ?_ ?_) <;> intro hz0 <;> try simp only [boolS] at hz0
 ·try have wu9:=wrapU hz0
  refine PW.k (PW.seq (PW.block (PW.sr [0,3,4,5] 0 (p:=(0≤(i:Int)∧(i:Int)<(l.length:Int))) oM (PW.a [0,3,4,5,23] 0 (PW.cd ((decide ((((l.getD i default).frame).node)≥(0:Int)))&&(decide ((((l.getD i default).frame).node)<(12:Int)))) ?_ ?_))))) <;> intro hz1 <;> try simp only [boolS] at hz1
  ·try have wu9:=wrapU hz1
   refine PW.region (PL.a 3 [0,4,24,26] 0 (PL.shl (k := .i64) (yk := .u64) (A:=[]) (1:Int) (IntKind.u64.wrap (((l.getD i default).frame).node)) (shlI (1:Int) (IntKind.u64.wrap (((l.getD i default).frame).node):Int)) rfl rfl kR kR kR kR kR (fun _=>by omega) (PL.a 2 [0,3,4] 0 (PL.nil ?_))))
   show PW _ _ _ _ _
   refine PW.b [0,3,4] 0 ?_
   refine BackR.u [(4,I (IntKind.i64.wrap ((i:Int)+1)),I ((i+1):Int))] [] (i+1,orI (m:Int) (shlI (1:Int) (IntKind.u64.wrap (((l.getD i default).frame).node):Int):Int)) ?_
   ·dsimp only
    exact ⟨by omega,by
     rw [maskN]
     split
     ·first|(exfalso; omega)|(rw [wu9,← hinv.2])|(rw [← hinv.2])
     ·first|(exfalso; omega)|exact hinv.2⟩
  ·try have wu9:=wrapU hz1
   refine PW.k (PW.b [0,3,4] 0 ?_)
   refine BackR.u [(4,I (IntKind.i64.wrap ((i:Int)+1)),I ((i+1):Int))] [] (i+1,m) ?_
   ·dsimp only
    exact ⟨by omega,by
     rw [maskN]
     split
     ·first|(exfalso; omega)|(rw [wu9,← hinv.2])|(rw [← hinv.2])
     ·first|(exfalso; omega)|exact hinv.2⟩
 ·try have wu9:=wrapU hz0
  refine PW.e (PW.t [2] 0 (rq (I m) ?_))
  rw [hinv.2,show i=l.length by omega]
theorem drumlineref1_SameInts_pc (xs ys:List Int) (hl:xs.length<1000000) (hm:ys.length<1000000):PC Try.prog [] 21 [sl' 1 (fun x=>[I x]) xs,sl' 1 (fun x=>[I x]) ys] (· = D.v (.bool (decide (xs=ys)))):=by
 refine po 26 Try.func21 rfl (PW.a [0,1] 0 (PW.q [0,1,10] 0 (PW.cd ((xs.length:Int) != (ys.length:Int)) ?_ ?_))) <;> intro hz0 <;> try simp only [boolS] at hz0
 ·refine PW.t [4] 0 (rq (D.v (.bool false)) ?_)
  rw [decide_eq_false (fun h=>hz0 (by rw [h]))]
 ·refine PW.k (PW.q [0,1,5] 0 (PW.block (PW.lp (α := Nat) (fun i=>{ tab:=[⟨0,[],sl' 1 (fun x=>[I x]) xs⟩,⟨1,[],sl' 1 (fun x=>[I x]) ys⟩,⟨5,[],I (i:Int)⟩],mem:=[] }) (fun i=>i≤xs.length∧∀ j,j<i→xs.getD j default=ys.getD j default) (fun i=>xs.length-i) [0,1,5] 0 (0) ?_ ?_)))
  ·exact ⟨Nat.zero_le _,fun j hj=>absurd hj (Nat.not_lt_zero _)⟩
  rintro i hinv
  have hle:xs.length=ys.length:=by omega
  show PW _ _ _ _ _
  refine PW.q [0,1,5,14] 0 (PW.cd (decide ((i:Int)<(xs.length:Int))) ?_ ?_) <;> intro hz1 <;> try simp only [boolS] at hz1
  ·refine PW.k (PW.seq (PW.block (PW.seq (PW.open [] kR (PO.tk [0,1,2,3,4,5,6,7,8] 9 [0,1,5,25] 0 (p:=(0≤(i:Int)∧(i:Int)<(xs.length:Int))∧(0≤(i:Int)∧(i:Int)<(ys.length:Int))) oM (fun _ _ h=>h) (PO.done kR ?_))))))
   show PW _ _ _ _ _
   refine PW.cd ((xs.getD i default) != (ys.getD i default)) ?_ ?_ <;> intro hz2 <;> try simp only [boolS] at hz2
   ·refine PW.t [4] 0 (rq (D.v (.bool false)) ?_)
    rw [decide_eq_false (fun h=>hz2 (by rw [h]))]
   ·refine PW.k (PW.b [0,1,5] 0 ?_)
    refine BackR.u [(5,I (IntKind.i64.wrap ((i:Int)+1)),I ((i+1):Int))] [] (i+1) ?_
    ·refine ⟨by omega,fun j hj => ?_⟩
     rcases Nat.lt_or_ge j i with h|h
     ·exact hinv.2 j h
     ·rw [show j=i by omega]; omega
  ·refine PW.e (PW.t [4] 0 (rq (D.v (.bool true)) ?_))
   rw [decide_eq_true]
   apply List.ext_getElem?
   intro j
   rcases Nat.lt_or_ge j xs.length with hj|hj
   · have:=hinv.2 j oM
     rw [List.getD_eq_getElem?_getD,List.getD_eq_getElem?_getD,List.getElem?_eq_getElem hj,List.getElem?_eq_getElem oM] at this
     rw [List.getElem?_eq_getElem hj,List.getElem?_eq_getElem oM]
     simpa using this
   · rw [List.getElem?_eq_none hj,List.getElem?_eq_none oM]
theorem drumlineref10_SameContent_pc (a b:Content) (ha:a.ages.length<1000000) (hb:b.ages.length<1000000):PC Try.prog [] 22 [D.r (Content.d a),D.r (Content.d b)] (· = D.v (.bool (sameC a b))):=by
 refine po 17 Try.func22 rfl (PW.a [2,3] 2 (PW.w 10 [10,12,14] 2 (PL.gc (A:=[(10,true)]) (fun _=>drumlineref1_SameInts_pc a.ages b.ages oM oM) (PL.n 2 [4] 2 (PW.ret (rq (D.v (.bool ((a.cycle == b.cycle)&&(decide (a.ages=b.ages))))) ?_))))))
 congr 2
 unfold sameC
 rw [Bool.eq_iff_iff]
 simp only [Bool.and_eq_true,beq_iff_eq,decide_eq_true_eq]
 exact sameI
theorem drumlineref10_Win_pc (l:List Content) (hl:l.length<1000000) (hA:∀ k,(l.getD k default).ages.length<1000000):PC Try.prog [] 11 [sl' 2 Content.d l] (· = D.t [I (winI l).1,I (winI l).2]):=by
 refine po 39 Try.func11 rfl (PW.a [0] 0 (PW.a [0,4,5] 0 (PW.q [0,4,5,6] 0 (PW.block (PW.lp (α := Nat×Int×Int) (fun (i,a,m)=>{ tab:=[⟨0,[],sl' 2 Content.d l⟩,⟨4,[],I a⟩,⟨5,[],I m⟩,⟨6,[],I (i:Int)⟩],mem:=[] }) (fun (i,a,m)=>i≤l.length∧(a,m)=winN l i) (fun (i,a,m)=>l.length-i) [0,4,5,6] 0 (0,(-1),0) ?_ ?_)))))
 ·dsimp only
  exact ⟨Nat.zero_le _,rfl⟩
 rintro ⟨i,a,m⟩ hinv
 dsimp only at hinv
 show PW _ _ _ _ _
 refine PW.q [0,4,5,6,12] 0 (PW.cd (decide ((i:Int)<(l.length:Int))) ?_ ?_) <;> intro hz0 <;> try simp only [boolS,sameC_iff,sameC_no] at hz0
 ·refine PW.k (PW.seq (PW.block (PW.a [0,4,5,6,7] 0 (PW.q [0,4,5,6,7,8] 0 (PW.block (PW.lp (α := Nat×Nat) (fun (k,c)=>{ tab:=[⟨0,[],sl' 2 Content.d l⟩,⟨4,[],I a⟩,⟨5,[],I m⟩,⟨6,[],I (i:Int)⟩,⟨7,[],I (c:Int)⟩,⟨8,[],I (k:Int)⟩],mem:=[] }) (fun (k,c)=>k≤l.length∧c=(l.take k).count (l.getD i default)) (fun (k,c)=>l.length-k) [0,4,5,6,7,8] 0 (0,0) ?_ ?_))))))
  ·dsimp only
   exact ⟨Nat.zero_le _,rfl⟩
  rintro ⟨k,c⟩ hinw
  dsimp only at hinw
  have hcl:c≤k:=by rw [hinw.2]; exact Nat.le_trans List.count_le_length (by rw [List.length_take]; omega)
  show PW _ _ _ _ _
  refine PW.q [0,4,5,6,7,8,18] 0 (PW.cd (decide ((k:Int)<(l.length:Int))) ?_ ?_) <;> intro hz1 <;> try simp only [boolS,sameC_iff,sameC_no] at hz1
  ·refine PW.k (PW.seq (PW.block (PW.seq (PW.open [] kR (PO.tk [0,1,2,3,4,5,6,7] 9 [0,4,5,6,7,8,24,28] 1 (p:=(0≤(i:Int)∧(i:Int)<(l.length:Int))∧(0≤(k:Int)∧(k:Int)<(l.length:Int))) oM (fun _ _ h=>h) (PO.one (n:=0) 8 kR ?_))))))
   refine PO1.gc _ (ds0:=[D.r [I ((l.getD i default).cycle),sl' 1 (fun x=>[I x]) ((l.getD i default).ages)],D.r [I ((l.getD k default).cycle),sl' 1 (fun x=>[I x]) ((l.getD k default).ages)]]) (A:=[]) (fun _=>drumlineref10_SameContent_pc (l.getD i default) (l.getD k default) (hA _) (hA _)) ?_ rfl
   refine PO.done kR ?_
   show PW _ _ _ _ _
   refine PW.cd (sameC (l.getD i default) (l.getD k default)) ?_ ?_ <;> intro hz2 <;> try simp only [boolS,sameC_iff,sameC_no] at hz2
   ·refine PW.b [0,4,5,6,7,8] 0 ?_
    show PW _ _ _ _ _
    refine PW.b [0,4,5,6,7,8] 0 ?_
    refine BackR.of (s1:={ tab:=[⟨0,[],sl' 2 Content.d l⟩,⟨4,[],I a⟩,⟨5,[],I m⟩,⟨6,[],I (i:Int)⟩,⟨7,[],I (IntKind.i64.wrap ((c:Int)+1))⟩,⟨8,[],I (IntKind.i64.wrap ((k:Int)+1))⟩],mem:=[] }) (k+1,c+1) kR kR ?_ ?_ ?_
    ·dsimp only
     first|(rw [wrapS k oM,wrapS c oM])|(rw [wrapS k oM])
     exact Rem.refl _
    ·dsimp only
     refine ⟨by omega,?_⟩
     rw [count_one oM,← hinw.2]
     first|(rw [if_pos hz2.symm])|(rw [if_neg (fun h=>hz2 h.symm)]; rfl)
    ·dsimp only
     exact nD
   ·refine PW.k (PW.b [0,4,5,6,7,8] 0 ?_)
    refine BackR.of (s1:={ tab:=[⟨0,[],sl' 2 Content.d l⟩,⟨4,[],I a⟩,⟨5,[],I m⟩,⟨6,[],I (i:Int)⟩,⟨7,[],I (c:Int)⟩,⟨8,[],I (IntKind.i64.wrap ((k:Int)+1))⟩],mem:=[] }) (k+1,c) kR kR ?_ ?_ ?_
    ·dsimp only
     first|(rw [wrapS k oM,wrapS c oM])|(rw [wrapS k oM])
     exact Rem.refl _
    ·dsimp only
     refine ⟨by omega,?_⟩
     rw [count_one oM,← hinw.2]
     first|(rw [if_pos hz2.symm])|(rw [if_neg (fun h=>hz2 h.symm)]; rfl)
    ·dsimp only
     exact nD
  ·refine PW.e (PW.a [0,4,5,6,7,34] 0 (PW.cd (decide ((c:Int)>m)) ?_ ?_)) <;> intro hz3 <;> try simp only [boolS,sameC_iff,sameC_no] at hz3
   ·refine PW.b [0,4,5,6] 0 ?_
    show PW _ _ _ _ _
    refine PW.b [0,4,5,6] 0 ?_
    refine BackR.u [(6,I (IntKind.i64.wrap ((i:Int)+1)),I ((i+1):Int))] [] (i+1,(i:Int),(c:Int)) ?_
    ·dsimp only
     have e8:(c:Int)=cntI l (l.getD i default):=by unfold cntI; rw [hinw.2,show k=l.length by omega,List.take_length]
     refine ⟨by omega,?_⟩
     rw [winN,← hinv.2,← e8]
     dsimp only
     first|(rw [if_pos oM])|(rw [if_neg oM])
   ·refine PW.k (PW.b [0,4,5,6] 0 ?_)
    refine BackR.u [(6,I (IntKind.i64.wrap ((i:Int)+1)),I ((i+1):Int))] [] (i+1,a,m) ?_
    ·dsimp only
     have e8:(c:Int)=cntI l (l.getD i default):=by unfold cntI; rw [hinw.2,show k=l.length by omega,List.take_length]
     refine ⟨by omega,?_⟩
     rw [winN,← hinv.2,← e8]
     dsimp only
     first|(rw [if_pos oM])|(rw [if_neg oM])
 ·refine PW.e (PW.t [2,3] 0 (rq (D.t [I a,I m]) ?_))
  obtain rfl:i=l.length:=by omega
  unfold winI
  rw [← hinv.2]
end Go.Proofs.Ytkhdnlkdcikdmaa.Pl
