/- Chapter 14's laws VoteTells, VoteMost. -/
import Derived.Test.YtkhdnlkdcikdmaaVoFour
import Derived.Test.YtkhdnlkdcikdmaaDpCv
namespace Go.Proofs.Ytkhdnlkdcikdmaa.Pl
open Go.RowKit Go.Proofs.Ytkhdnlkdcikdmaa.Sm Go.Proofs.Ytkhdnlkdcikdmaa.Dp
open Go.Proofs.Ytkhdnlkdcikdmaa.Fr (bare frD frC)
set_option maxHeartbeats 4000000
set_option maxRecDepth 100000
set_option linter.unusedVariables false
set_option linter.unusedSimpArgs false
theorem drumlinelaw14_VoteTells_pc (l:List Content) (hl:l.length≤maxLen) (v f:Int):PC Try.prog [] 3 [sl' 2 Content.d l,I v,I f] (· = D.v (.bool true)):=by
 refine po 46 Try.func3 rfl (PW.a [0,1,2] 0 (PW.seq (PW.sg (PL.gc (A:=[]) (fun _=>drumlinelaw14_alive_pc) (PL.a 3 [0,1,2,13,14] 0 (PL.gc (A:=[(13,false)]) (fun _=>drumlinelaw14_small_pc l (by first|assumption|simp [maxLen])) (PL.n 2 [0,1,2,17] 0 ?_)))))))
 refine PW.cd (false||(!(smallB l))) ?_ ?_ <;> intro hz0 <;> try simp only [boolS,sameC_iff,sameC_no,Bool.false_or] at hz0
 ·try have hsm:=small_of hz0
  refine PW.sg (PL.gc (A:=[]) (fun _=>drumlinelaw14_alive_pc) (PL.n 1 [6] 0 (PW.ret (rq (D.v (.bool true)) ?_))))
  rfl
 ·try have hsm:=small_of hz0
  refine PW.k (PW.w 1 [0,1,2,20] 0 (PL.gc (A:=[]) (fun _=>vote_Win_pc l oM hsm.2) (PL.n 5 [0,1,2,7,8] 0 (PW.w 1 [1,2,7,8,25] 0 (PL.gc (A:=[]) (fun _=>drumlineref10_Win_pc l oM hsm.2) (PL.n 5 [1,2,7,8,9,10] 0 (PW.w 11 [1,2,37,38,39] 0 ?_)))))))
  refine PL.gc (A:=[(37,true)]) (fun _=>vote_Enough_pc v f) (PL.a 2 [37,40,41,42] 0 (PL.gc (A:=[(37,true)]) (fun _=>drumlineref10_Enough_pc v f) (PL.n 3 [6] 0 (PW.ret (rq (D.v (.bool (((((winI l).1) == ((winI l).1))&&(((winI l).2) == ((winI l).2)))&&((enoughB v f) == (enoughB v f))))) ?_)))))
  simp
theorem drumlinelaw14_VoteMost_pc (l:List Content) (hl:l.length≤maxLen):PC Try.prog [] 5 [sl' 2 Content.d l] (· = D.v (.bool true)):=by
 refine po 84 Try.func5 rfl (PW.a [0] 0 (PW.seq (PW.sg (PL.gc (A:=[]) (fun _=>drumlinelaw14_alive_pc) (PL.a 3 [0,10,11] 0 (PL.gc (A:=[(10,false)]) (fun _=>drumlinelaw14_small_pc l (by first|assumption|simp [maxLen])) (PL.n 2 [0,14] 0 ?_)))))))
 refine PW.cd (false||(!(smallB l))) ?_ ?_ <;> intro hz0 <;> try simp only [boolS,sameC_iff,sameC_no,Bool.false_or] at hz0
 ·try have hsm:=small_of hz0
  refine PW.sg (PL.gc (A:=[]) (fun _=>drumlinelaw14_alive_pc) (PL.n 1 [2] 0 (PW.ret (rq (D.v (.bool true)) ?_))))
  rfl
 ·try have hsm:=small_of hz0
  refine PW.k (PW.w 1 [0,17] 0 (PL.gc (A:=[]) (fun _=>vote_Win_pc l oM hsm.2) (PL.n 5 [0,3,4] 0 (PW.q [0,3,4,23] 0 (PW.cd ((l.length:Int) == (0:Int)) ?_ ?_))))) <;> intro hz1 <;> try simp only [boolS,sameC_iff,sameC_no,Bool.false_or] at hz1
  ·try have hsm:=small_of hz1
   refine PW.t [2] 0 (rq (D.v (.bool ((((winI l).1) == ((-1):Int))&&(((winI l).2) == (0:Int))))) ?_)
   rw [win_nil oM]
   rfl
  ·try have hsm:=small_of hz1
   refine PW.k (PW.q [0,3,4,37] 0 (PW.cd ((decide (((winI l).1)<(0:Int)))||(decide (((winI l).1)≥(l.length:Int)))) ?_ ?_)) <;> intro hz2 <;> try simp only [boolS,sameC_iff,sameC_no,Bool.false_or] at hz2
   ·try have hsm:=small_of hz2
    refine PW.t [2] 0 (rq (D.v (.bool false)) ?_)
    exfalso
    have hwi:=win_in (l:=l) oM
    omega
   ·try have hsm:=small_of hz2
    refine PW.k (PW.q [0,3,4,5] 0 (PW.block (PW.lp (α := Nat) (fun i=>{ tab:=[⟨0,[],sl' 2 Content.d l⟩,⟨3,[],I ((winI l).1)⟩,⟨4,[],I ((winI l).2)⟩,⟨5,[],I (i:Int)⟩],mem:=[] }) (fun i=>i≤l.length) (fun i=>l.length-i) [0,3,4,5] 0 (0) ?_ ?_)))
    ·exact Nat.zero_le _
    rintro i hinv
    show PW _ _ _ _ _
    refine PW.q [0,3,4,5,41] 0 (PW.cd (decide ((i:Int)<(l.length:Int))) ?_ ?_) <;> intro hz3 <;> try simp only [boolS,sameC_iff,sameC_no,Bool.false_or] at hz3
    ·try have hsm:=small_of hz3
     refine PW.k (PW.seq (PW.block (PW.a [0,3,4,5,6] 0 (PW.q [0,3,4,5,6,7] 0 (PW.block (PW.lp (α := Nat×Nat) (fun (j1,c)=>{ tab:=[⟨0,[],sl' 2 Content.d l⟩,⟨3,[],I ((winI l).1)⟩,⟨4,[],I ((winI l).2)⟩,⟨5,[],I (i:Int)⟩,⟨6,[],I (c:Int)⟩,⟨7,[],I (j1:Int)⟩],mem:=[] }) (fun (j1,c)=>j1≤l.length∧c=(l.take j1).count (l.getD i default)) (fun (j1,c)=>l.length-j1) [0,3,4,5,6,7] 0 (0,0) ?_ ?_))))))
     ·dsimp only
      exact ⟨Nat.zero_le _,rfl⟩
     rintro ⟨j1,c⟩ hinw
     dsimp only at hinw
     have hcl:c≤j1:=by rw [hinw.2]; exact Nat.le_trans List.count_le_length (by rw [List.length_take]; omega)
     show PW _ _ _ _ _
     refine PW.q [0,3,4,5,6,7,47] 0 (PW.cd (decide ((j1:Int)<(l.length:Int))) ?_ ?_) <;> intro hz4 <;> try simp only [boolS,sameC_iff,sameC_no,Bool.false_or] at hz4
     ·try have hsm:=small_of hz4
      refine PW.k (PW.seq (PW.block (PW.seq (PW.open [] kR (PO.tk [0,1,2,3,4,5,6,7] 9 [0,3,4,5,6,7,53,57] 1 (p:=(0≤(i:Int)∧(i:Int)<(l.length:Int))∧(0≤(j1:Int)∧(j1:Int)<(l.length:Int))) oM (fun _ _ h=>h) (PO.one (n:=0) 8 kR ?_))))))
      refine PO1.gc _ (ds0:=[D.r [I ((l.getD i default).cycle),sl' 1 (fun x=>[I x]) ((l.getD i default).ages)],D.r [I ((l.getD j1 default).cycle),sl' 1 (fun x=>[I x]) ((l.getD j1 default).ages)]]) (A:=[]) (fun _=>vote_Same_pc (l.getD i default) (l.getD j1 default) (hsm.2 _) (hsm.2 _)) ?_ rfl
      refine PO.done kR ?_
      show PW _ _ _ _ _
      refine PW.cd (sameC (l.getD i default) (l.getD j1 default)) ?_ ?_ <;> intro hz5 <;> try simp only [boolS,sameC_iff,sameC_no,Bool.false_or] at hz5
      ·try have hsm:=small_of hz5
       refine PW.b [0,3,4,5,6,7] 0 ?_
       show PW _ _ _ _ _
       refine PW.b [0,3,4,5,6,7] 0 ?_
       refine BackR.of (s1:={ tab:=[⟨0,[],sl' 2 Content.d l⟩,⟨3,[],I ((winI l).1)⟩,⟨4,[],I ((winI l).2)⟩,⟨5,[],I (i:Int)⟩,⟨6,[],I (IntKind.i64.wrap ((c:Int)+1))⟩,⟨7,[],I (IntKind.i64.wrap ((j1:Int)+1))⟩],mem:=[] }) (j1+1,c+1) kR kR ?_ ?_ ?_
       ·dsimp only
        first|(rw [wrapS j1 oM,wrapS c oM])|(rw [wrapS j1 oM])
        exact Rem.refl _
       ·dsimp only
        refine ⟨by omega,?_⟩
        rw [count_one oM,← hinw.2]
        first|(rw [if_pos hz5.symm])|(rw [if_neg (fun h=>hz5 h.symm)]; rfl)
       ·dsimp only
        exact nD
      ·try have hsm:=small_of hz5
       refine PW.k (PW.b [0,3,4,5,6,7] 0 ?_)
       refine BackR.of (s1:={ tab:=[⟨0,[],sl' 2 Content.d l⟩,⟨3,[],I ((winI l).1)⟩,⟨4,[],I ((winI l).2)⟩,⟨5,[],I (i:Int)⟩,⟨6,[],I (c:Int)⟩,⟨7,[],I (IntKind.i64.wrap ((j1:Int)+1))⟩],mem:=[] }) (j1+1,c) kR kR ?_ ?_ ?_
       ·dsimp only
        first|(rw [wrapS j1 oM,wrapS c oM])|(rw [wrapS j1 oM])
        exact Rem.refl _
       ·dsimp only
        refine ⟨by omega,?_⟩
        rw [count_one oM,← hinw.2]
        first|(rw [if_pos hz5.symm])|(rw [if_neg (fun h=>hz5 h.symm)]; rfl)
       ·dsimp only
        exact nD
     ·try have hsm:=small_of hz4
      refine PW.e (PW.a [0,3,4,5,83] 0 (PW.cd (((decide ((c:Int)>((winI l).2)))||(((c:Int) == ((winI l).2))&&(decide ((i:Int)<((winI l).1)))))||(((i:Int) == ((winI l).1))&&((c:Int) != ((winI l).2)))) ?_ ?_)) <;> intro hz6 <;> try simp only [boolS,sameC_iff,sameC_no,Bool.false_or] at hz6
      ·try have hsm:=small_of hz6
       refine PW.t [2] 0 (rq (D.v (.bool false)) ?_)
       exfalso
       have e8:(c:Int)=cntI l (l.getD i default):=by unfold cntI; rw [hinw.2,show j1=l.length by omega,List.take_length]
       obtain ⟨b,hb,e,hm⟩:=win_spec (l:=l) oM
       have hmi:=hm i oM
       rw [← e8] at hmi
       rw [e] at hz6
       dsimp only at hz6
       have hib:(i:Int)=(b:Int)→(c:Int)=cntI l (l.getD b default):=fun h=>by rw [e8,show i=b by omega]
       omega
      ·try have hsm:=small_of hz6
       refine PW.k (PW.b [0,3,4,5] 0 ?_)
       refine BackR.u [(5,I (IntKind.i64.wrap ((i:Int)+1)),I ((i+1):Int))] [] (i+1) ?_
       ·omega
    ·try have hsm:=small_of hz3
     refine PW.e (PW.t [2] 0 (rq (D.v (.bool true)) ?_))
     rfl
theorem drumlineref1_Same_pc (x:Frame) (hx:x.ages.length<1000000):PC Try.prog [] 25 [D.r (frD x),D.r (frD x)] (· = D.v (.bool true)):=by
 refine po 101 Try.func25 rfl (PW.a [2,3] 2 (PW.q [2,3,51] 2 (PW.cd (((((((x.kind != x.kind)||(x.part != x.part))||(x.node != x.node))||(x.wait != x.wait))||(x.mask != x.mask))||(x.link != x.link))||(!(x.flag == x.flag))) ?_ ?_))) <;> intro hz0 <;> try simp only [boolS,sameC_iff,sameC_no,Bool.false_or] at hz0
 ·refine PW.t [4] 2 (rq (D.v (.bool false)) ?_)
  exfalso
  simp at hz0
 ·refine PW.k (PW.w 17 [2,3,64,66,68] 2 (PL.gc (A:=[(64,true)]) (fun _=>drumlineref1_SameInts_pc x.ages x.ages oM oM) (PL.a 25 [3,92,94] 2 (PL.cv (A:=[(92,true)]) x.body rfl Try.underlying38 Try.underlying5 Try.underlying9 kR kR kR (PL.a 2 [92,95,97] 2 (PL.cv (A:=[(92,true)]) x.body rfl Try.underlying38 Try.underlying5 Try.underlying9 kR kR kR (PL.n 3 [4] 2 ?_)))))))
  refine PW.ret (rq (D.v (.bool (((((((x.cycle == x.cycle)&&(x.offset == x.offset))&&(decide (x.ages=x.ages)))&&(x.frm == x.frm))&&(x.to == x.to))&&(x.seq == x.seq))&&((str x.body).toList == (str x.body).toList)))) ?_)
  simp
theorem drumlineref10_SameHeard_pc (xs:List Heard) (hl:xs.length<1000000) (hF:Fine xs):PC Try.prog [] 15 [sl' 16 Heard.d xs,sl' 16 Heard.d xs] (· = D.v (.bool true)):=by
 refine po 55 Try.func15 rfl (PW.a [0,1] 0 (PW.q [0,1,10] 0 (PW.cd ((xs.length:Int) != (xs.length:Int)) ?_ ?_))) <;> intro hz0 <;> try simp only [boolS,sameC_iff,sameC_no,Bool.false_or] at hz0
 ·refine PW.t [4] 0 (rq (D.v (.bool false)) ?_)
  exfalso
  simp at hz0
 ·refine PW.k (PW.q [0,1,5] 0 (PW.block (PW.lp (α := Nat) (fun i=>{ tab:=[⟨0,[],sl' 16 Heard.d xs⟩,⟨1,[],sl' 16 Heard.d xs⟩,⟨5,[],I (i:Int)⟩],mem:=[] }) (fun i=>i≤xs.length) (fun i=>xs.length-i) [0,1,5] 0 (0) ?_ ?_)))
  ·exact Nat.zero_le _
  rintro i hinv
  show PW _ _ _ _ _
  refine PW.q [0,1,5,14] 0 (PW.cd (decide ((i:Int)<(xs.length:Int))) ?_ ?_) <;> intro hz1 <;> try simp only [boolS,sameC_iff,sameC_no,Bool.false_or] at hz1
  ·refine PW.k (PW.seq (PW.block (PW.seq (PW.open [] kR (PO.tk [0,1,2,3,4,5,6,7,8,9,10,11,12,13,14,15,16,17,18,19,20,21,22,23,24,25,26,27,28,29,30,31,32,33,34] 38 [0,1,5,41,46,51] 3 (p:=(0≤(i:Int)∧(i:Int)<(xs.length:Int))∧(0≤(i:Int)∧(i:Int)<(xs.length:Int))∧(((((xs.getD i default).slot) != ((xs.getD i default).slot))=false∧True→0≤(i:Int)∧(i:Int)<(xs.length:Int)))∧(((((xs.getD i default).slot) != ((xs.getD i default).slot))=false∧True→0≤(i:Int)∧(i:Int)<(xs.length:Int)))∧((((((xs.getD i default).slot) != ((xs.getD i default).slot))||(((xs.getD i default).at_) != ((xs.getD i default).at_)))=false∧True→0≤(i:Int)∧(i:Int)<(xs.length:Int)))∧((((((xs.getD i default).slot) != ((xs.getD i default).slot))||(((xs.getD i default).at_) != ((xs.getD i default).at_)))=false∧True→0≤(i:Int)∧(i:Int)<(xs.length:Int)))) nD (fun _ _ h=>h) (PO.one (n:=2) 35 kR ?_))))))
   refine PO1.gc _ (ds0:=[D.r [I (((xs.getD i default).frame).kind),I (((xs.getD i default).frame).part),I (((xs.getD i default).frame).node),I (((xs.getD i default).frame).wait),I (((xs.getD i default).frame).mask),I (((xs.getD i default).frame).link),D.v (.bool (((xs.getD i default).frame).flag)),I (((xs.getD i default).frame).cycle),I (((xs.getD i default).frame).offset),sl' 1 (fun x=>[I x]) (((xs.getD i default).frame).ages),I (((xs.getD i default).frame).frm),I (((xs.getD i default).frame).to),I (((xs.getD i default).frame).seq),bytesD (((xs.getD i default).frame).body)],D.r [I (((xs.getD i default).frame).kind),I (((xs.getD i default).frame).part),I (((xs.getD i default).frame).node),I (((xs.getD i default).frame).wait),I (((xs.getD i default).frame).mask),I (((xs.getD i default).frame).link),D.v (.bool (((xs.getD i default).frame).flag)),I (((xs.getD i default).frame).cycle),I (((xs.getD i default).frame).offset),sl' 1 (fun x=>[I x]) (((xs.getD i default).frame).ages),I (((xs.getD i default).frame).frm),I (((xs.getD i default).frame).to),I (((xs.getD i default).frame).seq),bytesD (((xs.getD i default).frame).body)]]) (A:=[(41,false)]) (fun _=>drumlineref1_Same_pc ((xs.getD i default).frame) (hF.at _).1) ?_ rfl
   refine PO.a [36,37] 2 [0,1,5,54] 0 (PO.done kR ?_)
   show PW _ _ _ _ _
   refine PW.cd (((((xs.getD i default).slot) != ((xs.getD i default).slot))||(((xs.getD i default).at_) != ((xs.getD i default).at_)))||false) ?_ ?_ <;> intro hz2 <;> try simp only [boolS,sameC_iff,sameC_no,Bool.false_or] at hz2
   ·refine PW.t [4] 0 (rq (D.v (.bool false)) ?_)
    exfalso
    simp at hz2
   ·refine PW.k (PW.b [0,1,5] 0 ?_)
    refine BackR.u [(5,I (IntKind.i64.wrap ((i:Int)+1)),I ((i+1):Int))] [] (i+1) ?_
    ·omega
  ·refine PW.e (PW.t [4] 0 (rq (D.v (.bool true)) ?_))
   rfl
theorem backL_len (l:List Heard):(backL l).length≤l.length:=Nat.le_trans (List.length_filter_le _ _) (List.length_filter_le _ _)
theorem Fine.backL {l:List Heard} (h:Fine l):Fine (backL l):=h.fil.fil
theorem drumlinelaw14_VoteBackers_pc (l:List Heard) (hl:l.length≤maxLen):PC Try.prog [] 4 [sl' 16 Heard.d l] (· = D.v (.bool true)):=by
 refine po 23 Try.func4 rfl (PW.a [0] 0 (PW.seq (PW.sg (PL.gc (A:=[]) (fun _=>drumlinelaw14_alive_pc) (PL.a 3 [0,5,6] 0 (PL.gc (A:=[(5,false)]) (fun _=>drumlinelaw14_few_pc l (by assumption)) (PL.n 2 [0,9] 0 ?_)))))))
 refine PW.cd (false||(!(fewB l))) ?_ ?_ <;> intro hz0 <;> try simp only [boolS,sameC_iff,sameC_no,Bool.false_or] at hz0
 ·try have hsm:=few_of hz0
  refine PW.sg (PL.gc (A:=[]) (fun _=>drumlinelaw14_alive_pc) (PL.n 1 [2] 0 (PW.ret (rq (D.v (.bool true)) ?_))))
  rfl
 ·try have hsm:=few_of hz0
  refine PW.k (PW.w 1 [0,11] 0 (PL.gc (A:=[]) (fun _=>vote_Backers_pc l oM hsm.2) (PL.a 1 [0,12,13] 0 (PL.gc (A:=[]) (fun _=>drumlineref10_Backers_pc l oM hsm.2) (PL.gc (A:=[]) (fun _=>drumlineref10_SameHeard_pc (backL l) (by have:=backL_len l; omega) hsm.2.backL) (PL.a 2 [0,16,17] 0 (PL.gc (A:=[(16,true)]) (fun _=>vote_Mask_pc l oM) ?_)))))))
  refine PL.a 1 [16,18,19] 0 (PL.gc (A:=[(16,true)]) (fun _=>drumlineref10_Mask_pc l oM) (PL.n 3 [2] 0 (PW.ret (rq (D.v (.bool (true&&((maskN l l.length) == (maskN l l.length))))) ?_))))
  simp
end Go.Proofs.Ytkhdnlkdcikdmaa.Pl
