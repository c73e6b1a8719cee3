/- The document's own answer to: may a frame be? -/
import Derived.Test.YtdomlccfjnkbjaaGreatDoorGdOne
import Derived.Test.YtdomlccfjnkbjaaGreatDoorDpCut
namespace Go.Proofs.YtdomlccfjnkbjaaGreatDoor.Pl
open Go.RowKit Go.Proofs.YtdomlccfjnkbjaaGreatDoor.Sm Go.Proofs.YtdomlccfjnkbjaaGreatDoor.Dp
open Go.Proofs.YtdomlccfjnkbjaaGreatDoor.Fr (bare frD frC WfA)
set_option maxHeartbeats 4000000
set_option maxRecDepth 100000
set_option linter.unusedVariables false
set_option linter.unusedSimpArgs false
theorem spareR_pc0 (f:Fr.Frame):PC Tryz.prog [] 36 [D.r (frD f)] (fun d=>∃ A B,Fr.AgD A (Fr.spare f).ages∧Fr.ByD B (Fr.spare f).body∧d=D.r (frC (Fr.spare f) A B)):=by
 refine PC.of (N:=69) Tryz.func36 rfl rfl (Nat.le_of_ble_eq_true rfl) ?_
 refine PW.a [1,2] 2 (PW.a [1,2,3] 3 (PW.q [1,2,3,12] 3 (PW.block (PW.a [1,2,3,12,13] 3 (PW.cd (f.kind == (1:Int)) (fun hz0 => ?_) (fun hz0 => ?_))))))
 ·try simp only [boolS] at hz0
  refine PW.b [2,3] 3 ?_
  show PW _ _ _ _ _
  refine PW.t [2] 3 (retQ_ret (d:=D.r [I f.kind,I f.part,I f.node,I f.wait,I 0,I 0,D.v (.bool false),I 0,I 0,D.v (.slice none 0 0),I 0,I 0,I 0,D.v (.slice none 0 0)]) (ps:=[]) kR trivial ?_)
  have hs:Fr.spare f={ bare f.kind f.part f.node with wait:=f.wait }:=by unfold Fr.spare; rw [if_pos oM]
  rw [hs]
  exact ⟨_,_,(.inr ⟨rfl,rfl⟩),(.inr ⟨rfl,rfl⟩),rfl⟩
 ·try simp only [boolS] at hz0
  refine PW.a [1,2,3,12,18] 3 (PW.cd (f.kind == (2:Int)) (fun hz1 => ?_) (fun hz1 => ?_))
  ·try simp only [boolS] at hz1
   refine PW.a [1,2,3] 3 (PW.a [1,2,3] 3 (PW.b [2,3] 3 ?_))
   show PW _ _ _ _ _
   refine PW.t [2] 3 (retQ_ret (d:=D.r [I f.kind,I f.part,I f.node,I 0,I f.mask,I 0,D.v (.bool false),I f.cycle,I 0,sl' 1 (fun x=>[I x]) f.ages,I 0,I 0,I 0,D.v (.slice none 0 0)]) (ps:=[]) kR trivial ?_)
   have hs:Fr.spare f={ bare f.kind f.part f.node with cycle:=f.cycle,mask:=f.mask,ages:=f.ages }:=by unfold Fr.spare; rw [if_neg oM,if_pos oM]
   rw [hs]
   exact ⟨_,_,(.inl rfl),(.inr ⟨rfl,rfl⟩),rfl⟩
  ·try simp only [boolS] at hz1
   refine PW.a [1,2,3,12,29] 3 (PW.cd (f.kind == (3:Int)) (fun hz2 => ?_) (fun hz2 => ?_))
   ·try simp only [boolS] at hz2
    refine PW.a [1,2,3] 3 (PW.a [1,2,3] 3 (PW.a [1,2,3] 3 (PW.b [2,3] 3 ?_)))
    show PW _ _ _ _ _
    refine PW.t [2] 3 (retQ_ret (d:=D.r [I f.kind,I f.part,I f.node,I 0,I 0,I f.link,D.v (.bool f.flag),I f.cycle,I f.offset,D.v (.slice none 0 0),I 0,I 0,I 0,D.v (.slice none 0 0)]) (ps:=[]) kR trivial ?_)
    have hs:Fr.spare f={ bare f.kind f.part f.node with link:=f.link,flag:=f.flag,cycle:=f.cycle,offset:=f.offset }:=by unfold Fr.spare; rw [if_neg oM,if_neg oM,if_pos oM]
    rw [hs]
    exact ⟨_,_,(.inr ⟨rfl,rfl⟩),(.inr ⟨rfl,rfl⟩),rfl⟩
   ·try simp only [boolS] at hz2
    refine PW.a [1,2,3,12,43] 3 (PW.cd (f.kind == (4:Int)) (fun hz3 => ?_) (fun hz3 => ?_))
    ·try simp only [boolS] at hz3
     refine PW.a [1,2,3] 3 (PW.b [2,3] 3 ?_)
     show PW _ _ _ _ _
     refine PW.t [2] 3 (retQ_ret (d:=D.r [I f.kind,I f.part,I f.node,I 0,I 0,I f.link,D.v (.bool false),I 0,I 0,sl' 1 (fun x=>[I x]) f.ages,I 0,I 0,I 0,D.v (.slice none 0 0)]) (ps:=[]) kR trivial ?_)
     have hs:Fr.spare f={ bare f.kind f.part f.node with link:=f.link,ages:=f.ages }:=by unfold Fr.spare; rw [if_neg oM,if_neg oM,if_neg oM,if_pos oM]
     rw [hs]
     exact ⟨_,_,(.inl rfl),(.inr ⟨rfl,rfl⟩),rfl⟩
    ·try simp only [boolS] at hz3
     refine PW.a [1,2,3,51] 3 (PW.cd (f.kind == (5:Int)) (fun hz4 => ?_) (fun hz4 => ?_))
     ·try simp only [boolS] at hz4
      refine PW.a [1,2,3] 3 (PW.a [1,2,3] 3 (PW.a [1,2,3] 3 (PW.a [1,2,3] 3 (PW.b [2,3] 3 ?_))))
      show PW _ _ _ _ _
      refine PW.t [2] 3 (retQ_ret (d:=D.r [I f.kind,I f.part,I f.node,I 0,I 0,I f.link,D.v (.bool false),I 0,I 0,D.v (.slice none 0 0),I f.frm,I f.to,I f.seq,bytesD f.body]) (ps:=[]) kR trivial ?_)
      have hs:Fr.spare f={ bare f.kind f.part f.node with link:=f.link,frm:=f.frm,to:=f.to,seq:=f.seq,body:=f.body }:=by unfold Fr.spare; rw [if_neg oM,if_neg oM,if_neg oM,if_neg oM,if_pos oM]
      rw [hs]
      exact ⟨_,_,(.inr ⟨rfl,rfl⟩),(.inl rfl),rfl⟩
     ·try simp only [boolS] at hz4
      refine PW.k (PW.t [2] 3 (retQ_ret (d:=D.r [I f.kind,I f.part,I f.node,I 0,I 0,I 0,D.v (.bool false),I 0,I 0,D.v (.slice none 0 0),I 0,I 0,I 0,D.v (.slice none 0 0)]) (ps:=[]) kR trivial ?_))
      have hs:Fr.spare f=bare f.kind f.part f.node:=by unfold Fr.spare; rw [if_neg oM,if_neg oM,if_neg oM,if_neg oM,if_neg oM]
      rw [hs]
      exact ⟨_,_,(.inr ⟨rfl,rfl⟩),(.inr ⟨rfl,rfl⟩),rfl⟩
theorem spareR_pc (f:Fr.Frame):PC Tryz.prog [] 36 [D.r (frD f)] (· = D.r (frD (Fr.spare f))):=(spareR_pc0 f).coarse fun d ⟨A,B,h1,h2,h3⟩=>⟨_,rfl,fun w ok v hv=>by
 subst h3
 exact Fr.rep_frD h1 h2 hv⟩
theorem withinR_pc (n lo hi:Int):PC Tryz.prog [] 69 [I n,I lo,I hi] (· = D.v (.bool (decide (n≥lo)&&decide (n≤hi)))):=by
 refine PC.of (N:=15) Tryz.func69 rfl rfl (Nat.le_of_ble_eq_true rfl) ?_
 refine PW.a [0,1,2] 0 (PW.t [6] 0 (retQ_ret (d:=D.v (.bool ((decide (n≥lo))&&(decide (n≤hi))))) (ps:=[]) kR trivial ?_))
 rfl
theorem timeR_pc (n:Int):PC Tryz.prog [] 70 [I n] (· = D.v (.bool (decide (n ≥ -1099511627776)&&decide (n≤1099511627776)))):=by
 refine PC.of (N:=9) Tryz.func70 rfl rfl (Nat.le_of_ble_eq_true rfl) ?_
 refine PW.a [0] 0 (PW.t [2] 0 (retQ_ret (d:=D.v (.bool ((decide (n≥((-1099511627776):Int)))&&(decide (n≤(1099511627776:Int)))))) (ps:=[]) kR trivial ?_))
 rfl
theorem agesR_more {l:List Int} (h:∀ i,i<l.length→0≤l.getD i default∧l.getD i default≤201) (h1:1≤l.length) (h2:l.length≤6):Fr.agesOk l=true:=Fr.agesOk_iff.2 ⟨⟨h1,h2⟩,fun a ha=>by
 obtain ⟨i,hi,rfl⟩:=List.mem_iff_getElem.1 ha
 have:=h i hi
 rw [List.getD_eq_getElem?_getD,List.getElem?_eq_getElem hi] at this
 exact this⟩
theorem agesR_not {l:List Int} {i:Nat} (hi:i<l.length) (h:¬(0≤l.getD i default∧l.getD i default≤201)):Fr.agesOk l=false:=Bool.eq_false_iff.2 fun hg=>h (by
 have:=(Fr.agesOk_iff.1 hg).2 _ (List.getElem_mem hi)
 rw [List.getD_eq_getElem?_getD,List.getElem?_eq_getElem hi]
 exact this)
theorem agesR_pc (l:List Int):PC Tryz.prog [] 68 [sl' 1 (fun x=>[I x]) l] (· = D.v (.bool (Fr.agesOk l))):=by
 refine PC.of (N:=30) Tryz.func68 rfl rfl (Nat.le_of_ble_eq_true rfl) ?_
 refine PW.a [0] 0 (PW.q [0,11] 0 (PW.cd ((decide ((l.length:Int)<(1:Int)))||(decide ((l.length:Int)>(6:Int)))) (fun hz0 => ?_) (fun hz0 => ?_)))
 ·try simp only [boolS] at hz0
  refine PW.t [2] 0 (retQ_ret (d:=D.v (.bool false)) (ps:=[]) kR trivial ?_)
  rw [show Fr.agesOk l=false from Bool.eq_false_iff.2 fun hg=>by have:=(Fr.agesOk_iff.1 hg).1; omega]
 ·try simp only [boolS] at hz0
  refine PW.k (PW.q [0,3] 0 (PW.block (PW.lp (α := Nat) (fun i=>{ tab:=[⟨0,[],sl' 1 (fun x=>[I x]) l⟩,⟨3,[],I (i:Int)⟩],mem:=[] }) (fun i=>i≤l.length∧∀ k,k<i→0≤l.getD k default∧l.getD k default≤201) (fun i=>l.length-i) [0,3] 0 (0) ?_ ?_)))
  ·exact ⟨Nat.zero_le _,fun k hk=>absurd hk (Nat.not_lt_zero _)⟩
  rintro i hinv
  show PW _ _ _ _ _
  refine PW.q [0,3,15] 0 (PW.cd (decide ((i:Int)<(l.length:Int))) (fun hz1 => ?_) (fun hz1 => ?_))
  ·try simp only [boolS] at hz1
   refine PW.k (PW.seq (PW.block (PW.sr [0,3,29] 0 (p:=(0≤(i:Int)∧(i:Int)<(l.length:Int))∧(((decide ((l.getD i default)<(0:Int)))=false∧True→0≤(i:Int)∧(i:Int)<(l.length:Int)))) nD (PW.cd ((decide ((l.getD i default)<(0:Int)))||(decide ((l.getD i default)>(201:Int)))) (fun hz2 => ?_) (fun hz2 => ?_)))))
   ·try simp only [boolS] at hz2
    refine PW.t [2] 0 (retQ_ret (d:=D.v (.bool false)) (ps:=[]) kR trivial ?_)
    rw [agesR_not (i:=i) oM oM]
   ·try simp only [boolS] at hz2
    refine PW.k (PW.b [0,3] 0 ?_)
    refine BackR.of (s1:={ tab:=[⟨0,[],sl' 1 (fun x=>[I x]) l⟩,⟨3,[],I (IntKind.i64.wrap ((i:Int)+1))⟩],mem:=[] }) (i+1) kR kR ?_ ?_ ?_
    ·rw [show IntKind.i64.wrap ((i:Int)+1)=((i+1:Nat):Int) by rw [Ev.wrap_i64 oM oM]; omega]
     exact Rem.refl _
    ·refine ⟨by omega,fun k hk => ?_⟩
     by_cases hki:k=i
     ·subst hki
      omega
     ·exact hinv.2 k oM
    ·exact nD
  ·try simp only [boolS] at hz1
   refine PW.e (PW.t [2] 0 (retQ_ret (d:=D.v (.bool true)) (ps:=[]) kR trivial ?_))
   rw [agesR_more (fun k hk=>hinv.2 k oM) oM oM]
theorem mayR_pc (f:Fr.Frame) (hf:WfA f):PC Tryz.prog [] 40 [D.r (frD f)] (· = D.v (.bool (Fr.mayB f))):=by
 refine PC.of (N:=127) Tryz.func40 rfl rfl (Nat.le_of_ble_eq_true rfl) ?_
 refine PW.a [1] 1 (PW.seq (PW.seq (PW.open [] kR ?_)))
 refine PO.a [0,1,2,3,4,5,6,7,8,9,10,11,12,13,14,15,16,17,18,19,20,21,22,23,24,25,26,27,28,29,30] 35 [1,31,32,33] 4 (PO.one (n:=3) 31 kR ?_)
 refine PO1.gc _ (A:=[(31,false)]) (fun _=>spareR_pc f) ?_ rfl
 refine PO.one (n:=2) 32 kR ?_
 refine PO1.gc _ (A:=[(31,false)]) (fun _=>Fr.sameR_pc f (Fr.spare f) hf (Fr.wfA_spare hf)) ?_ rfl
 refine PO.a [33,34] 2 [1,37] 0 (PO.done kR ?_)
 show PW _ _ _ _ _
 refine PW.cd (((((((decide (f.kind<(1:Int)))||(decide (f.kind>(5:Int))))||(decide (f.part<(0:Int))))||(decide (f.part≥(6:Int))))||(decide (f.node<(0:Int))))||(decide (f.node≥(12:Int))))||(!(decide (f=Fr.spare f)))) (fun hz0 => ?_) (fun hz0 => ?_)
 ·try simp only [boolS] at hz0
  refine PW.t [2] 1 (retQ_ret (d:=D.v (.bool false)) (ps:=[]) kR trivial ?_)
  have hm:Fr.mayB f=false:=Bool.eq_false_iff.2 fun hm=>by
    obtain ⟨⟨h1,h2,h3⟩,h4,h5,h6,h7⟩:=Fr.may_iff.1 hm
    rcases hz0 with hz0|hz0
    · omega
    · exact hz0 h4
  rw [hm]
 ·try simp only [boolS] at hz0
  refine PW.k (PW.seq (PW.w 11 [1,46,48] 1 (PL.gc (A:=[(46,true)]) (fun _=>agesR_pc f.ages) (PL.n 2 [1,51] 1 (PW.cd (((f.kind == (2:Int))||(f.kind == (4:Int)))&&(!(Fr.agesOk f.ages))) (fun hz1 => ?_) (fun hz1 => ?_))))))
  ·try simp only [boolS] at hz1
   refine PW.t [2] 1 (retQ_ret (d:=D.v (.bool false)) (ps:=[]) kR trivial ?_)
   have hm:Fr.mayB f=false:=Bool.eq_false_iff.2 fun hm=>by
     obtain ⟨⟨h1,h2,h3⟩,h4,h5,h6,h7⟩:=Fr.may_iff.1 hm
     have:=h5 hz1.1
     rw [hz1.2] at this
     cases this
   rw [hm]
  ·try simp only [boolS] at hz1
   refine PW.k (PW.q [1,64] 1 (PW.cd ((f.kind == (5:Int))&&((decide (f.seq<(1:Int)))||(decide (f.seq>(2147483648:Int))))) (fun hz2 => ?_) (fun hz2 => ?_)))
   ·try simp only [boolS] at hz2
    refine PW.t [2] 1 (retQ_ret (d:=D.v (.bool false)) (ps:=[]) kR trivial ?_)
    have hm:Fr.mayB f=false:=Bool.eq_false_iff.2 fun hm=>by
      obtain ⟨⟨h1,h2,h3⟩,h4,h5,h6,h7⟩:=Fr.may_iff.1 hm
      have:=h6 hz2.1
      omega
    rw [hm]
   ·try simp only [boolS] at hz2
    refine PW.k (PW.q [1,92] 1 (PW.cd ((((((decide (f.wait<(0:Int)))||(decide (f.wait>(60000:Int))))||(decide (f.mask<(0:Int))))||(decide (f.mask≥(4096:Int))))||(decide (f.link<(0:Int))))||(decide (f.link≥(10:Int)))) (fun hz3 => ?_) (fun hz3 => ?_)))
    ·try simp only [boolS] at hz3
     refine PW.t [2] 1 (retQ_ret (d:=D.v (.bool false)) (ps:=[]) kR trivial ?_)
     have hm:Fr.mayB f=false:=Bool.eq_false_iff.2 fun hm=>by
       obtain ⟨⟨h1,h2,h3⟩,h4,h5,h6,h7⟩:=Fr.may_iff.1 hm
       omega
     rw [hm]
    ·try simp only [boolS] at hz3
     refine PW.k (PW.w 2 [1,94] 1 (PL.gc (A:=[]) (fun _=>withinR_pc f.cycle 0 1099511627776) (PL.a 3 [1,96,98] 1 (PL.gc (A:=[(96,true)]) (fun _=>timeR_pc f.offset) (PL.n 28 [2] 1 (PW.ret (retQ_ret (d:=D.v (.bool (((((((decide (f.cycle≥0)&&decide (f.cycle≤1099511627776))&&(decide (f.offset ≥ -1099511627776)&&decide (f.offset≤1099511627776)))&&(decide (f.frm≥(0:Int))))&&(decide (f.frm<(6:Int))))&&(decide (f.to≥(0:Int))))&&(decide (f.to<(6:Int))))&&(decide ((f.body.length:Int)≤(24:Int)))))) (ps:=[]) kR trivial ?_)))))))
     refine congrArg (fun b=>D.v (.bool b)) (Bool.eq_iff_iff.2 ?_)
     rw [Fr.may_iff]
     simp only [Bool.and_eq_true,decide_eq_true_eq]
     constructor
     · intro h
       exact ⟨by omega,hz0.2,fun h24=>by
        rcases hz1 with h1|h1
        ·omega
        ·exact h1,fun h5=>by omega,by omega⟩
     · intro h
       omega
end Go.Proofs.YtdomlccfjnkbjaaGreatDoor.Pl
