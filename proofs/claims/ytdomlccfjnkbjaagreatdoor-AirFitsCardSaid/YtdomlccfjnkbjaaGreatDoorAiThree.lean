/- Chapter 11: whether a number is in a list. -/
import Derived.Test.YtdomlccfjnkbjaaGreatDoorAiOne
import Derived.Test.YtdomlccfjnkbjaaGreatDoorTbThree
import Derived.Test.YtdomlccfjnkbjaaGreatDoorPlRef
namespace Go.Proofs.YtdomlccfjnkbjaaGreatDoor.Pl
open Go.RowKit Go.Proofs.YtdomlccfjnkbjaaGreatDoor.Sm Go.Proofs.YtdomlccfjnkbjaaGreatDoor.Dp
open Go.Proofs.YtdomlccfjnkbjaaGreatDoor.Fr (bare frD frC decX errOf frOf noOf atOf WfA wfA_dec bytesOf mayB)
set_option maxHeartbeats 4000000
set_option maxRecDepth 100000
set_option linter.unusedVariables false
set_option linter.unusedSimpArgs false
theorem suits_yes (k s:Int):(suitsB k s=true)=(k=s∨(k=1∧s=2)):=by simp [suitsB]
theorem suits_not (k s:Int):(suitsB k s=false)=¬ (k=s∨(k=1∧s=2)):=by rw [← suits_yes]; simp
theorem ages_not {c:Config} {l:List Int} {i:Nat} (hi:i<l.length) (h:l.getD i default<0∨l.getD i default>goneR c):agesB c l=false:=by
 have:l.any (ageX c)=true:=List.any_eq_true.2 ⟨l.getD i default,by rw [List.getD_eq_getElem?_getD,List.getElem?_eq_getElem hi]; exact List.getElem_mem _,by simpa [ageX] using h⟩
 unfold agesB
 rw [this]
 simp
theorem ages_yes {c:Config} {l:List Int} (hl:(l.length:Int)=(c.parts.length:Int)) (h:∀ k,k<l.length→¬ (l.getD k default<0∨l.getD k default>goneR c)):agesB c l=true:=by
 have:l.any (ageX c)=false:=by
  rw [List.any_eq_false]
  intro x hx
  obtain ⟨i,hi,rfl⟩:=List.mem_iff_getElem.1 hx
  have:=h i hi
  rw [List.getD_eq_getElem?_getD,List.getElem?_eq_getElem hi] at this
  simpa [ageX] using this
 unfold agesB
 rw [this,hl]
 simp
theorem drumlineref10_whole_pc (c:Config) (l:List Int) (hl:l.length≤maxLen) (hp0:c.parts.length<1000000) (hl0:c.links.length<1000000):PC Tryz.prog [] 26 [D.r (Config.d c),sl' 1 (fun x=>[I x]) l] (· = D.v (.bool (agesB c l))):=by
 refine PC.of (N:=32) Tryz.func26 rfl rfl (Nat.le_of_ble_eq_true rfl) ?_
 refine PW.a [1,2] 1 (PW.q [1,2,11] 1 (PW.cd ((l.length:Int) != (c.parts.length:Int)) ?_ ?_)) <;> intro hz0 <;> try simp only [boolS] at hz0
 ·refine PW.t [4] 1 (rq (D.v (.bool false)) ?_)
  unfold agesB
  rw [beq_eq_false_iff_ne.2 hz0]
  rfl
 ·refine PW.k (PW.q [1,2,5] 1 (PW.block (PW.lp (α := Nat) (fun i=>{ tab:=[⟨1,[],sl' 1 (fun x=>[I x]) l⟩,⟨2,[],D.p 0 0 0 0⟩,⟨5,[],I (i:Int)⟩],mem:=[Obj.var 30 (Config.d c)] }) (fun i=>i≤l.length∧∀ k,k<i→¬ (l.getD k default<0∨l.getD k default>goneR c)) (fun i=>l.length-i) [1,2,5] 1 (0) ?_ ?_)))
  ·exact ⟨Nat.zero_le _,fun k hk=>absurd hk (Nat.not_lt_zero _)⟩
  rintro i hinv
  show PW _ _ _ _ _
  refine PW.q [1,2,5,15] 1 (PW.cd (decide ((i:Int)<(l.length:Int))) ?_ ?_) <;> intro hz1 <;> try simp only [boolS] at hz1
  ·refine PW.k (PW.seq (PW.block (PW.seq (PW.open [] kR (PO.tk [0,1,2,3,4,5,6,7,8,9,10] 14 [1,2,5,23,27,28] 3 (p:=(0≤(i:Int)∧(i:Int)<(l.length:Int))∧(((decide ((l.getD i default)<(0:Int)))=false∧True→0≤(i:Int)∧(i:Int)<(l.length:Int)))) nD (fun _ _ h=>h) (PO.one (n:=2) 11 kR ?_))))))
   refine PO1.gc _ (A:=[(23,false)]) (fun _=>drumlineref5_Gone_pc c hp0 hl0) ?_ rfl
   refine PO.a [12,13] 2 [1,2,5,31] 0 (PO.done kR ?_)
   show PW _ _ _ _ _
   refine PW.cd ((decide ((l.getD i default)<(0:Int)))||(decide ((l.getD i default)>(goneR c)))) ?_ ?_ <;> intro hz2 <;> try simp only [boolS] at hz2
   ·refine PW.t [4] 1 (rq (D.v (.bool false)) ?_)
    rw [ages_not (i:=i) oM hz2]
   ·refine PW.k (PW.b [1,2,5] 1 ?_)
    refine BackR.of (s1:={ tab:=[⟨1,[],sl' 1 (fun x=>[I x]) l⟩,⟨2,[],D.p 0 0 0 0⟩,⟨5,[],I (IntKind.i64.wrap ((i:Int)+1))⟩],mem:=[Obj.var 30 (Config.d c)] }) (i+1) kR kR ?_ ?_ ?_
    ·rw [wrapM i oM]
     exact Rem.refl _
    ·refine ⟨by omega,?_⟩
     intro k hk
     by_cases hki:k=i
     ·subst hki
      omega
     ·exact hinv.2 k oM
    ·exact nD
  ·refine PW.e (PW.t [4] 1 (rq (D.v (.bool true)) ?_))
   rw [ages_yes hz0 (fun k hk=>hinv.2 k oM)]
theorem drumlineref10_Fits_pc (c:Config) (part slot:Int) (f:Frame) (ha:f.ages.length≤maxLen) (hp0:c.parts.length<1000000) (hl0:c.links.length<1000000):PC Tryz.prog [] 11 [D.r (Config.d c),I part,I slot,D.r (frD f)] (· = D.v (.bool (fitS c part slot f))):=by
 refine PC.of (N:=132) Tryz.func11 rfl rfl (Nat.le_of_ble_eq_true rfl) ?_
 refine PW.a [1,2,4,7] 2 (PW.w 2 [1,2,4,7,13,14] 2 (PL.gc (A:=[]) (fun _=>(drumlineref5_Slots_pc0 c part hp0 hl0).list) (PL.n 1 [1,2,4,7,9] 2 (PW.q [1,2,4,7,9,23] 2 (PW.cd ((decide (slot<(0:Int)))||(decide (slot≥((slotsOf c part).length:Int)))) ?_ ?_))))) <;> intro hz0 <;> try simp only [boolS] at hz0
 ·refine PW.t [8] 2 (rq (D.v (.bool false)) ?_)
  rw [fitS_out hz0]
 ·refine PW.k (PW.sr [1,4,7,10] 3 (p:=(0≤slot∧slot<((slotsOf c part).length:Int))) oM (PW.q [1,4,7,10,56] 3 (PW.cd (((f.part != part)||(f.node != (((slotsOf c part).getD slot.toNat default).node)))||((f.kind != (((slotsOf c part).getD slot.toNat default).kind))&&(!((f.kind == (1:Int))&&((((slotsOf c part).getD slot.toNat default).kind) == (2:Int)))))) ?_ ?_))) <;> intro hz1 <;> try simp only [boolS] at hz1
  ·refine PW.t [8] 3 (rq (D.v (.bool false)) ?_)
   have h1:(¬ f.part=part∨¬ f.node=((slotsOf c part).getD slot.toNat default).node)∨suitsB f.kind ((slotsOf c part).getD slot.toNat default).kind=false:=by rw [suits_not]; omega
   rw [fitS_in hz0,fitF_not h1]
  ·refine PW.k (PW.seq (PW.w 12 [1,4,7,10,65,66,68] 3 (PL.gc (A:=[(65,true)]) (fun _=>drumlineref10_whole_pc c f.ages oM hp0 hl0) (PL.n 2 [1,4,7,10,71] 3 (PW.cd (((f.kind == (2:Int))||(f.kind == (4:Int)))&&(!(agesB c f.ages))) ?_ ?_))))) <;> intro hz2 <;> try simp only [boolS] at hz2
   ·refine PW.t [8] 3 (rq (D.v (.bool false)) ?_)
    have h1:(f.part=part∧f.node=((slotsOf c part).getD slot.toNat default).node)∧suitsB f.kind ((slotsOf c part).getD slot.toNat default).kind=true:=by rw [suits_yes]; omega
    rw [fitS_in hz0,fitF_yes h1,tail_ask (i:=slot.toNat) oM h1.1.2 h1.2]
    unfold askB
    rcases hz2.1 with h|h <;> simp [h,hz2.2]
   ·refine PW.k (PW.q [1,4,7,10,84] 3 (PW.cd (((f.kind == (3:Int))||(f.kind == (4:Int)))||(f.kind == (5:Int))) ?_ ?_)) <;> intro hz3 <;> try simp only [boolS] at hz3
    ·refine PW.w 4 [4,7,86,87,89] 3 (PL.gc (A:=[]) (fun _=>drumlineref5_Port_pc c part (((slotsOf c part).getD slot.toNat default).node) hp0 hl0) (PL.n 6 [4,7,11] 4 (PW.a [4,7,97] 4 (PW.cd (f.link != (((portQ c part (((slotsOf c part).getD slot.toNat default).node)).getD ⟨0,0,0,0⟩).link)) ?_ ?_)))) <;> intro hz4 <;> try simp only [boolS] at hz4
     ·refine PW.t [8] 4 (rq (D.v (.bool false)) ?_)
      have h1:(f.part=part∧f.node=((slotsOf c part).getD slot.toNat default).node)∧suitsB f.kind ((slotsOf c part).getD slot.toNat default).kind=true:=by rw [suits_yes]; omega
      rw [fitS_in hz0,fitF_yes h1,tail_ask (i:=slot.toNat) oM h1.1.2 h1.2]
      unfold askB
      have hq:(f.link == ((portQ c part ((slotsOf c part).getD slot.toNat default).node).getD ⟨0,0,0,0⟩).link)=false:=beq_eq_false_iff_ne.2 hz4
      rw [hq]
      rcases hz3 with (h|h)|h <;> simp [h]
     ·refine PW.k (PW.q [4,7,100] 4 (PW.cd (f.kind == (5:Int)) ?_ ?_)) <;> intro hz5 <;> try simp only [boolS] at hz5
      ·refine PW.t [8] 4 (rq (D.v (.bool (((((decide (f.frm≥(0:Int)))&&(decide (f.frm<(c.parts.length:Int))))&&(decide (f.to≥(0:Int))))&&(decide (f.to<(c.parts.length:Int))))&&(f.frm != f.to)))) ?_)
       have h1:(f.part=part∧f.node=((slotsOf c part).getD slot.toNat default).node)∧suitsB f.kind ((slotsOf c part).getD slot.toNat default).kind=true:=by rw [suits_yes]; omega
       rw [fitS_in hz0,fitF_yes h1,tail_ask (i:=slot.toNat) oM h1.1.2 h1.2]
       unfold askB
       have hq:(f.link == ((portQ c part ((slotsOf c part).getD slot.toNat default).node).getD ⟨0,0,0,0⟩).link)=true:=beq_iff_eq.2 hz4
       rw [hq]
       unfold pathB isB
       simp [hz5,Bool.and_assoc]
      ·refine PW.k (PW.t [8] 4 (rq (D.v (.bool true)) ?_))
       have h1:(f.part=part∧f.node=((slotsOf c part).getD slot.toNat default).node)∧suitsB f.kind ((slotsOf c part).getD slot.toNat default).kind=true:=by rw [suits_yes]; omega
       rw [fitS_in hz0,fitF_yes h1,tail_ask (i:=slot.toNat) oM h1.1.2 h1.2]
       unfold askB
       have hq:(f.link == ((portQ c part ((slotsOf c part).getD slot.toNat default).node).getD ⟨0,0,0,0⟩).link)=true:=beq_iff_eq.2 hz4
       rw [hq]
       rcases hz3 with (h|h)|h
       · simp [h]
       · have h2:agesB c f.ages=true:=by
           rcases hz2 with hz2|hz2
           · omega
           · exact hz2
         simp [h,h2]
       · exact absurd h hz5
    ·refine PW.k (PW.q [4,7,100] 3 (PW.cd (f.kind == (5:Int)) ?_ ?_)) <;> intro hz6 <;> try simp only [boolS] at hz6
     ·refine PW.t [8] 3 (rq (D.v (.bool (((((decide (f.frm≥(0:Int)))&&(decide (f.frm<(c.parts.length:Int))))&&(decide (f.to≥(0:Int))))&&(decide (f.to<(c.parts.length:Int))))&&(f.frm != f.to)))) ?_)
      exfalso
      omega
     ·refine PW.k (PW.t [8] 3 (rq (D.v (.bool true)) ?_))
      have h1:(f.part=part∧f.node=((slotsOf c part).getD slot.toNat default).node)∧suitsB f.kind ((slotsOf c part).getD slot.toNat default).kind=true:=by rw [suits_yes]; omega
      rw [fitS_in hz0,fitF_yes h1,tail_ask (i:=slot.toNat) oM h1.1.2 h1.2]
      unfold askB
      have h3:f.kind≠3:=by omega
      have h4:f.kind≠4:=by omega
      have h5:f.kind≠5:=by omega
      by_cases h2:f.kind=2
      · have h6:agesB c f.ages=true:=by
          rcases hz2 with hz2|hz2
          · omega
          · exact hz2
        simp [h2,h6]
      · simp [h2,h3,h4,h5]
theorem has_seek (l:List Int) (v:Int):decide (seekI (fun k=>v == l.getD k default) l.length 0≥0)=l.contains v:=by
 rw [any_seek (fun x=>v == x) l,Bool.eq_iff_iff,List.any_eq_true,List.contains_iff_mem]
 exact ⟨fun ⟨x,hx,h⟩=>by rw [beq_iff_eq.1 h]; exact hx,fun h=>⟨v,h,beq_self_eq_true v⟩⟩
theorem index_int_pc (l:List Int) (v:Int) (hl:l.length≤maxLen):PC Tryz.prog [] 59 [sl' 1 (fun x=>[I x]) l,I v] (· = I (seekI (fun k=>v == l.getD k default) l.length 0)):=by
 refine PC.of (N:=19) Tryz.func59 rfl rfl (Nat.le_of_ble_eq_true rfl) ?_
 refine PW.a [0,1] 0 (PW.q [0,1,7,8] 0 (PW.block (PW.lp (α := Nat) (fun i=>{ tab:=[⟨0,[],sl' 1 (fun x=>[I x]) l⟩,⟨1,[],I v⟩,⟨7,[],I (l.length:Int)⟩,⟨8,[],I (i:Int)⟩],mem:=[] }) (fun i=>i≤l.length∧seekI (fun k=>v == l.getD k default) l.length 0=seekI (fun k=>v == l.getD k default) (l.length-i) i) (fun i=>l.length-i) [0,1,7,8] 0 (0) ?_ ?_)))
 ·exact ⟨Nat.zero_le _,rfl⟩
 rintro i hinv
 show PW _ _ _ _ _
 refine PW.a [0,1,7,8,9] 0 (PW.seq (PW.cd (decide ((i:Int)<(l.length:Int))) ?_ ?_)) <;> intro hz0 <;> try simp only [boolS] at hz0
 ·refine PW.k (PW.seq (PW.block (PW.a [0,1,5,7,8] 0 (PW.sr [0,1,5,7,8,16] 0 (p:=(0≤(i:Int)∧(i:Int)<(l.length:Int))) oM (PW.cd (v == (l.getD i default)) ?_ ?_))))) <;> intro hz1 <;> try simp only [boolS] at hz1
  ·refine PW.t [4] 0 (rq (I (i:Int)) ?_)
   show I _=I _
   rw [hinv.2,show l.length-i=(l.length-i-1)+1 by omega,seekI,if_pos (beq_iff_eq.2 hz1)]
  ·refine PW.k (PW.b [0,1,7,8] 0 ?_)
   refine BackR.of (s1:={ tab:=[⟨0,[],sl' 1 (fun x=>[I x]) l⟩,⟨1,[],I v⟩,⟨7,[],I (l.length:Int)⟩,⟨8,[],I (IntKind.i64.wrap ((i:Int)+1))⟩],mem:=[] }) (i+1) kR kR ?_ ?_ ?_
   ·rw [wrapM i oM]
    exact Rem.refl _
   ·refine ⟨by omega,?_⟩
    rw [hinv.2,show l.length-i=(l.length-(i+1))+1 by omega,seekI,if_neg (by rw [beq_iff_eq]; exact hz1)]
   ·exact nD
 ·refine PW.e (PW.t [4] 0 (rq (I (-1)) ?_))
  show I _=I _
  rw [hinv.2,show l.length-i=0 by omega,seekI]
theorem contains_int_pc (l:List Int) (v:Int) (hl:l.length≤maxLen):PC Tryz.prog [] 30 [sl' 1 (fun x=>[I x]) l,I v] (· = D.v (.bool (l.contains v))):=by
 refine PC.of (N:=9) Tryz.func30 rfl rfl (Nat.le_of_ble_eq_true rfl) ?_
 refine PW.a [0,1] 0 (PW.w 2 [5,6] 0 (PL.gc (A:=[]) (fun _=>index_int_pc l v hl) (PL.n 2 [4] 0 (PW.ret (rq (D.v (.bool (decide ((seekI (fun k=>v == l.getD k default) l.length 0)≥(0:Int))))) ?_)))))
 rw [has_seek]
theorem has_at {l:List Int} {v:Int} {i:Nat} (hi:i<l.length) (h:l.getD i default=v):l.contains v=true:=by
 rw [List.contains_iff_mem,← h,List.getD_eq_getElem?_getD,List.getElem?_eq_getElem hi]
 exact List.getElem_mem _
theorem has_no {l:List Int} {v:Int} (h:∀ k,k<l.length→¬ l.getD k default=v):l.contains v=false:=by
 rw [Bool.eq_false_iff,ne_eq,List.contains_iff_mem]
 intro hm
 obtain ⟨i,hi,e⟩:=List.mem_iff_getElem.1 hm
 exact h i hi (by rw [List.getD_eq_getElem?_getD,List.getElem?_eq_getElem hi]; exact e)
theorem drumlineref1_In_pc (l:List Int) (v:Int) (hl:l.length≤maxLen):PC Tryz.prog [] 18 [sl' 1 (fun x=>[I x]) l,I v] (· = D.v (.bool (l.contains v))):=by
 refine PC.of (N:=18) Tryz.func18 rfl rfl (Nat.le_of_ble_eq_true rfl) ?_
 refine PW.a [0,1] 0 (PW.q [0,1,5] 0 (PW.block (PW.lp (α := Nat) (fun i=>{ tab:=[⟨0,[],sl' 1 (fun x=>[I x]) l⟩,⟨1,[],I v⟩,⟨5,[],I (i:Int)⟩],mem:=[] }) (fun i=>i≤l.length∧∀ k,k<i→¬ l.getD k default=v) (fun i=>l.length-i) [0,1,5] 0 (0) ?_ ?_)))
 ·exact ⟨Nat.zero_le _,fun k hk=>absurd hk (Nat.not_lt_zero _)⟩
 rintro i hinv
 show PW _ _ _ _ _
 refine PW.q [0,1,5,9] 0 (PW.cd (decide ((i:Int)<(l.length:Int))) ?_ ?_) <;> intro hz0 <;> try simp only [boolS] at hz0
 ·refine PW.k (PW.seq (PW.block (PW.sr [0,1,5,17] 0 (p:=(0≤(i:Int)∧(i:Int)<(l.length:Int))) oM (PW.cd ((l.getD i default) == v) ?_ ?_)))) <;> intro hz1 <;> try simp only [boolS] at hz1
  ·refine PW.t [4] 0 (rq (D.v (.bool true)) ?_)
   rw [has_at (i:=i) oM hz1]
  ·refine PW.k (PW.b [0,1,5] 0 ?_)
   refine BackR.of (s1:={ tab:=[⟨0,[],sl' 1 (fun x=>[I x]) l⟩,⟨1,[],I v⟩,⟨5,[],I (IntKind.i64.wrap ((i:Int)+1))⟩],mem:=[] }) (i+1) kR kR ?_ ?_ ?_
   ·rw [wrapM i oM]
    exact Rem.refl _
   ·refine ⟨by omega,?_⟩
    intro k hk
    by_cases hki:k=i
    ·subst hki
     exact hz1
    ·exact hinv.2 k oM
   ·exact nD
 ·refine PW.e (PW.t [4] 0 (rq (D.v (.bool false)) ?_))
  rw [has_no (fun k hk=>hinv.2 k oM)]
end Go.Proofs.YtdomlccfjnkbjaaGreatDoor.Pl
