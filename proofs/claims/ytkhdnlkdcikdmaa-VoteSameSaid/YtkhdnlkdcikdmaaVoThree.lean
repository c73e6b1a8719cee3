/- Chapter 14: Backers, the project's and the document's own. -/
import Derived.Test.YtkhdnlkdcikdmaaVoTwo
namespace Go.Proofs.Ytkhdnlkdcikdmaa.Pl
open Go.RowKit Go.Proofs.Ytkhdnlkdcikdmaa.Sm Go.Proofs.Ytkhdnlkdcikdmaa.Dp
open Go.Proofs.Ytkhdnlkdcikdmaa.Fr (bare frD frC)
set_option maxHeartbeats 4000000
set_option maxRecDepth 100000
set_option linter.unusedVariables false
set_option linter.unusedSimpArgs false
def cOf (h:Heard):Content:=⟨h.frame.cycle,h.frame.ages⟩
def syncB (h:Heard):Bool:=decide (h.frame.kind=2)
def syncs (l:List Heard):List Heard:=l.filter syncB
def backs (ss:List Heard) (a:Int):List Heard:=ss.filter fun h=>sameC (cOf h) ((ss.map cOf).getD a.toNat default)
def backL (l:List Heard):List Heard:=backs (syncs l) (winI ((syncs l).map cOf)).1
theorem fil_yes {p:Heard→Bool} {l xs:List Heard} {i:Nat} (h:xs=(l.take i).filter p) (hi:i<l.length) (hp:p (l.getD i default)=true):xs++[l.getD i default]=(l.take (i+1)).filter p:=by
 rw [List.getD_eq_getElem?_getD,List.getElem?_eq_getElem hi] at hp ⊢
 simp only [Option.getD_some] at hp ⊢
 rw [List.take_succ_eq_append_getElem hi,List.filter_append,← h,List.filter_cons_of_pos hp]
 rfl
theorem fil_no {p:Heard→Bool} {l xs:List Heard} {i:Nat} (h:xs=(l.take i).filter p) (hi:i<l.length) (hp:p (l.getD i default)=false):xs=(l.take (i+1)).filter p:=by
 rw [List.getD_eq_getElem?_getD,List.getElem?_eq_getElem hi] at hp
 simp only [Option.getD_some] at hp
 rw [List.take_succ_eq_append_getElem hi,List.filter_append,← h,List.filter_cons_of_neg (by rw [← Bool.not_eq_true] at hp; exact hp)]
 simp
theorem fil_len {p:Heard→Bool} {l xs:List Heard} {i:Nat} (h:xs=(l.take i).filter p):xs.length≤l.length:=by
 rw [h]
 exact Nat.le_trans (List.length_filter_le _ _) (by rw [List.length_take]; omega)
theorem cOf_at {ss:List Heard} {k:Nat} (h:k<ss.length):(ss.map cOf).getD k default=cOf (ss.getD k default):=map_getD h
def Fine (l:List Heard):Prop:=∀ h ∈ l,h.frame.ages.length<1000000∧h.frame.body.length<1000000
theorem Fine.at {l:List Heard} (h:Fine l) (k:Nat):(l.getD k default).frame.ages.length<1000000∧(l.getD k default).frame.body.length<1000000:=by
 rcases Nat.lt_or_ge k l.length with h2|h2
 ·exact h _ (getD_mem h2)
 ·rw [List.getD_eq_getElem?_getD,List.getElem?_eq_none h2]
  exact ⟨by decide,by decide⟩
theorem Fine.fil {l:List Heard} (h:Fine l) {p:Heard→Bool}:Fine (l.filter p):=fun x hx=>h x (List.mem_filter.1 hx).1
theorem Fine.cs {l:List Heard} (h:Fine l) (k:Nat):((l.map cOf).getD k default).ages.length<1000000:=by
 rcases Nat.lt_or_ge k l.length with h2|h2
 ·rw [cOf_at h2]
  exact (h.at k).1
 ·rw [List.getD_eq_getElem?_getD,List.getElem?_eq_none (by simpa using h2)]
  decide
theorem win_in {l:List Content}:0<l.length→0≤(winI l).1∧(winI l).1<(l.length:Int):=fun h=>by
 obtain ⟨b,hb,e,_⟩:=win_spec h
 rw [e]
 dsimp only
 omega
theorem vote_Backers_pc (l:List Heard) (hl:l.length<1000000) (hF:Fine l):PC Try.prog [] 16 [sl' 16 Heard.d l] (· = sl' 16 Heard.d (backL l)):=by
 refine po 65 Try.func16 rfl (PW.a [0] 0 (PW.a [0,3] 0 (PW.a [0,3,4] 0 (PW.q [3,4,12,13,14] 0 (PW.block (PW.born 3 42 16 kR (PW.born 4 37 2 kR ?_)))))))
 refine PW.loopR (α := Nat×List Heard×List Content) (fun (i,ss,cs)=>{ tab:=[⟨3,[],D.h 0 ss.length⟩,⟨4,[],D.h 1 cs.length⟩,⟨12,[],sl' 16 Heard.d l⟩,⟨13,[],I (l.length:Int)⟩,⟨14,[],I (i:Int)⟩],mem:=[Obj.row 42 16 ss.length (fun j=>Heard.d (ss.getD j default)),Obj.row 37 2 cs.length (fun j=>Content.d (cs.getD j default))] }) (fun (i,ss,cs)=>i≤l.length∧ss=(l.take i).filter syncB∧cs=ss.map cOf) (fun (i,ss,cs)=>l.length-i) [3,4,12,13,14] 2 (0,[],[]) (s1:={ tab:=[⟨3,[],D.h 0 0⟩,⟨4,[],D.h 1 0⟩,⟨12,[],sl' 16 Heard.d l⟩,⟨13,[],I (l.length:Int)⟩,⟨14,[],I 0⟩],mem:=[Obj.row 42 16 0 (fun _=>[]),Obj.row 37 2 0 (fun _=>[])] }) kR kR ?_ ?_ ?_
 ·dsimp only
  exact ⟨rfl,rfl,rfl,(.row rfl (fun j hj=>absurd hj (Nat.not_lt_zero _)) (.row rfl (fun j hj=>absurd hj (Nat.not_lt_zero _)) .nil))⟩
 ·dsimp only
  exact ⟨Nat.zero_le _,rfl,rfl⟩
 rintro ⟨i,ss,cs⟩ hinv
 dsimp only at hinv
 have hsl:ss.length≤l.length:=fil_len hinv.2.1
 have hcl:cs.length=ss.length:=by rw [hinv.2.2,List.length_map]
 have hF':Fine ss:=by rw [hinv.2.1]; exact Fine.fil fun x hx=>hF x (List.mem_of_mem_take hx)
 have hcA:∀ k,(cs.getD k default).ages.length<1000000:=by rw [hinv.2.2]; exact hF'.cs
 have hwi:=win_in (l:=cs)
 show PW _ _ _ _ _
 refine PW.a [3,4,12,13,14,15] 2 (PW.seq (PW.cd (decide ((i:Int)<(l.length:Int))) ?_ ?_)) <;> intro hz0 <;> try simp only [boolS,sameC_iff,sameC_no] at hz0
 ·refine PW.k (PW.seq (PW.block (PW.sr [3,4,6,12,13,14] 3 (p:=(0≤(i:Int)∧(i:Int)<(l.length:Int))) oM (PW.a [3,4,6,12,13,14,21] 3 (PW.cd ((((l.getD i default).frame).kind) == (2:Int)) ?_ ?_))))) <;> intro hz1 <;> try simp only [boolS,sameC_iff,sameC_no] at hz1
  ·refine PW.sg (PL.rw 4 [4,6,12,13,14,25] 4 (p:=((ss.length=ss.length∧1≤1)∧(ss.length+1)*160≤140737488355328∧ss.length+1≤9223372036854775807)) oM (PL.ap 0 Heard.d ss ((l.getD i default)) (PL.n 1 [3,4,6,12,13,14] 4 (PW.region (PL.a 7 [3,12,13,14,26,29,32] 4 (PL.sl [3,12,13,14,26,29,32] 4 (PL.build (cs:=[I (((l.getD i default).frame).cycle),sl' 1 (fun x=>[I x]) (((l.getD i default).frame).ages)]) rfl kR kR kR ?_)))))))
   refine PL.rw 2 [3,12,13,14,35] 5 (p:=((cs.length=cs.length∧1≤1)∧(cs.length+1)*32≤140737488355328∧cs.length+1≤9223372036854775807)) oM (PL.ap 1 Content.d cs ((cOf (l.getD i default))) (PL.a 1 [3,4,12,13,14] 5 (PL.nil ?_)))
   show PW _ _ _ _ _
   refine PW.b [3,4,12,13,14] 5 ?_
   refine BackR.of (s1:={ tab:=[⟨3,[],D.h 0 (ss.length+1)⟩,⟨4,[],D.h 1 (cs.length+1)⟩,⟨12,[],sl' 16 Heard.d l⟩,⟨13,[],I (l.length:Int)⟩,⟨14,[],I (IntKind.i64.wrap ((i:Int)+1))⟩],mem:=[Obj.row 42 16 (ss.length+1) (fun j=>Heard.d ((ss++[(l.getD i default)]).getD j default)),Obj.row 37 2 (cs.length+1) (fun j=>Content.d ((cs++[(cOf (l.getD i default))]).getD j default))] }) (i+1,ss++[(l.getD i default)],cs++[(cOf (l.getD i default))]) kR kR ?_ ?_ ?_
   ·dsimp only
    first|(rw [wrapS i oM]; simp only [List.length_append,List.length_singleton])|(rw [wrapS i oM])
    exact Rem.refl _
   ·dsimp only
    first
    | exact ⟨by omega,fil_yes hinv.2.1 oM (decide_eq_true hz1),by rw [List.map_append,← hinv.2.2]; rfl⟩
    | exact ⟨by omega,fil_no hinv.2.1 oM (decide_eq_false hz1),hinv.2.2⟩
   ·dsimp only
    exact nD
  ·refine PW.k (PW.b [3,4,12,13,14] 3 ?_)
   refine BackR.of (s1:={ tab:=[⟨3,[],D.h 0 ss.length⟩,⟨4,[],D.h 1 cs.length⟩,⟨12,[],sl' 16 Heard.d l⟩,⟨13,[],I (l.length:Int)⟩,⟨14,[],I (IntKind.i64.wrap ((i:Int)+1))⟩],mem:=[Obj.row 42 16 ss.length (fun j=>Heard.d (ss.getD j default)),Obj.row 37 2 cs.length (fun j=>Content.d (cs.getD j default))] }) (i+1,ss,cs) kR kR ?_ ?_ ?_
   ·dsimp only
    first|(rw [wrapS i oM]; simp only [List.length_append,List.length_singleton])|(rw [wrapS i oM])
    exact Rem.refl _
   ·dsimp only
    first
    | exact ⟨by omega,fil_yes hinv.2.1 oM (decide_eq_true hz1),by rw [List.map_append,← hinv.2.2]; rfl⟩
    | exact ⟨by omega,fil_no hinv.2.1 oM (decide_eq_false hz1),hinv.2.2⟩
   ·dsimp only
    exact nD
 ·refine PW.e (PW.w 1 [3,4,38] 2 (PL.sl [3,4,38] 2 (PL.eq (s':={ tab:=[⟨3,[],D.h 0 ss.length⟩,⟨4,[],D.h 1 cs.length⟩,⟨38,[],D.h 1 cs.length⟩],mem:=[Obj.row 42 16 ss.length (fun j=>Heard.d (ss.getD j default)),Obj.row 37 2 cs.length (fun j=>Content.d (cs.getD j default))] }) kR (PL.frzR 1 (t:=37) (z:=2) (m:=cs.length) (f:=(fun j=>Content.d (cs.getD j default))) (f':=(fun i=>Content.d (cs.getD i default))) (s':={ tab:=[⟨3,[],D.h 0 ss.length⟩,⟨4,[],sl' 2 Content.d cs⟩,⟨38,[],sl' 2 Content.d cs⟩],mem:=[Obj.row 42 16 ss.length (fun j=>Heard.d (ss.getD j default)),Obj.dead] }) rfl (fun j hj=>rfl) (Nat.zero_le _) (fz_eq (n:=cs.length) (d:=D.s cs.length 2 (fun i=>Content.d (cs.getD i default))) (fun d9=>{ tab:=[⟨3,[],D.h 0 ss.length⟩,⟨4,[],d9⟩,⟨38,[],d9⟩],mem:=[Obj.row 42 16 ss.length (fun j=>Heard.d (ss.getD j default)),Obj.dead] }) kR rfl) (PL.gc (A:=[]) (fun _=>vote_Win_pc cs oM hcA) (PL.n 5 [3,4,7] 2 (PW.a [3,4,7,9] 2 ?_)))))))
  refine PW.q [4,7,9,42,43,44] 2 (PW.block (PW.born 9 42 16 kR (PW.loopR (α := Nat×List Heard) (fun (k,bs)=>{ tab:=[⟨4,[],sl' 2 Content.d cs⟩,⟨7,[],I ((winI cs).1)⟩,⟨9,[],D.h 2 bs.length⟩,⟨42,[],D.h 0 ss.length⟩,⟨43,[],I (ss.length:Int)⟩,⟨44,[],I (k:Int)⟩],mem:=[Obj.row 42 16 ss.length (fun j=>Heard.d (ss.getD j default)),Obj.dead,Obj.row 42 16 bs.length (fun j=>Heard.d (bs.getD j default))] }) (fun (k,bs)=>k≤ss.length∧bs=(ss.take k).filter (fun h=>sameC (cOf h) (cs.getD (winI cs).1.toNat default))) (fun (k,bs)=>ss.length-k) [4,7,9,42,43,44] 3 (0,[]) (s1:={ tab:=[⟨4,[],sl' 2 Content.d cs⟩,⟨7,[],I ((winI cs).1)⟩,⟨9,[],D.h 2 0⟩,⟨42,[],D.h 0 ss.length⟩,⟨43,[],I (ss.length:Int)⟩,⟨44,[],I 0⟩],mem:=[Obj.row 42 16 ss.length (fun j=>Heard.d (ss.getD j default)),Obj.dead,Obj.row 42 16 0 (fun _=>[])] }) kR kR ?_ ?_ ?_)))
  ·dsimp only
   exact ⟨rfl,rfl,rfl,(.same (.same (.row rfl (fun j hj=>absurd hj (Nat.not_lt_zero _)) .nil)))⟩
  ·dsimp only
   exact ⟨Nat.zero_le _,rfl⟩
  rintro ⟨k,bs⟩ hinw
  dsimp only at hinw
  have hbl:bs.length≤ss.length:=fil_len hinw.2
  show PW _ _ _ _ _
  refine PW.a [4,7,9,42,43,44,45] 3 (PW.seq (PW.cd (decide ((k:Int)<(ss.length:Int))) ?_ ?_)) <;> intro hz2 <;> try simp only [boolS,sameC_iff,sameC_no] at hz2
  ·refine PW.k (PW.seq (PW.block (PW.sr [4,7,9,10,11,42,43,44] 4 (p:=(0≤(k:Int)∧(k:Int)<(ss.length:Int))∧(k<ss.length)) oM (PW.seq (PW.open [] kR (PO.tk [0,1,2,3,4,5,6,7] 9 [4,7,9,11,42,43,44,52,56] 1 (p:=(0≤(k:Int)∧(k:Int)<(cs.length:Int))∧(0≤((winI cs).1)∧((winI cs).1)<(cs.length:Int))) oM (fun _ _ h=>h) (PO.one (n:=0) 8 kR ?_)))))))
   refine PO1.gc _ (ds0:=[D.r [I ((cs.getD k default).cycle),sl' 1 (fun x=>[I x]) ((cs.getD k default).ages)],D.r [I ((cs.getD (((winI cs).1).toNat) default).cycle),sl' 1 (fun x=>[I x]) ((cs.getD (((winI cs).1).toNat) default).ages)]]) (A:=[]) (fun _=>vote_Same_pc (cs.getD k default) (cs.getD (((winI cs).1).toNat) default) (hcA _) (hcA _)) ?_ rfl
   refine PO.done kR ?_
   show PW _ _ _ _ _
   refine PW.cd (sameC (cs.getD k default) (cs.getD (((winI cs).1).toNat) default)) ?_ ?_ <;> intro hz3 <;> try simp only [boolS,sameC_iff,sameC_no] at hz3
   ·refine PW.region (PL.a 2 [4,7,42,43,44,58,59] 4 (PL.gc (ds0:=[D.r [I ((ss.getD k default).slot),I (((ss.getD k default).frame).kind),I (((ss.getD k default).frame).part),I (((ss.getD k default).frame).node),I (((ss.getD k default).frame).wait),I (((ss.getD k default).frame).mask),I (((ss.getD k default).frame).link),D.v (.bool (((ss.getD k default).frame).flag)),I (((ss.getD k default).frame).cycle),I (((ss.getD k default).frame).offset),sl' 1 (fun x=>[I x]) (((ss.getD k default).frame).ages),I (((ss.getD k default).frame).frm),I (((ss.getD k default).frame).to),I (((ss.getD k default).frame).seq),bytesD (((ss.getD k default).frame).body),I ((ss.getD k default).at_)]]) (A:=[]) (fun _=>vote_clone_pc (ss.getD k default) (hF'.at _).1 (hF'.at _).2) (PL.rw 2 [4,7,42,43,44,62] 5 (p:=((bs.length=bs.length∧1≤1)∧(bs.length+1)*160≤140737488355328∧bs.length+1≤9223372036854775807)) oM (PL.ap 2 Heard.d bs ((ss.getD k default)) (PL.a 1 [4,7,9,42,43,44] 5 (PL.nil ?_))))))
    show PW _ _ _ _ _
    refine PW.b [4,7,9,42,43,44] 5 ?_
    refine BackR.of (s1:={ tab:=[⟨4,[],sl' 2 Content.d cs⟩,⟨7,[],I ((winI cs).1)⟩,⟨9,[],D.h 2 (bs.length+1)⟩,⟨42,[],D.h 0 ss.length⟩,⟨43,[],I (ss.length:Int)⟩,⟨44,[],I (IntKind.i64.wrap ((k:Int)+1))⟩],mem:=[Obj.row 42 16 ss.length (fun j=>Heard.d (ss.getD j default)),Obj.dead,Obj.row 42 16 (bs.length+1) (fun j=>Heard.d ((bs++[(ss.getD k default)]).getD j default))] }) (k+1,bs++[(ss.getD k default)]) kR kR ?_ ?_ ?_
    ·dsimp only
     first|(rw [wrapS k oM]; simp only [List.length_append,List.length_singleton])|(rw [wrapS k oM])
     exact Rem.refl _
    ·dsimp only
     have e8:cs.getD k default=cOf (ss.getD k default):=by rw [hinv.2.2]; exact cOf_at oM
     rw [e8] at hz3
     first
     | exact ⟨by omega,fil_yes hinw.2 oM (sameC_iff.2 hz3)⟩
     | exact ⟨by omega,fil_no hinw.2 oM (sameC_no.2 hz3)⟩
    ·dsimp only
     exact nD
   ·refine PW.k (PW.b [4,7,9,42,43,44] 4 ?_)
    refine BackR.of (s1:={ tab:=[⟨4,[],sl' 2 Content.d cs⟩,⟨7,[],I ((winI cs).1)⟩,⟨9,[],D.h 2 bs.length⟩,⟨42,[],D.h 0 ss.length⟩,⟨43,[],I (ss.length:Int)⟩,⟨44,[],I (IntKind.i64.wrap ((k:Int)+1))⟩],mem:=[Obj.row 42 16 ss.length (fun j=>Heard.d (ss.getD j default)),Obj.dead,Obj.row 42 16 bs.length (fun j=>Heard.d (bs.getD j default))] }) (k+1,bs) kR kR ?_ ?_ ?_
    ·dsimp only
     first|(rw [wrapS k oM]; simp only [List.length_append,List.length_singleton])|(rw [wrapS k oM])
     exact Rem.refl _
    ·dsimp only
     have e8:cs.getD k default=cOf (ss.getD k default):=by rw [hinv.2.2]; exact cOf_at oM
     rw [e8] at hz3
     first
     | exact ⟨by omega,fil_yes hinw.2 oM (sameC_iff.2 hz3)⟩
     | exact ⟨by omega,fil_no hinw.2 oM (sameC_no.2 hz3)⟩
    ·dsimp only
     exact nD
  ·refine PW.e (PW.t [2] 3 (retQ_ret (d:=D.s bs.length 16 (fun j=>Heard.d (bs.getD j default))) (ps:=[bs.length≤bs.length]) kR (show (bs.length≤bs.length) from by exact nD) ?_))
   have e7:ss=syncs l:=by rw [hinv.2.1,show i=l.length by omega,List.take_length]; rfl
   have e6:backL l=bs:=by unfold backL backs; rw [← e7,← hinv.2.2,hinw.2,show k=ss.length by omega,List.take_length]
   rw [e6]
   rfl
theorem drumlineref10_Backers_pc (l:List Heard) (hl:l.length<1000000) (hF:Fine l):PC Try.prog [] 17 [sl' 16 Heard.d l] (· = sl' 16 Heard.d (backL l)):=by
 refine po 75 Try.func17 rfl (PW.a [0] 0 (PW.a [0,3] 0 (PW.a [0,3,4] 0 (PW.q [0,3,4,5] 0 (PW.block (PW.born 3 42 16 kR (PW.born 4 37 2 kR ?_)))))))
 refine PW.loopR (α := Nat×List Heard×List Content) (fun (i,ss,cs)=>{ tab:=[⟨0,[],sl' 16 Heard.d l⟩,⟨3,[],D.h 0 ss.length⟩,⟨4,[],D.h 1 cs.length⟩,⟨5,[],I (i:Int)⟩],mem:=[Obj.row 42 16 ss.length (fun j=>Heard.d (ss.getD j default)),Obj.row 37 2 cs.length (fun j=>Content.d (cs.getD j default))] }) (fun (i,ss,cs)=>i≤l.length∧ss=(l.take i).filter syncB∧cs=ss.map cOf) (fun (i,ss,cs)=>l.length-i) [0,3,4,5] 2 (0,[],[]) (s1:={ tab:=[⟨0,[],sl' 16 Heard.d l⟩,⟨3,[],D.h 0 0⟩,⟨4,[],D.h 1 0⟩,⟨5,[],I 0⟩],mem:=[Obj.row 42 16 0 (fun _=>[]),Obj.row 37 2 0 (fun _=>[])] }) kR kR ?_ ?_ ?_
 ·dsimp only
  exact ⟨rfl,rfl,rfl,(.row rfl (fun j hj=>absurd hj (Nat.not_lt_zero _)) (.row rfl (fun j hj=>absurd hj (Nat.not_lt_zero _)) .nil))⟩
 ·dsimp only
  exact ⟨Nat.zero_le _,rfl,rfl⟩
 rintro ⟨i,ss,cs⟩ hinv
 dsimp only at hinv
 have hsl:ss.length≤l.length:=fil_len hinv.2.1
 have hcl:cs.length=ss.length:=by rw [hinv.2.2,List.length_map]
 have hF':Fine ss:=by rw [hinv.2.1]; exact Fine.fil fun x hx=>hF x (List.mem_of_mem_take hx)
 have hcA:∀ k,(cs.getD k default).ages.length<1000000:=by rw [hinv.2.2]; exact hF'.cs
 have hwi:=win_in (l:=cs)
 show PW _ _ _ _ _
 refine PW.q [0,3,4,5,13] 2 (PW.cd (decide ((i:Int)<(l.length:Int))) ?_ ?_) <;> intro hz0 <;> try simp only [boolS,sameC_iff,sameC_no] at hz0
 ·refine PW.k (PW.seq (PW.block (PW.sr [0,3,4,5,22] 2 (p:=(0≤(i:Int)∧(i:Int)<(l.length:Int))) oM (PW.cd ((((l.getD i default).frame).kind) == (2:Int)) ?_ ?_)))) <;> intro hz1 <;> try simp only [boolS,sameC_iff,sameC_no] at hz1
  ·refine PW.sg (PL.rw 7 [0,4,5,29] 3 (p:=(0≤(i:Int)∧(i:Int)<(l.length:Int))∧((ss.length=ss.length∧1≤1)∧(ss.length+1)*160≤140737488355328∧ss.length+1≤9223372036854775807)) oM (PL.ap 0 Heard.d ss ((l.getD i default)) (PL.n 1 [0,3,4,5] 3 (PW.open [1] kR (PO.tk [0,1,2,3,4,5,6,7,8,9,10,11,12] 17 [0,3,4,5,30,36,42] 4 (p:=(0≤(i:Int)∧(i:Int)<(l.length:Int))∧(0≤(i:Int)∧(i:Int)<(l.length:Int))) oM (fun _ _ h=>h) (PO.one (n:=3) 13 kR (PO1.build (cs:=[I (((l.getD i default).frame).cycle),sl' 1 (fun x=>[I x]) (((l.getD i default).frame).ages)]) rfl rfl kR kR kR ?_)))))))
   refine PO.one (n:=2) 14 kR ?_
   refine PO1.a [0,3,4,5,30,44] 4 (PO.one (n:=1) 15 kR (PO1.mm rfl [0,3,4,5,45] 4 (p:=((cs.length=cs.length∧1≤1)∧(cs.length+1)*32≤140737488355328∧cs.length+1≤9223372036854775807)) oM (PO.ap 1 Content.d cs ((cOf (l.getD i default))) ?_)))
   refine PO.a [16] 1 [0,3,4,5] 0 (PO.done kR ?_)
   show PW _ _ _ _ _
   refine PW.b [0,3,4,5] 4 ?_
   refine BackR.of (s1:={ tab:=[⟨0,[],sl' 16 Heard.d l⟩,⟨3,[],D.h 0 (ss.length+1)⟩,⟨4,[],D.h 1 (cs.length+1)⟩,⟨5,[],I (IntKind.i64.wrap ((i:Int)+1))⟩],mem:=[Obj.row 42 16 (ss.length+1) (fun j=>Heard.d ((ss++[(l.getD i default)]).getD j default)),Obj.row 37 2 (cs.length+1) (fun j=>Content.d ((cs++[(cOf (l.getD i default))]).getD j default))] }) (i+1,ss++[(l.getD i default)],cs++[(cOf (l.getD i default))]) kR kR ?_ ?_ ?_
   ·dsimp only
    first|(rw [wrapS i oM]; simp only [List.length_append,List.length_singleton])|(rw [wrapS i oM])
    exact Rem.refl _
   ·dsimp only
    first
    | exact ⟨by omega,fil_yes hinv.2.1 oM (decide_eq_true hz1),by rw [List.map_append,← hinv.2.2]; rfl⟩
    | exact ⟨by omega,fil_no hinv.2.1 oM (decide_eq_false hz1),hinv.2.2⟩
   ·dsimp only
    exact nD
  ·refine PW.k (PW.b [0,3,4,5] 2 ?_)
   refine BackR.of (s1:={ tab:=[⟨0,[],sl' 16 Heard.d l⟩,⟨3,[],D.h 0 ss.length⟩,⟨4,[],D.h 1 cs.length⟩,⟨5,[],I (IntKind.i64.wrap ((i:Int)+1))⟩],mem:=[Obj.row 42 16 ss.length (fun j=>Heard.d (ss.getD j default)),Obj.row 37 2 cs.length (fun j=>Content.d (cs.getD j default))] }) (i+1,ss,cs) kR kR ?_ ?_ ?_
   ·dsimp only
    first|(rw [wrapS i oM]; simp only [List.length_append,List.length_singleton])|(rw [wrapS i oM])
    exact Rem.refl _
   ·dsimp only
    first
    | exact ⟨by omega,fil_yes hinv.2.1 oM (decide_eq_true hz1),by rw [List.map_append,← hinv.2.2]; rfl⟩
    | exact ⟨by omega,fil_no hinv.2.1 oM (decide_eq_false hz1),hinv.2.2⟩
   ·dsimp only
    exact nD
 ·refine PW.e (PW.w 1 [3,4,47] 2 (PL.sl [3,4,47] 2 (PL.eq (s':={ tab:=[⟨3,[],D.h 0 ss.length⟩,⟨4,[],D.h 1 cs.length⟩,⟨47,[],D.h 1 cs.length⟩],mem:=[Obj.row 42 16 ss.length (fun j=>Heard.d (ss.getD j default)),Obj.row 37 2 cs.length (fun j=>Content.d (cs.getD j default))] }) kR (PL.frzR 1 (t:=37) (z:=2) (m:=cs.length) (f:=(fun j=>Content.d (cs.getD j default))) (f':=(fun i=>Content.d (cs.getD i default))) (s':={ tab:=[⟨3,[],D.h 0 ss.length⟩,⟨4,[],sl' 2 Content.d cs⟩,⟨47,[],sl' 2 Content.d cs⟩],mem:=[Obj.row 42 16 ss.length (fun j=>Heard.d (ss.getD j default)),Obj.dead] }) rfl (fun j hj=>rfl) (Nat.zero_le _) (fz_eq (n:=cs.length) (d:=D.s cs.length 2 (fun i=>Content.d (cs.getD i default))) (fun d9=>{ tab:=[⟨3,[],D.h 0 ss.length⟩,⟨4,[],d9⟩,⟨47,[],d9⟩],mem:=[Obj.row 42 16 ss.length (fun j=>Heard.d (ss.getD j default)),Obj.dead] }) kR rfl) (PL.gc (A:=[]) (fun _=>drumlineref10_Win_pc cs oM hcA) (PL.n 5 [3,4,6] 2 (PW.a [3,4,6,8] 2 ?_)))))))
  refine PW.q [3,4,6,8,9] 2 (PW.block (PW.born 8 42 16 kR (PW.loopR (α := Nat×List Heard) (fun (k,bs)=>{ tab:=[⟨3,[],D.h 0 ss.length⟩,⟨4,[],sl' 2 Content.d cs⟩,⟨6,[],I ((winI cs).1)⟩,⟨8,[],D.h 2 bs.length⟩,⟨9,[],I (k:Int)⟩],mem:=[Obj.row 42 16 ss.length (fun j=>Heard.d (ss.getD j default)),Obj.dead,Obj.row 42 16 bs.length (fun j=>Heard.d (bs.getD j default))] }) (fun (k,bs)=>k≤ss.length∧bs=(ss.take k).filter (fun h=>sameC (cOf h) (cs.getD (winI cs).1.toNat default))) (fun (k,bs)=>ss.length-k) [3,4,6,8,9] 3 (0,[]) (s1:={ tab:=[⟨3,[],D.h 0 ss.length⟩,⟨4,[],sl' 2 Content.d cs⟩,⟨6,[],I ((winI cs).1)⟩,⟨8,[],D.h 2 0⟩,⟨9,[],I 0⟩],mem:=[Obj.row 42 16 ss.length (fun j=>Heard.d (ss.getD j default)),Obj.dead,Obj.row 42 16 0 (fun _=>[])] }) kR kR ?_ ?_ ?_)))
  ·dsimp only
   exact ⟨rfl,rfl,rfl,(.same (.same (.row rfl (fun j hj=>absurd hj (Nat.not_lt_zero _)) .nil)))⟩
  ·dsimp only
   exact ⟨Nat.zero_le _,rfl⟩
  rintro ⟨k,bs⟩ hinw
  dsimp only at hinw
  have hbl:bs.length≤ss.length:=fil_len hinw.2
  show PW _ _ _ _ _
  refine PW.q [3,4,6,8,9,54] 3 (PW.cd (decide ((k:Int)<(ss.length:Int))) ?_ ?_) <;> intro hz2 <;> try simp only [boolS,sameC_iff,sameC_no] at hz2
  ·refine PW.k (PW.seq (PW.block (PW.seq (PW.open [] kR (PO.tk [0,1,2,3,4,5,6,7] 9 [3,4,6,8,9,60,64] 1 (p:=(0≤(k:Int)∧(k:Int)<(cs.length:Int))∧(0≤((winI cs).1)∧((winI cs).1)<(cs.length:Int))) oM (fun _ _ h=>h) (PO.one (n:=0) 8 kR ?_))))))
   refine PO1.gc _ (ds0:=[D.r [I ((cs.getD k default).cycle),sl' 1 (fun x=>[I x]) ((cs.getD k default).ages)],D.r [I ((cs.getD (((winI cs).1).toNat) default).cycle),sl' 1 (fun x=>[I x]) ((cs.getD (((winI cs).1).toNat) default).ages)]]) (A:=[]) (fun _=>drumlineref10_SameContent_pc (cs.getD k default) (cs.getD (((winI cs).1).toNat) default) (hcA _) (hcA _)) ?_ rfl
   refine PO.done kR ?_
   show PW _ _ _ _ _
   refine PW.cd (sameC (cs.getD k default) (cs.getD (((winI cs).1).toNat) default)) ?_ ?_ <;> intro hz3 <;> try simp only [boolS,sameC_iff,sameC_no] at hz3
   ·refine PW.region (PL.rw 5 [3,4,6,9,66,70] 3 (p:=(0≤(k:Int)∧(k:Int)<(ss.length:Int))∧(k<ss.length)) oM (PL.gc (ds0:=[D.r [I ((ss.getD k default).slot),I (((ss.getD k default).frame).kind),I (((ss.getD k default).frame).part),I (((ss.getD k default).frame).node),I (((ss.getD k default).frame).wait),I (((ss.getD k default).frame).mask),I (((ss.getD k default).frame).link),D.v (.bool (((ss.getD k default).frame).flag)),I (((ss.getD k default).frame).cycle),I (((ss.getD k default).frame).offset),sl' 1 (fun x=>[I x]) (((ss.getD k default).frame).ages),I (((ss.getD k default).frame).frm),I (((ss.getD k default).frame).to),I (((ss.getD k default).frame).seq),bytesD (((ss.getD k default).frame).body),I ((ss.getD k default).at_)]]) (A:=[]) (fun _=>drumlineref10_CopyHeard_pc (ss.getD k default) (hF'.at _).1 (hF'.at _).2) (PL.rw 2 [3,4,6,9,73] 4 (p:=((bs.length=bs.length∧1≤1)∧(bs.length+1)*160≤140737488355328∧bs.length+1≤9223372036854775807)) oM (PL.ap 2 Heard.d bs ((ss.getD k default)) (PL.a 1 [3,4,6,8,9] 4 (PL.nil ?_))))))
    show PW _ _ _ _ _
    refine PW.b [3,4,6,8,9] 4 ?_
    refine BackR.of (s1:={ tab:=[⟨3,[],D.h 0 ss.length⟩,⟨4,[],sl' 2 Content.d cs⟩,⟨6,[],I ((winI cs).1)⟩,⟨8,[],D.h 2 (bs.length+1)⟩,⟨9,[],I (IntKind.i64.wrap ((k:Int)+1))⟩],mem:=[Obj.row 42 16 ss.length (fun j=>Heard.d (ss.getD j default)),Obj.dead,Obj.row 42 16 (bs.length+1) (fun j=>Heard.d ((bs++[(ss.getD k default)]).getD j default))] }) (k+1,bs++[(ss.getD k default)]) kR kR ?_ ?_ ?_
    ·dsimp only
     first|(rw [wrapS k oM]; simp only [List.length_append,List.length_singleton])|(rw [wrapS k oM])
     exact Rem.refl _
    ·dsimp only
     have e8:cs.getD k default=cOf (ss.getD k default):=by rw [hinv.2.2]; exact cOf_at oM
     rw [e8] at hz3
     first
     | exact ⟨by omega,fil_yes hinw.2 oM (sameC_iff.2 hz3)⟩
     | exact ⟨by omega,fil_no hinw.2 oM (sameC_no.2 hz3)⟩
    ·dsimp only
     exact nD
   ·refine PW.k (PW.b [3,4,6,8,9] 3 ?_)
    refine BackR.of (s1:={ tab:=[⟨3,[],D.h 0 ss.length⟩,⟨4,[],sl' 2 Content.d cs⟩,⟨6,[],I ((winI cs).1)⟩,⟨8,[],D.h 2 bs.length⟩,⟨9,[],I (IntKind.i64.wrap ((k:Int)+1))⟩],mem:=[Obj.row 42 16 ss.length (fun j=>Heard.d (ss.getD j default)),Obj.dead,Obj.row 42 16 bs.length (fun j=>Heard.d (bs.getD j default))] }) (k+1,bs) kR kR ?_ ?_ ?_
    ·dsimp only
     first|(rw [wrapS k oM]; simp only [List.length_append,List.length_singleton])|(rw [wrapS k oM])
     exact Rem.refl _
    ·dsimp only
     have e8:cs.getD k default=cOf (ss.getD k default):=by rw [hinv.2.2]; exact cOf_at oM
     rw [e8] at hz3
     first
     | exact ⟨by omega,fil_yes hinw.2 oM (sameC_iff.2 hz3)⟩
     | exact ⟨by omega,fil_no hinw.2 oM (sameC_no.2 hz3)⟩
    ·dsimp only
     exact nD
  ·refine PW.e (PW.t [2] 3 (retQ_ret (d:=D.s bs.length 16 (fun j=>Heard.d (bs.getD j default))) (ps:=[bs.length≤bs.length]) kR (show (bs.length≤bs.length) from by exact nD) ?_))
   have e7:ss=syncs l:=by rw [hinv.2.1,show i=l.length by omega,List.take_length]; rfl
   have e6:backL l=bs:=by unfold backL backs; rw [← e7,← hinv.2.2,hinw.2,show k=ss.length by omega,List.take_length]
   rw [e6]
   rfl
end Go.Proofs.Ytkhdnlkdcikdmaa.Pl
