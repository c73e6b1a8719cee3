/- Chapter 11's laws AirOrder, AirLost: plain mathematics. -/
import Derived.Test.YtnjoklfclnkklaaGreatDoorAiSeven
import Derived.Test.YtnjoklfclnkklaaGreatDoorRdFour
namespace Go.Proofs.YtnjoklfclnkklaaGreatDoor.Pl
open Go.RowKit Go.Proofs.YtnjoklfclnkklaaGreatDoor.Sm Go.Proofs.YtnjoklfclnkklaaGreatDoor.Dp
open Go.Proofs.YtnjoklfclnkklaaGreatDoor.Fr (bare frD frC decX errOf frOf noOf atOf WfA wfA_dec bytesOf mayB)
set_option maxHeartbeats 4000000
set_option maxRecDepth 100000
set_option linter.unusedVariables false
set_option linter.unusedSimpArgs false
section
variable {c:Config} {part:Int} {x:Guard} {ppm:Int} {says:List Say} {lost:List Int}
theorem heard_mem {n:Nat} {h:Heard} (hh:h ∈ heardN c part x ppm says lost n):∃ i:Nat,i<n∧deafB c part x ppm says lost i=false∧badB c part says i=false∧h=soundOf says i:=by
 induction n with
 | zero=>cases hh
 | succ n ih =>
  unfold heardN at hh
  split at hh
  ·obtain ⟨i,h1,h2⟩:=ih hh
   exact ⟨i,by omega,h2⟩
  ·rename_i hq
   rcases List.mem_append.1 hh with hh|hh
   ·obtain ⟨i,h1,h2⟩:=ih hh
    exact ⟨i,by omega,h2⟩
   ·refine ⟨n,Nat.lt_succ_self _,?_,?_,List.mem_singleton.1 hh⟩
    ·exact Bool.eq_false_iff.2 fun h=>hq (.inl h)
    ·exact Bool.eq_false_iff.2 fun h=>hq (.inr h)
theorem heard_sorted (n:Nat):(heardN c part x ppm says lost n).Pairwise fun a b=>a.slot<b.slot:=by
 induction n with
 | zero=>exact .nil
 | succ n ih =>
  unfold heardN
  split
  ·exact ih
  ·rw [List.pairwise_append]
   refine ⟨ih,List.pairwise_singleton _ _,fun a ha b hb => ?_⟩
   obtain ⟨i,h1,_,_,rfl⟩:=heard_mem ha
   rw [List.mem_singleton.1 hb]
   show (i:Int)<(n:Int)
   omega
theorem heard_at {i:Nat} (hi:i<(heardOf c part x ppm says lost).length):lost.contains ((heardOf c part x ppm says lost).getD i default).slot=false∧fitS c part ((heardOf c part x ppm says lost).getD i default).slot ((heardOf c part x ppm says lost).getD i default).frame=true:=by
 have hm:(heardOf c part x ppm says lost).getD i default ∈ heardOf c part x ppm says lost:=by
  rw [List.getD_eq_getElem?_getD,List.getElem?_eq_getElem hi]
  exact List.getElem_mem hi
 obtain ⟨k,h1,h2,h3,h4⟩:=heard_mem hm
 rw [h4]
 unfold deafB at h2
 unfold badB at h3
 simp only [Bool.or_eq_false_iff,Bool.not_eq_false'] at h2 h3
 exact ⟨h2.1.2,h3.2⟩
theorem heard_up {i:Nat} (h0:0<i) (hi:i<(heardOf c part x ppm says lost).length):((heardOf c part x ppm says lost).getD (i-1) default).slot<((heardOf c part x ppm says lost).getD i default).slot:=by
 have h:=List.pairwise_iff_getElem.1 (heard_sorted (c:=c) (part:=part) (x:=x) (ppm:=ppm) (says:=says) (lost:=lost) (slotsOf c part).length) (i-1) i (by unfold heardOf at hi; omega) hi oM
 rw [List.getD_eq_getElem?_getD,List.getElem?_eq_getElem (show i-1<(heardOf c part x ppm says lost).length by omega),List.getD_eq_getElem?_getD,List.getElem?_eq_getElem hi]
 exact h
def below (n:Nat) (s:Say):Bool:=decide (0≤s.slot)&&decide (s.slot<(n:Int))
theorem below_step (n:Nat):∀ l:List Say,l.countP (below n)+(if l.any (inSlot (n:Int))=true then 1 else 0)≤l.countP (below (n+1))
 | []=>by simp
 | s::r=>by
  have ih:=below_step n r
  rw [List.countP_cons,List.countP_cons,List.any_cons]
  have hb:below n s=true→below (n+1) s=true:=by
   unfold below
   simp only [Bool.and_eq_true,decide_eq_true_eq]
   omega
  by_cases h1:inSlot (n:Int) s=true
  ·have h2:below n s=false:=by
    unfold inSlot at h1
    rw [beq_iff_eq] at h1
    unfold below
    rw [h1,decide_eq_false (show ¬ (n:Int)<(n:Int) by omega)]
    simp
   have h3:below (n+1) s=true:=by
    unfold inSlot at h1
    rw [beq_iff_eq] at h1
    unfold below
    rw [h1]
    simp only [Bool.and_eq_true,decide_eq_true_eq]
    omega
   rw [h1,h2,h3]
   simp only [Bool.true_or,if_true]
   split at ih <;> simp <;> omega
  ·rw [Bool.not_eq_true] at h1
   rw [h1,Bool.false_or]
   by_cases h2:below n s=true
   ·rw [if_pos h2,if_pos (hb h2)]
    omega
   ·rw [if_neg h2]
    omega
theorem say_any {i:Int} (h:¬ sayI says i<0):says.any (inSlot i)=true:=by
 rcases seek_is (fun k=>inSlot i (says.getD k default)) says.length 0 with h1|⟨j,h1,h2,h3,h4⟩
 ·exact absurd (show sayI says i<0 by unfold sayI; rw [h1]; decide) h
 ·refine List.any_eq_true.2 ⟨says.getD j default,?_,h3⟩
  rw [List.getD_eq_getElem?_getD,List.getElem?_eq_getElem oM]
  exact List.getElem_mem _
theorem heard_count (n:Nat):(heardN c part x ppm says lost n).length+badN c part x ppm says lost n≤says.countP (below n)∧(heardN c part x ppm says lost n).length+badN c part x ppm says lost n≤n:=by
 induction n with
 | zero=>exact ⟨Nat.zero_le _,Nat.le_refl _⟩
 | succ n ih =>
  have hs:=below_step n says
  cases hd:deafB c part x ppm says lost n with
  | true =>
   have h:=heard_deaf hd
   rw [h.1,h.2]
   omega
  | false =>
   have ha:says.any (inSlot (n:Int))=true:=say_any (by
    unfold deafB at hd
    simp only [Bool.or_eq_false_iff,decide_eq_false_iff_not] at hd
    exact hd.1.1)
   rw [if_pos ha] at hs
   cases hb:badB c part says n with
   | true =>
    have h:=heard_bad hd hb
    rw [h.1,h.2]
    omega
   | false =>
    have h:=heard_yes hd hb
    rw [h.1,h.2,List.length_append,List.length_singleton]
    omega
theorem heardOf_count:(heardOf c part x ppm says lost).length+badOf c part x ppm says lost≤says.length∧(heardOf c part x ppm says lost).length+badOf c part x ppm says lost≤(slotsOf c part).length:=by
 have h:=heard_count (c:=c) (part:=part) (x:=x) (ppm:=ppm) (says:=says) (lost:=lost) (slotsOf c part).length
 have h2:=List.countP_le_length (p:=below (slotsOf c part).length) (l:=says)
 unfold heardOf badOf
 omega
theorem seek_find {α : Type} [Inhabited α] (p : α → Bool):∀ l:List α,((∃ k:Nat,seekI (fun k=>p (l.getD k default)) l.length 0=(k:Int)∧l.find? p=some (l.getD k default))∨(seekI (fun k=>p (l.getD k default)) l.length 0 = -1∧l.find? p=none)):=by
 intro l
 rcases seek_is (fun k=>p (l.getD k default)) l.length 0 with h|⟨j,h1,h2,h3,h4⟩
 ·refine .inr ⟨h,?_⟩
  have:=any_seek p l
  rw [h] at this
  rw [List.find?_eq_none]
  intro y hy hp
  have h5:l.any p=true:=List.any_eq_true.2 ⟨y,hy,hp⟩
  rw [← this] at h5
  exact absurd h5 (by decide)
 ·refine .inl ⟨j,h4,?_⟩
  have hj:j<l.length:=by omega
  have hmin:∀ k,k<j→p (l.getD k default)=false:=by
   intro k hk
   cases hp:p (l.getD k default) with
   | false=>rfl
   | true =>
    exfalso
    have h6:∃ m:Nat,m≤k∧p (l.getD m default)=true∧∀ i,i<m→p (l.getD i default)=false:=by
     obtain ⟨m,q1,q2,q3⟩:=Dp.least (f:=fun i => !p (l.getD i default)) (k+1) ⟨k,by omega,by rw [hp]; rfl⟩
     exact ⟨m,by omega,by simpa using q2,fun i hi=>by simpa using q3 i hi⟩
    obtain ⟨m,q1,q2,q3⟩:=h6
    have:=seek_hit (fun k=>p (l.getD k default)) m q2 l.length 0 (Nat.zero_le _) oM fun i _ hi=>q3 i hi
    rw [h4] at this
    omega
  rw [List.find?_eq_some_iff_getElem]
  refine ⟨h3,j,hj,by rw [List.getD_eq_getElem?_getD,List.getElem?_eq_getElem hj]; rfl,fun i hi => ?_⟩
  have:=hmin i hi
  rw [List.getD_eq_getElem?_getD,List.getElem?_eq_getElem oM] at this
  simpa using this
theorem say_find (says:List Say) (i:Int):(∃ k:Nat,sayI says i=(k:Int)∧says.find? (inSlot i)=some (says.getD k default))∨(sayI says i = -1∧says.find? (inSlot i)=none):=seek_find (inSlot i) says
end
section
variable {c:Config} {part:Int} {x:Guard} {ppm:Int} {says says':List Say} {lost lost':List Int}
theorem heard_cong {n:Nat} (h:∀ i:Nat,i<n→deafB c part x ppm says lost i=deafB c part x ppm says' lost' i∧(deafB c part x ppm says lost i=false→badB c part says i=badB c part says' i∧soundOf says i=soundOf says' i)):heardN c part x ppm says lost n=heardN c part x ppm says' lost' n∧badN c part x ppm says lost n=badN c part x ppm says' lost' n:=by
 induction n with
 | zero=>exact ⟨rfl,rfl⟩
 | succ n ih =>
  obtain ⟨i1,i2⟩:=ih fun i hi=>h i oM
  obtain ⟨h1,h2⟩:=h n (Nat.lt_succ_self _)
  unfold heardN badN
  rw [i1,i2,← h1]
  cases hd:deafB c part x ppm says lost n with
  | true=>simp
  | false =>
   obtain ⟨h3,h4⟩:=h2 hd
   rw [h3,h4]
   exact ⟨rfl,rfl⟩
theorem heard_find (h:∀ i:Nat,(lost.contains (i:Int)=true∧says'.find? (inSlot (i:Int))=none)∨(says.find? (inSlot (i:Int))=says'.find? (inSlot (i:Int))∧lost.contains (i:Int)=lost'.contains (i:Int))):heardOf c part x ppm says lost=heardOf c part x ppm says' lost'∧badOf c part x ppm says lost=badOf c part x ppm says' lost':=by
 refine heard_cong fun i _ => ?_
 rcases h i with ⟨h1,h2⟩|⟨h1,h2⟩
 ·have e1:deafB c part x ppm says lost i=true:=by
   unfold deafB
   rw [h1]
   simp
  have e2:deafB c part x ppm says' lost' i=true:=by
   unfold deafB
   rcases say_find says' (i:Int) with ⟨k,_,hk⟩|⟨hk,_⟩
   ·rw [h2] at hk; cases hk
   ·rw [hk]; rfl
  rw [e1,e2]
  exact ⟨rfl,fun hh=>by cases hh⟩
 ·rcases say_find says (i:Int) with ⟨k,k1,k2⟩|⟨k1,k2⟩
  ·rcases say_find says' (i:Int) with ⟨m,m1,m2⟩|⟨m1,m2⟩
   ·rw [k2,m2] at h1
    injection h1 with h1
    unfold deafB badB soundOf
    rw [k1,m1,Int.toNat_natCast,Int.toNat_natCast,h1,h2]
    refine ⟨?_,fun _=>⟨rfl,rfl⟩⟩
    rw [decide_eq_false (show ¬ (k:Int)<0 by omega),decide_eq_false (show ¬ (m:Int)<0 by omega)]
   ·rw [k2,m2] at h1; cases h1
  ·rcases say_find says' (i:Int) with ⟨m,m1,m2⟩|⟨m1,m2⟩
   ·rw [k2,m2] at h1; cases h1
   ·have e1:deafB c part x ppm says lost i=true:=by
     unfold deafB
     rw [k1]
     rfl
    have e2:deafB c part x ppm says' lost' i=true:=by
     unfold deafB
     rw [m1]
     rfl
    rw [e1,e2]
    exact ⟨rfl,fun hh=>by cases hh⟩
theorem heard_none:heardOf c part x ppm [] lost=[]∧badOf c part x ppm [] lost=0:=by
 have key:∀ n,heardN c part x ppm [] lost n=[]∧badN c part x ppm [] lost n=0:=by
  intro n
  induction n with
  | zero=>exact ⟨rfl,rfl⟩
  | succ n ih =>
   have hd:deafB c part x ppm [] lost n=true:=rfl
   have h:=heard_deaf hd
   rw [h.1,h.2]
   exact ih
 exact key _
end
def notSlot (q:Int) (s:Say):Bool := !inSlot q s
theorem find_others (l:List Say) (q i:Int):(l.filter (notSlot q)).find? (inSlot i)=if i=q then none else l.find? (inSlot i):=by
 rw [List.find?_filter]
 split
 ·rename_i h
  subst h
  rw [List.find?_eq_none]
  intro s _
  unfold notSlot
  cases inSlot i s <;> simp
 ·rename_i h
  congr 1
  funext s
  unfold notSlot inSlot
  cases hs:(s.slot == i) with
  | false=>simp
  | true =>
   rw [beq_iff_eq] at hs
   rw [hs,beq_eq_false_iff_ne.2 h]
   rfl
theorem find_one (l:List Say) (q i:Int):(l.filter (inSlot q)).find? (inSlot i)=if i=q then l.find? (inSlot i) else none:=by
 rw [List.find?_filter]
 split
 ·rename_i h
  subst h
  congr 1
  funext s
  cases inSlot i s <;> rfl
 ·rename_i h
  rw [List.find?_eq_none]
  intro s _
  unfold inSlot
  cases hs:(s.slot == i) with
  | false=>simp
  | true =>
   rw [beq_iff_eq] at hs
   rw [hs,beq_eq_false_iff_ne.2 h]
   simp
theorem lost_is (c:Config) (part:Int) (x:Guard) (ppm:Int) (l:List Say) (q:Int):heardOf c part x ppm l [q]=heardOf c part x ppm (l.filter (notSlot q)) []∧badOf c part x ppm l [q]=badOf c part x ppm (l.filter (notSlot q)) []:=by
 refine heard_find fun i => ?_
 rw [find_others]
 by_cases h:(i:Int)=q
 ·refine .inl ⟨?_,if_pos h⟩
  rw [h]
  simp
 ·refine .inr ⟨(if_neg h).symm,?_⟩
  simp [h]
theorem order_is (c:Config) (part:Int) (x:Guard) (ppm:Int) (l:List Say) (q:Int):heardOf c part x ppm (l.filter (notSlot q)++l.filter (inSlot q)) []=heardOf c part x ppm l []∧badOf c part x ppm (l.filter (notSlot q)++l.filter (inSlot q)) []=badOf c part x ppm l []:=by
 refine heard_find fun i => .inr ⟨?_,rfl⟩
 rw [List.find?_append,find_others,find_one]
 by_cases h:(i:Int)=q
 ·rw [if_pos h,if_pos h]; rfl
 ·rw [if_neg h,if_neg h]
  cases l.find? (inSlot (i:Int)) <;> rfl
theorem filter_step {p:Say→Bool} (l:List Say) {i:Nat} (hi:i<l.length):(l.take (i+1)).filter p=if p (l.getD i default)=true then (l.take i).filter p++[l.getD i default] else (l.take i).filter p:=by
 rw [List.take_add_one,List.getElem?_eq_getElem hi,List.filter_append,List.getD_eq_getElem?_getD,List.getElem?_eq_getElem hi]
 show _=if p l[i]=true then (l.take i).filter p++[l[i]] else (l.take i).filter p
 cases hp:p l[i] <;> simp [hp]
end Go.Proofs.YtnjoklfclnkklaaGreatDoor.Pl
