/- Chapter 9: schedules: plain mathematics. -/
import Derived.Test.YtgklghpkfmoogaaGreatDoorBdFour
namespace Go.Proofs.YtgklghpkfmoogaaGreatDoor.Pl
open Go.RowKit Go.Proofs.YtgklghpkfmoogaaGreatDoor.Sm Go.Proofs.YtgklghpkfmoogaaGreatDoor.Dp
set_option maxHeartbeats 4000000
set_option maxRecDepth 100000
set_option linter.unusedVariables false
set_option linter.unusedSimpArgs false
structure Slot where
 kind:Int
 node:Int
 at_:Int
deriving DecidableEq,Inhabited
def Slot.d (s:Slot):List D:=[I s.kind,I s.node,I s.at_]
def atI (c:Config) (i:Nat):Int:=IntKind.i64.wrap (c.lead+IntKind.i64.wrap ((i:Int)*c.slot))
def slotK (c:Config) (k:Int×Int) (i:Nat):Slot:=⟨k.1,k.2,atI c i⟩
def slN (c:Config):Nat→List (Int×Int)→List Slot
 | _,[]=>[]
 | i,k::r=>slotK c k i::slN c (i+1) r
theorem slN_len (c:Config):∀ (ks:List (Int×Int)) (i:Nat),(slN c i ks).length=ks.length
 | [],_=>rfl
 | k::r,i=>by simp [slN,slN_len c r]
theorem slN_app (c:Config) (k:Int×Int):∀ (ks:List (Int×Int)) (i:Nat),slN c i (ks++[k])=slN c i ks++[slotK c k (i+ks.length)]
 | [],i=>rfl
 | x::r,i=>by
  simp only [List.cons_append,slN,slN_app c k r (i+1),List.length_cons]
  rw [show i+1+r.length=i+(r.length+1) by omega]
theorem slN_get (c:Config):∀ (ks:List (Int×Int)) (i j:Nat),j<ks.length→(slN c i ks).getD j default=slotK c (ks.getD j default) (i+j)
 | [],_,_,h=>absurd h (Nat.not_lt_zero _)
 | k::r,i,0,_=>rfl
 | k::r,i,j+1,h=>by
  have:=slN_get c r (i+1) j (by simpa using h)
  simp only [slN,List.getD_cons_succ,this]
  rw [show i+1+j=i+(j+1) by omega]
theorem slN_push {c:Config} {xs:List Slot} {ks:List (Int×Int)} (h:xs=slN c 0 ks) (k:Int×Int):xs++[slotK c k xs.length]=slN c 0 (ks++[k]):=by
 rw [slN_app,h,slN_len,Nat.zero_add]
theorem slN_eq (c:Config) (ks:List (Int×Int)):slN c 0 ks=(List.range ks.length).map fun j=>slotK c (ks.getD j default) j:=by
 refine List.ext_getElem (by simp [slN_len]) fun i h1 h2 => ?_
 have h3:=slN_get c ks 0 i (by simpa [slN_len] using h1)
 rw [List.getD_eq_getElem?_getD,List.getElem?_eq_getElem h1] at h3
 simpa using h3
def zL (ks:List (Int×Int)):List Slot:=ks.map fun k=>⟨k.1,k.2,0⟩
def paL (c:Config) (ks:List (Int×Int)) (i:Nat):List Slot:=(List.range ks.length).map fun j=>⟨(ks.getD j default).1,(ks.getD j default).2,if j<i then atI c j else 0⟩
theorem zL_push (ks:List (Int×Int)) (k:Int×Int):zL ks++[⟨k.1,k.2,0⟩]=zL (ks++[k]):=by simp [zL]
theorem zL_len (ks:List (Int×Int)):(zL ks).length=ks.length:=by simp [zL]
theorem paL_len (c:Config) (ks:List (Int×Int)) (i:Nat):(paL c ks i).length=ks.length:=by simp [paL]
theorem paL_zero (c:Config) (ks:List (Int×Int)):zL ks=paL c ks 0:=by
 refine List.ext_getElem (by simp [zL,paL]) fun i h1 h2 => ?_
 have:i<ks.length:=by simpa [zL] using h1
 simp [zL,paL,this]
theorem paL_all (c:Config) (ks:List (Int×Int)):paL c ks ks.length=slN c 0 ks:=by
 rw [slN_eq]
 unfold paL
 refine List.map_congr_left fun j hj => ?_
 rw [if_pos (List.mem_range.1 hj)]
 rfl
theorem paL_get (c:Config) (ks:List (Int×Int)) (i j:Nat) (hj:j<ks.length):(paL c ks i).getD j default=⟨(ks.getD j default).1,(ks.getD j default).2,if j<i then atI c j else 0⟩:=by
 rw [List.getD_eq_getElem?_getD,List.getElem?_eq_getElem (by rw [paL_len]; exact hj)]
 simp [paL]
theorem paL_step (c:Config) (ks:List (Int×Int)) {i:Nat} (h:i<ks.length):(paL c ks i).set i ⟨((paL c ks i).getD i default).kind,((paL c ks i).getD i default).node,atI c i⟩=paL c ks (i+1):=by
 rw [paL_get c ks i i h]
 refine List.ext_getElem (by simp [paL_len]) fun j h1 h2 => ?_
 rw [List.getElem_set]
 by_cases hij:i=j
 ·subst hij
  simp [paL]
 ·rw [if_neg hij]
  simp only [paL,List.getElem_map,List.getElem_range]
  congr 1
  by_cases hj:j<i
  ·rw [if_pos hj,if_pos oM]
  ·rw [if_neg hj,if_neg oM]
def gates (ps:List Port):List (Int×Int):=ps.flatMap fun p=>[(3,p.node),(4,p.node)]
def syncs (n:Nat):List (Int×Int):=(List.range n).map fun (i:Nat)=>((2:Int),(i:Int))
def datas (ps:List Port):List (Int×Int):=ps.map fun p=>(5,p.node)
def keysOf (ps:List Port) (n:Nat):List (Int×Int):=gates ps++syncs n++datas ps
theorem gates_len (ps:List Port):(gates ps).length=2*ps.length:=by
 induction ps with
 | nil=>rfl
 | cons p r ih=>simp only [gates,List.flatMap_cons,List.length_append,List.length_cons,List.length_nil] at ih ⊢; omega
theorem syncs_len (n:Nat):(syncs n).length=n:=by simp [syncs]
theorem datas_len (ps:List Port):(datas ps).length=ps.length:=by simp [datas]
theorem keysOf_len (ps:List Port) (n:Nat):(keysOf ps n).length=3*ps.length+n:=by
 simp only [keysOf,List.length_append,gates_len,syncs_len,datas_len]; omega
theorem take_one {α : Type} [Inhabited α] (l:List α) {i:Nat} (h:i<l.length):l.take (i+1)=l.take i++[l.getD i default]:=by
 rw [List.take_add_one,List.getElem?_eq_getElem h,List.getD_eq_getElem?_getD,List.getElem?_eq_getElem h]; rfl
theorem gates_app (a b:List Port):gates (a++b)=gates a++gates b:=by simp [gates]
theorem datas_app (a b:List Port):datas (a++b)=datas a++datas b:=by simp [datas]
theorem gates_one (ps:List Port) {i:Nat} (h:i<ps.length):gates (ps.take (i+1))=gates (ps.take i)++[(3,(ps.getD i default).node)]++[(4,(ps.getD i default).node)]:=by
 rw [take_one ps h,gates_app,List.append_assoc]; rfl
theorem datas_one (ps:List Port) {i:Nat} (h:i<ps.length):datas (ps.take (i+1))=datas (ps.take i)++[(5,(ps.getD i default).node)]:=by
 rw [take_one ps h,datas_app]; rfl
theorem syncs_one (n:Nat):syncs (n+1)=syncs n++[(2,(n:Int))]:=by simp [syncs,List.range_succ]
def nodesI (c:Config) (part:Int):Int:=(c.parts.getD part.toNat default).nodes
def slotsOf (c:Config) (part:Int):List Slot:=if fitB c=true∧isB part c.parts.length=true then slN c 0 (keysOf (portsOf c part) (nodesI c part).toNat) else []
def seekI (p:Nat→Bool):Nat→Nat→Int
 | 0,_ => -1
 | k+1,i=>if p i=true then (i:Int) else seekI p k (i+1)
theorem seek_hit (p:Nat→Bool) (j:Nat) (hj:p j=true):∀ (n i:Nat),i≤j→j<i+n→(∀ k,i≤k→k<j→p k=false)→seekI p n i=(j:Int)
 | 0,i,h1,h2,_=>absurd h2 oM
 | n+1,i,h1,h2,h3=>by
  unfold seekI
  by_cases hi:p i=true
  ·rw [if_pos hi]
   by_cases hij:i=j
   ·rw [hij]
   ·have:=h3 i (Nat.le_refl _) oM
    rw [hi] at this; cases this
  ·rw [if_neg hi]
   have hne:i≠j:=fun h=>hi (h▸hj)
   exact seek_hit p j hj n (i+1) oM oM fun k h4 h5=>h3 k oM h5
theorem seek_is (p:Nat→Bool):∀ (n i:Nat),seekI p n i = -1∨∃ j,i≤j∧j<i+n∧p j=true∧seekI p n i=(j:Int)
 | 0,i => .inl rfl
 | n+1,i=>by
  unfold seekI
  by_cases hi:p i=true
  ·rw [if_pos hi]; exact .inr ⟨i,Nat.le_refl _,by omega,hi,rfl⟩
  ·rw [if_neg hi]
   rcases seek_is p n (i+1) with h|⟨j,h1,h2,h3,h4⟩
   ·exact .inl h
   ·exact .inr ⟨j,by omega,by omega,h3,h4⟩
theorem seek_cong {p q:Nat→Bool}:∀ (n i:Nat),(∀ k,i≤k→k<i+n→p k=q k)→seekI p n i=seekI q n i
 | 0,_,_=>rfl
 | n+1,i,h=>by
  unfold seekI
  rw [h i (Nat.le_refl _) oM,seek_cong n (i+1) fun k h1 h2=>h k oM oM]
def atB (kind node:Int) (s:Slot):Bool:=(s.kind == kind)&&(s.node == node)
def inB (w t:Int) (s:Slot):Bool:=decide (t≥IntKind.i64.wrap (s.at_-w))&&decide (t≤IntKind.i64.wrap (s.at_+w))
def findI (c:Config) (part kind node:Int):Int:=seekI (fun i=>atB kind node ((slotsOf c part).getD i default)) (slotsOf c part).length 0
def whichI (c:Config) (part t:Int):Int:=seekI (fun i=>inB c.window t ((slotsOf c part).getD i default)) (slotsOf c part).length 0
theorem fit_good {c:Config} (h:fitB c=true):(checkP c).1=0∧condI c=0:=by
 simpa only [fitB,Bool.and_eq_true,decide_eq_true_eq] using h
theorem tnodes_in {c:Config} (h:fitB c=true) {part:Int} (hp:isB part c.parts.length=true):1≤nodesI c part∧nodesI c part≤12:=by
 rw [isB_true] at hp
 exact nodes_in (fit_good h).1 (i:=part.toNat) oM
theorem slotsOf_len (c:Config) (part:Int):(slotsOf c part).length≤48:=by
 unfold slotsOf
 split
 ·rename_i h
  have h1:=tnodes_in h.1 h.2
  have h2:=portsOf_len c part
  rw [slN_len,keysOf_len]
  omega
 ·exact Nat.zero_le _
end Go.Proofs.YtgklghpkfmoogaaGreatDoor.Pl
