/- Chapter 11: what is heard: plain mathematics. -/
import Derived.Test.YtdomlccfjnkbjaaGreatDoorBdFour
import Derived.Test.YtdomlccfjnkbjaaGreatDoorFrEncM
import Derived.Test.YtdomlccfjnkbjaaGreatDoorGdOne
import Derived.Test.YtdomlccfjnkbjaaGreatDoorAiLaid
namespace Go.Proofs.YtdomlccfjnkbjaaGreatDoor.Pl
open Go.RowKit Go.Proofs.YtdomlccfjnkbjaaGreatDoor.Sm Go.Proofs.YtdomlccfjnkbjaaGreatDoor.Dp
set_option maxHeartbeats 4000000
set_option maxRecDepth 100000
set_option linter.unusedVariables false
set_option linter.unusedSimpArgs false
structure Slot where
 kind:Int
 node:Int
 at_:Int
deriving DecidableEq,Inhabited
def Slot.d (s:Slot):List D:=[I s.kind,I s.node,I s.at_]
def atI (c:Config) (i:Nat):Int:=IntKind.i64.wrap (c.lead+IntKind.i64.wrap ((i:Int)*c.slot))
def slotK (c:Config) (k:Int×Int) (i:Nat):Slot:=⟨k.1,k.2,atI c i⟩
def slN (c:Config):Nat→List (Int×Int)→List Slot
 | _,[]=>[]
 | i,k::r=>slotK c k i::slN c (i+1) r
theorem slN_len (c:Config):∀ (ks:List (Int×Int)) (i:Nat),(slN c i ks).length=ks.length
 | [],_=>rfl
 | k::r,i=>by simp [slN,slN_len c r]
theorem slN_app (c:Config) (k:Int×Int):∀ (ks:List (Int×Int)) (i:Nat),slN c i (ks++[k])=slN c i ks++[slotK c k (i+ks.length)]
 | [],i=>rfl
 | x::r,i=>by
  simp only [List.cons_append,slN,slN_app c k r (i+1),List.length_cons]
  rw [show i+1+r.length=i+(r.length+1) by omega]
theorem slN_get (c:Config):∀ (ks:List (Int×Int)) (i j:Nat),j<ks.length→(slN c i ks).getD j default=slotK c (ks.getD j default) (i+j)
 | [],_,_,h=>absurd h (Nat.not_lt_zero _)
 | k::r,i,0,_=>rfl
 | k::r,i,j+1,h=>by
  have:=slN_get c r (i+1) j (by simpa using h)
  simp only [slN,List.getD_cons_succ,this]
  rw [show i+1+j=i+(j+1) by omega]
theorem slN_push {c:Config} {xs:List Slot} {ks:List (Int×Int)} (h:xs=slN c 0 ks) (k:Int×Int):xs++[slotK c k xs.length]=slN c 0 (ks++[k]):=by
 rw [slN_app,h,slN_len,Nat.zero_add]
theorem slN_eq (c:Config) (ks:List (Int×Int)):slN c 0 ks=(List.range ks.length).map fun j=>slotK c (ks.getD j default) j:=by
 refine List.ext_getElem (by simp [slN_len]) fun i h1 h2 => ?_
 have h3:=slN_get c ks 0 i (by simpa [slN_len] using h1)
 rw [List.getD_eq_getElem?_getD,List.getElem?_eq_getElem h1] at h3
 simpa using h3
def zL (ks:List (Int×Int)):List Slot:=ks.map fun k=>⟨k.1,k.2,0⟩
def paL (c:Config) (ks:List (Int×Int)) (i:Nat):List Slot:=(List.range ks.length).map fun j=>⟨(ks.getD j default).1,(ks.getD j default).2,if j<i then atI c j else 0⟩
theorem zL_push (ks:List (Int×Int)) (k:Int×Int):zL ks++[⟨k.1,k.2,0⟩]=zL (ks++[k]):=by simp [zL]
theorem zL_len (ks:List (Int×Int)):(zL ks).length=ks.length:=by simp [zL]
theorem paL_len (c:Config) (ks:List (Int×Int)) (i:Nat):(paL c ks i).length=ks.length:=by simp [paL]
theorem paL_zero (c:Config) (ks:List (Int×Int)):zL ks=paL c ks 0:=by
 refine List.ext_getElem (by simp [zL,paL]) fun i h1 h2 => ?_
 have:i<ks.length:=by simpa [zL] using h1
 simp [zL,paL,this]
theorem paL_all (c:Config) (ks:List (Int×Int)):paL c ks ks.length=slN c 0 ks:=by
 rw [slN_eq]
 unfold paL
 refine List.map_congr_left fun j hj => ?_
 rw [if_pos (List.mem_range.1 hj)]
 rfl
theorem paL_get (c:Config) (ks:List (Int×Int)) (i j:Nat) (hj:j<ks.length):(paL c ks i).getD j default=⟨(ks.getD j default).1,(ks.getD j default).2,if j<i then atI c j else 0⟩:=by
 rw [List.getD_eq_getElem?_getD,List.getElem?_eq_getElem (by rw [paL_len]; exact hj)]
 simp [paL]
theorem paL_step (c:Config) (ks:List (Int×Int)) {i:Nat} (h:i<ks.length):(paL c ks i).set i ⟨((paL c ks i).getD i default).kind,((paL c ks i).getD i default).node,atI c i⟩=paL c ks (i+1):=by
 rw [paL_get c ks i i h]
 refine List.ext_getElem (by simp [paL_len]) fun j h1 h2 => ?_
 rw [List.getElem_set]
 by_cases hij:i=j
 ·subst hij
  simp [paL]
 ·rw [if_neg hij]
  simp only [paL,List.getElem_map,List.getElem_range]
  congr 1
  by_cases hj:j<i
  ·rw [if_pos hj,if_pos oM]
  ·rw [if_neg hj,if_neg oM]
def gates (ps:List Port):List (Int×Int):=ps.flatMap fun p=>[(3,p.node),(4,p.node)]
def syncs (n:Nat):List (Int×Int):=(List.range n).map fun (i:Nat)=>((2:Int),(i:Int))
def datas (ps:List Port):List (Int×Int):=ps.map fun p=>(5,p.node)
def keysOf (ps:List Port) (n:Nat):List (Int×Int):=gates ps++syncs n++datas ps
theorem gates_len (ps:List Port):(gates ps).length=2*ps.length:=by
 induction ps with
 | nil=>rfl
 | cons p r ih=>simp only [gates,List.flatMap_cons,List.length_append,List.length_cons,List.length_nil] at ih ⊢; omega
theorem syncs_len (n:Nat):(syncs n).length=n:=by simp [syncs]
theorem datas_len (ps:List Port):(datas ps).length=ps.length:=by simp [datas]
theorem keysOf_len (ps:List Port) (n:Nat):(keysOf ps n).length=3*ps.length+n:=by
 simp only [keysOf,List.length_append,gates_len,syncs_len,datas_len]; omega
theorem take_one {α : Type} [Inhabited α] (l:List α) {i:Nat} (h:i<l.length):l.take (i+1)=l.take i++[l.getD i default]:=by
 rw [List.take_add_one,List.getElem?_eq_getElem h,List.getD_eq_getElem?_getD,List.getElem?_eq_getElem h]; rfl
theorem gates_app (a b:List Port):gates (a++b)=gates a++gates b:=by simp [gates]
theorem datas_app (a b:List Port):datas (a++b)=datas a++datas b:=by simp [datas]
theorem gates_one (ps:List Port) {i:Nat} (h:i<ps.length):gates (ps.take (i+1))=gates (ps.take i)++[(3,(ps.getD i default).node)]++[(4,(ps.getD i default).node)]:=by
 rw [take_one ps h,gates_app,List.append_assoc]; rfl
theorem datas_one (ps:List Port) {i:Nat} (h:i<ps.length):datas (ps.take (i+1))=datas (ps.take i)++[(5,(ps.getD i default).node)]:=by
 rw [take_one ps h,datas_app]; rfl
theorem syncs_one (n:Nat):syncs (n+1)=syncs n++[(2,(n:Int))]:=by simp [syncs,List.range_succ]
def nodesI (c:Config) (part:Int):Int:=(c.parts.getD part.toNat default).nodes
def slotsOf (c:Config) (part:Int):List Slot:=if fitB c=true∧isB part c.parts.length=true then slN c 0 (keysOf (portsOf c part) (nodesI c part).toNat) else []
def seekI (p:Nat→Bool):Nat→Nat→Int
 | 0,_ => -1
 | k+1,i=>if p i=true then (i:Int) else seekI p k (i+1)
theorem seek_is (p:Nat→Bool):∀ (n i:Nat),seekI p n i = -1∨∃ j,i≤j∧j<i+n∧p j=true∧seekI p n i=(j:Int)
 | 0,i => .inl rfl
 | n+1,i=>by
  unfold seekI
  by_cases hi:p i=true
  ·rw [if_pos hi]; exact .inr ⟨i,Nat.le_refl _,by omega,hi,rfl⟩
  ·rw [if_neg hi]
   rcases seek_is p n (i+1) with h|⟨j,h1,h2,h3,h4⟩
   ·exact .inl h
   ·exact .inr ⟨j,by omega,by omega,h3,h4⟩
def atB (kind node:Int) (s:Slot):Bool:=(s.kind == kind)&&(s.node == node)
def findI (c:Config) (part kind node:Int):Int:=seekI (fun i=>atB kind node ((slotsOf c part).getD i default)) (slotsOf c part).length 0
theorem fit_good {c:Config} (h:fitB c=true):(checkP c).1=0∧condI c=0:=by
 simpa only [fitB,Bool.and_eq_true,decide_eq_true_eq] using h
theorem tnodes_in {c:Config} (h:fitB c=true) {part:Int} (hp:isB part c.parts.length=true):1≤nodesI c part∧nodesI c part≤12:=by
 rw [isB_true] at hp
 exact nodes_in (fit_good h).1 (i:=part.toNat) oM
theorem slotsOf_len (c:Config) (part:Int):(slotsOf c part).length≤48:=by
 unfold slotsOf
 split
 ·rename_i h
  have h1:=tnodes_in h.1 h.2
  have h2:=portsOf_len c part
  rw [slN_len,keysOf_len]
  omega
 ·exact Nat.zero_le _
end Go.Proofs.YtdomlccfjnkbjaaGreatDoor.Pl
namespace Go.Proofs.YtdomlccfjnkbjaaGreatDoor.Pl
open Go.RowKit Go.Proofs.YtdomlccfjnkbjaaGreatDoor.Sm Go.Proofs.YtdomlccfjnkbjaaGreatDoor.Dp
open Go.Proofs.YtdomlccfjnkbjaaGreatDoor.Fr (bare frD frC decX errOf frOf noOf atOf WfA wfA_dec bytesOf mayB)
set_option maxHeartbeats 4000000
set_option maxRecDepth 100000
set_option linter.unusedVariables false
set_option linter.unusedSimpArgs false
structure Say where
 slot:Int
 bytes:List UInt8
 at_:Int
deriving Inhabited
def Say.d (s:Say):List D:=[I s.slot,bytesD s.bytes,I s.at_]
def ageX (c:Config) (a:Int):Bool:=decide (a<0)||decide (a>goneR c)
def agesB (c:Config) (l:List Int):Bool:=((l.length:Int) == (c.parts.length:Int)) && !(l.any (ageX c))
def atLinkB (node link:Int) (p:Port):Bool:=(p.node == node)&&(p.link == link)
def linkB (ps:List Port) (node link:Int):Bool:=ps.any (atLinkB node link)
def suitsB (k s:Int):Bool:=(k == s)||((k == (1:Int))&&(s == (2:Int)))
def pathB (c:Config) (f:Frame):Bool:=isB f.frm c.parts.length&&isB f.to c.parts.length&&(f.frm != f.to)
def tailB (c:Config) (part:Int) (f:Frame):Bool :=
 if f.kind=2 then agesB c f.ages else if f.kind=3 then linkB (portsOf c part) f.node f.link else if f.kind=4 then linkB (portsOf c part) f.node f.link&&agesB c f.ages
 else if f.kind=5 then linkB (portsOf c part) f.node f.link&&pathB c f else true
def fitF (c:Config) (part:Int) (s:Slot) (f:Frame):Bool:=(f.part == part)&&(f.node == s.node)&&suitsB f.kind s.kind&&tailB c part f
def fitS (c:Config) (part slot:Int) (f:Frame):Bool:=isB slot (slotsOf c part).length&&fitF c part ((slotsOf c part).getD slot.toNat default) f
def inSlot (i:Int) (s:Say):Bool:=s.slot == i
def sayI (says:List Say) (i:Int):Int:=seekI (fun k=>inSlot i (says.getD k default)) says.length 0
def deafB (c:Config) (part:Int) (x:Guard) (ppm:Int) (says:List Say) (lost:List Int) (i:Nat):Bool:=decide (sayI says i<0)||lost.contains (i:Int) || !passB x ((slotsOf c part).getD i default).at_ ppm c.window (says.getD (sayI says i).toNat default).at_
def badB (c:Config) (part:Int) (says:List Say) (i:Nat):Bool:=(noOf (errOf (decX (says.getD (sayI says i).toNat default).bytes)) != (0:Int)) || !fitS c part i (frOf (decX (says.getD (sayI says i).toNat default).bytes))
def soundOf (says:List Say) (i:Nat):Heard:=⟨i,frOf (decX (says.getD (sayI says i).toNat default).bytes),(says.getD (sayI says i).toNat default).at_⟩
def heardN (c:Config) (part:Int) (x:Guard) (ppm:Int) (says:List Say) (lost:List Int):Nat→List Heard
 | 0=>[]
 | i+1=>if deafB c part x ppm says lost i=true∨badB c part says i=true then heardN c part x ppm says lost i else heardN c part x ppm says lost i++[soundOf says i]
def badN (c:Config) (part:Int) (x:Guard) (ppm:Int) (says:List Say) (lost:List Int):Nat→Nat
 | 0=>0
 | i+1=>if deafB c part x ppm says lost i=false∧badB c part says i=true then badN c part x ppm says lost i+1 else badN c part x ppm says lost i
def heardOf (c:Config) (part:Int) (x:Guard) (ppm:Int) (says:List Say) (lost:List Int):List Heard:=heardN c part x ppm says lost (slotsOf c part).length
def badOf (c:Config) (part:Int) (x:Guard) (ppm:Int) (says:List Say) (lost:List Int):Nat:=badN c part x ppm says lost (slotsOf c part).length
theorem any_seek {α : Type} [Inhabited α] (p : α → Bool) (l:List α):decide (seekI (fun k=>p (l.getD k default)) l.length 0≥0)=l.any p:=by
  rw [Bool.eq_iff_iff,decide_eq_true_eq,List.any_eq_true]
  rcases seek_is (fun k=>p (l.getD k default)) l.length 0 with h|⟨j,h1,h2,h3,h4⟩
  · refine ⟨fun hh=>absurd hh (by rw [h]; decide),fun ⟨x,hx,hp⟩ => ?_⟩
    exfalso
    obtain ⟨i,hi,rfl⟩:=List.mem_iff_getElem.1 hx
    have key:∀ (n m:Nat),m≤i→i<m+n→seekI (fun k=>p (l.getD k default)) n m ≠ -1:=by
      intro n
      induction n with
      | zero=>intro m _ _; omega
      | succ n ih =>
        intro m hm hn
        unfold seekI
        split
        · omega
        · rename_i hq
          refine ih (m+1) ?_ oM
          rcases Nat.lt_or_ge m i with hl|hg
          · exact hl
          · exfalso
            have:m=i:=by omega
            subst this
            exact hq (by simp [List.getD_eq_getElem?_getD,List.getElem?_eq_getElem hi,hp])
    exact key l.length 0 (Nat.zero_le _) oM h
  · refine ⟨fun _=>⟨l.getD j default,?_,h3⟩,fun _=>by rw [h4]; omega⟩
    rw [List.getD_eq_getElem?_getD,List.getElem?_eq_getElem oM]
    exact List.getElem_mem _
theorem say_in (says:List Say) (i:Int):sayI says i = -1∨∃ k:Nat,k<says.length∧sayI says i=(k:Int):=by
 rcases seek_is (fun k=>inSlot i (says.getD k default)) says.length 0 with h|⟨j,h1,h2,h3,h4⟩
 ·exact .inl h
 ·exact .inr ⟨j,by omega,h4⟩
section
variable {c:Config} {part:Int} {x:Guard} {ppm:Int} {says:List Say} {lost:List Int}
theorem heardN_len (n:Nat):(heardN c part x ppm says lost n).length≤n:=by
 induction n with
 | zero=>exact Nat.le_refl _
 | succ n ih =>
  unfold heardN
  split
  ·omega
  ·simp only [List.length_append,List.length_cons,List.length_nil]
   omega
theorem badN_le (n:Nat):badN c part x ppm says lost n≤n:=by
 induction n with
 | zero=>exact Nat.le_refl _
 | succ n ih =>
  unfold badN
  split <;> omega
theorem heard_deaf {i:Nat} (h:deafB c part x ppm says lost i=true):heardN c part x ppm says lost (i+1)=heardN c part x ppm says lost i∧badN c part x ppm says lost (i+1)=badN c part x ppm says lost i :=
 ⟨if_pos (.inl h),if_neg fun hh=>by rw [h] at hh; exact Bool.noConfusion hh.1⟩
theorem heard_bad {i:Nat} (h:deafB c part x ppm says lost i=false) (hb:badB c part says i=true):heardN c part x ppm says lost (i+1)=heardN c part x ppm says lost i∧badN c part x ppm says lost (i+1)=badN c part x ppm says lost i+1 :=
 ⟨if_pos (.inr hb),if_pos ⟨h,hb⟩⟩
theorem heard_yes {i:Nat} (h:deafB c part x ppm says lost i=false) (hb:badB c part says i=false):heardN c part x ppm says lost (i+1)=heardN c part x ppm says lost i++[soundOf says i]∧badN c part x ppm says lost (i+1)=badN c part x ppm says lost i :=
 ⟨if_neg (by rw [h,hb]; simp),if_neg (by rw [hb]; simp)⟩
end
theorem slots_kind {c:Config} {part:Int} {i:Nat} (hi:i<(slotsOf c part).length):(((slotsOf c part).getD i default).kind=2)∨(∃ p ∈ portsOf c part,p.node=((slotsOf c part).getD i default).node∧(((slotsOf c part).getD i default).kind=3∨((slotsOf c part).getD i default).kind=4∨((slotsOf c part).getD i default).kind=5)):=by
 unfold slotsOf at hi ⊢
 split at hi
 ·rename_i hf
  rw [if_pos hf]
  rw [slN_len] at hi
  rw [slN_get _ _ _ _ hi]
  have hm:(keysOf (portsOf c part) (nodesI c part).toNat).getD i default ∈ keysOf (portsOf c part) (nodesI c part).toNat:=by
   rw [List.getD_eq_getElem?_getD,List.getElem?_eq_getElem hi]
   exact List.getElem_mem hi
  generalize (keysOf (portsOf c part) (nodesI c part).toNat).getD i default=k at hm
  show k.1=2∨∃ p ∈ portsOf c part,p.node=k.2∧(k.1=3∨k.1=4∨k.1=5)
  simp only [keysOf,List.mem_append,gates,syncs,datas,List.mem_flatMap,List.mem_map,List.mem_cons,List.not_mem_nil,or_false] at hm
  rcases hm with (⟨p,hp,rfl|rfl⟩|⟨a,_,rfl⟩)|⟨p,hp,rfl⟩
  ·exact .inr ⟨p,hp,rfl,.inl rfl⟩
  ·exact .inr ⟨p,hp,rfl,.inr (.inl rfl)⟩
  ·exact .inl rfl
  ·exact .inr ⟨p,hp,rfl,.inr (.inr rfl)⟩
 ·exact absurd hi (Nat.not_lt_zero _)
theorem link_port {c:Config} {part node link:Int} {p:Port} (hp:p ∈ portsOf c part) (hn:p.node=node):linkB (portsOf c part) node link=(link == ((portQ c part node).getD ⟨0,0,0,0⟩).link):=by
 have hq:=(mem_portsOf c part p).1 hp
 rw [hn] at hq
 rw [hq,Option.getD_some,Bool.eq_iff_iff]
 simp only [linkB,atLinkB,List.any_eq_true,Bool.and_eq_true,beq_iff_eq]
 constructor
 ·rintro ⟨q,h1,h2,h3⟩
  have h4:=(mem_portsOf c part q).1 h1
  rw [h2,hq] at h4
  injection h4 with h4
  rw [h4,h3]
 ·intro h
  exact ⟨p,hp,hn,h.symm⟩
def askB (c:Config) (part:Int) (s:Slot) (f:Frame):Bool :=
 (!(decide (f.kind=2)||decide (f.kind=4))||agesB c f.ages)&&(!(decide (f.kind=3)||decide (f.kind=4)||decide (f.kind=5))||(f.link == ((portQ c part s.node).getD ⟨0,0,0,0⟩).link))&&(!decide (f.kind=5)||pathB c f)
theorem tail_ask {c:Config} {part:Int} {i:Nat} {f:Frame} (hi:i<(slotsOf c part).length) (hn:f.node=((slotsOf c part).getD i default).node) (hk:suitsB f.kind ((slotsOf c part).getD i default).kind=true):tailB c part f=askB c part ((slotsOf c part).getD i default) f:=by
 have hs:=slots_kind hi
 generalize (slotsOf c part).getD i default=s at hs hn hk ⊢
 unfold suitsB at hk
 simp only [Bool.or_eq_true,Bool.and_eq_true,beq_iff_eq] at hk
 by_cases h345:f.kind=3∨f.kind=4∨f.kind=5
 ·rcases hs with hs|⟨p,hp,hpn,_⟩
  ·exfalso
   omega
  ·have hl:=link_port (link:=f.link) hp (hpn.trans hn.symm)
   unfold tailB askB
   rw [hl,hn]
   rcases h345 with h|h|h <;> simp [h,Bool.and_comm]
 ·unfold tailB askB
  have h3:f.kind≠3:=fun h=>h345 (.inl h)
  have h4:f.kind≠4:=fun h=>h345 (.inr (.inl h))
  have h5:f.kind≠5:=fun h=>h345 (.inr (.inr h))
  by_cases h2:f.kind=2 <;> simp [h2,h3,h4,h5]
end Go.Proofs.YtdomlccfjnkbjaaGreatDoor.Pl
