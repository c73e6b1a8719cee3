/- Package plan's Port and Far. -/
import Derived.Test.YtgklghpkfmoogaaGreatDoorPlS
import Derived.Test.YtgklghpkfmoogaaGreatDoorPlLaw
import Derived.Test.YtgklghpkfmoogaaGreatDoorHpTwo
namespace Go.Proofs.YtgklghpkfmoogaaGreatDoor.Pl
open Go.RowKit Go.Proofs.YtgklghpkfmoogaaGreatDoor.Sm Go.Proofs.YtgklghpkfmoogaaGreatDoor.Dp
set_option maxHeartbeats 4000000
set_option maxRecDepth 100000
set_option linter.unusedVariables false
set_option linter.unusedSimpArgs false
def portQ (c:Config) (part node:Int):Option Port:=if (checkP c).1=0∧isB part c.parts.length=true then portP c.links part node c.links.length else none
theorem getD_mem {l:List Port} {i:Nat} (h:i<l.length):l.getD i default ∈ l:=by
 rw [List.getD_eq_getElem?_getD,List.getElem?_eq_getElem h]; exact List.getElem_mem h
theorem mem_getD {l:List Port} {p:Port} (h:p ∈ l):∃ i,i<l.length∧l.getD i default=p:=by
 obtain ⟨i,hi,e⟩:=List.mem_iff_getElem.1 h
 exact ⟨i,hi,by rw [List.getD_eq_getElem?_getD,List.getElem?_eq_getElem hi]; exact e⟩
theorem mem_portsOf (c:Config) (part:Int) (p:Port):p ∈ portsOf c part↔portQ c part p.node=some p:=by
 unfold portQ
 by_cases hc:(checkP c).1=0
 ·rw [← (portsOf_perm hc part).mem_iff]
  have hr:=raw_in (good_of hc) (part:=part) c.links.length (Nat.le_refl _)
  by_cases hb:isB part c.parts.length=true
  ·rw [if_pos ⟨hc,hb⟩]
   constructor
   ·intro hm
    cases hx:portP c.links part p.node c.links.length with
    | none=>exact absurd rfl (portP_none hx p hm)
    | some q =>
     have:=portP_mem hx
     rw [inj_of hr.2 q this.1 p hm this.2]
   ·exact fun h=>(portP_mem h).1
  ·rw [if_neg (fun h=>hb h.2)]
   constructor
   ·intro hm
    have:=hr.1 p hm
    rw [isB_true] at hb
    exact absurd ⟨this.1,this.2.1⟩ hb
   ·intro h; cases h
 ·rw [if_neg (fun h=>hc h.1)]
  unfold portsOf
  rw [if_neg (fun h=>hc h.1)]
  simp
theorem portQ_node {c:Config} {part node:Int} {p:Port} (h:portQ c part node=some p):p.node=node:=by
 unfold portQ at h
 split at h
 ·exact (portP_mem h).2
 ·cases h
theorem portQ_yes {c:Config} {part node:Int} {i:Nat} (hi:i<(portsOf c part).length) (he:((portsOf c part).getD i default).node=node):portQ c part node=some ((portsOf c part).getD i default):=by
 rw [← he]; exact (mem_portsOf c part _).1 (getD_mem hi)
theorem portQ_no {c:Config} {part node:Int} (h:∀ k,k<(portsOf c part).length→((portsOf c part).getD k default).node≠node):portQ c part node=none:=by
 cases hx:portQ c part node with
 | none=>rfl
 | some p =>
  have e:=portQ_node hx
  subst e
  obtain ⟨i,hi,e2⟩:=mem_getD ((mem_portsOf c part p).2 hx)
  exact absurd (by rw [e2]) (h i hi)
theorem portAt_form {l:Link} {i:Nat} {part node:Int} {p:Port} (h:portAt l i part node=some p):p.link=(i:Int)∧(p.gate=0∨p.gate=1)∧(p.side=0∨p.side=1):=by
 unfold portAt at h
 grind
theorem portP_form {ls:List Link} {part node:Int}:∀ {n:Nat} {p:Port},portP ls part node n=some p→(∃ i:Nat,i<n∧p.link=(i:Int))∧(p.gate=0∨p.gate=1)∧(p.side=0∨p.side=1)
 | 0,p,h=>by cases h
 | n+1,p,h=>by
  unfold portP at h
  split at h
  ·rename_i q hq
   injection h with h
   subst h
   obtain ⟨⟨i,h1,h2⟩,h3⟩:=portP_form hq
   exact ⟨⟨i,by omega,h2⟩,h3⟩
  ·have:=portAt_form h
   exact ⟨⟨n,by omega,this.1⟩,this.2⟩
theorem portQ_form {c:Config} {part node:Int} {p:Port} (h:portQ c part node=some p):∃ i:Nat,i<c.links.length∧∃ g s:Int,p=⟨node,i,g,s⟩∧(g=0∨g=1)∧(s=0∨s=1):=by
 have hn:=portQ_node h
 unfold portQ at h
 split at h
 ·obtain ⟨⟨i,h1,h2⟩,h3,h4⟩:=portP_form h
  obtain ⟨a,b,g,s⟩:=p
  dsimp only at *
  subst hn h2
  exact ⟨i,h1,g,s,rfl,h3,h4⟩
 ·cases h
def farQ (c:Config) (part node:Int):Option (Int×Int):=match portQ c part node with
 | none=>none
 | some p=>some (if p.side=0 then ((c.links.getD p.link.toNat default).b,if p.gate=0 then (c.links.getD p.link.toNat default).pb0 else (c.links.getD p.link.toNat default).pb1) else ((c.links.getD p.link.toNat default).a,if p.gate=0 then (c.links.getD p.link.toNat default).pa0 else (c.links.getD p.link.toNat default).pa1))
def farD (o:Option (Int×Int)):D:=D.t [I (o.getD (0,0)).1,I (o.getD (0,0)).2,D.v (.bool o.isSome)]
end Go.Proofs.YtgklghpkfmoogaaGreatDoor.Pl
