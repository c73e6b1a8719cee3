/- What the document's own Encode returns: the bytes. -/
import Derived.Test.YtdomlccfjnkbjaaGreatDoorPlReach
import Derived.Test.YtdomlccfjnkbjaaGreatDoorPlS
import Derived.Test.YtdomlccfjnkbjaaGreatDoorSmA
import Derived.Test.YtdomlccfjnkbjaaGreatDoorSmOpen
import Derived.RegionTactic
import Derived.ChangeAlike
import Derived.Deep.QuietTactic
import Derived.BigQuiet
import Derived.Deep.Draws
import Derived.Deep.RegionWith
import Derived.Test.YtdomlccfjnkbjaaGreatDoorFrAlive
import Derived.Test.YtdomlccfjnkbjaaGreatDoorPlTwelve
namespace Go.Proofs.YtdomlccfjnkbjaaGreatDoor.Pl
open Go.RowKit Go.Proofs.YtdomlccfjnkbjaaGreatDoor.Sm Go.Proofs.YtdomlccfjnkbjaaGreatDoor.Dp
set_option maxHeartbeats 4000000
set_option maxRecDepth 100000
set_option linter.unusedVariables false
set_option linter.unusedSimpArgs false
def goodB (c:Config) (part:Int):Bool:=((checkR c).1 == (0:Int))&&isB part c.parts.length
theorem drumlineref5_Good_pc (c:Config) (part:Int) (hp0:c.parts.length<1000000) (hl0:c.links.length<1000000):PC Tryz.prog [] 57 [D.r (Config.d c),I part] (· = D.v (.bool (goodB c part))):=by
 refine PC.of (N:=21) Tryz.func57 rfl rfl (Nat.le_of_ble_eq_true rfl) ?_
 refine PW.a [1,2] 1 (PW.w 1 [1,2,8] 1 (PL.gc (A:=[]) (fun _=>drumlineref5_Check_pc c hp0 hl0) (PL.n 5 [1,2,5] 1 (PW.w 7 [14,15,18] 1 (PL.gc (A:=[(14,true)]) (fun _=>drumlineref5_is_pc part (c.parts.length:Int)) (PL.n 2 [4] 1 (PW.ret ?_)))))))
 refine rq (D.v (.bool ((((checkR c).1) == (0:Int))&&(isB part (c.parts.length:Int))))) ?_
 rfl
def portQ (c:Config) (part node:Int):Option Port:=if (checkP c).1=0∧isB part c.parts.length=true then portP c.links part node c.links.length else none
theorem mem_portsOf (c:Config) (part:Int) (p:Port):p ∈ portsOf c part↔portQ c part p.node=some p:=by
 unfold portQ
 by_cases hc:(checkP c).1=0
 ·rw [← (portsOf_perm hc part).mem_iff]
  have hr:=raw_in (good_of hc) (part:=part) c.links.length (Nat.le_refl _)
  by_cases hb:isB part c.parts.length=true
  ·rw [if_pos ⟨hc,hb⟩]
   constructor
   ·intro hm
    cases hx:portP c.links part p.node c.links.length with
    | none=>exact absurd rfl (portP_none hx p hm)
    | some q =>
     have:=portP_mem hx
     rw [inj_of hr.2 q this.1 p hm this.2]
   ·exact fun h=>(portP_mem h).1
  ·rw [if_neg (fun h=>hb h.2)]
   constructor
   ·intro hm
    have:=hr.1 p hm
    rw [isB_true] at hb
    exact absurd ⟨this.1,this.2.1⟩ hb
   ·intro h; cases h
 ·rw [if_neg (fun h=>hc h.1)]
  unfold portsOf
  rw [if_neg (fun h=>hc h.1)]
  simp
theorem portAt_form {l:Link} {i:Nat} {part node:Int} {p:Port} (h:portAt l i part node=some p):p.link=(i:Int)∧(p.gate=0∨p.gate=1)∧(p.side=0∨p.side=1):=by
 unfold portAt at h
 grind
theorem portP_form {ls:List Link} {part node:Int}:∀ {n:Nat} {p:Port},portP ls part node n=some p→(∃ i:Nat,i<n∧p.link=(i:Int))∧(p.gate=0∨p.gate=1)∧(p.side=0∨p.side=1)
 | 0,p,h=>by cases h
 | n+1,p,h=>by
  unfold portP at h
  split at h
  ·rename_i q hq
   injection h with h
   subst h
   obtain ⟨⟨i,h1,h2⟩,h3⟩:=portP_form hq
   exact ⟨⟨i,by omega,h2⟩,h3⟩
  ·have:=portAt_form h
   exact ⟨⟨n,by omega,this.1⟩,this.2⟩
end Go.Proofs.YtdomlccfjnkbjaaGreatDoor.Pl
namespace Go.Proofs.YtdomlccfjnkbjaaGreatDoor.Sm
open Go.ChangeShapes Go.WideShapes Go.ChangeAt Go.RowKit
set_option maxHeartbeats 400000
theorem copyR_calls (a:Option Addr) (n c:Nat) (l:List UInt8) (w:World) (hr:Row8 w w.heap.size a n c l) (hn:n≤1000000000) :
  Calls Tryz.prog 73 #[.slice a n c] w fun e w'=>RetMade w 5 l e w':=by
 obtain ⟨i0,hi0,hz0,hz1,hz2⟩:=info_parts byte_info
 have HR:=hid hr
 clear hr
 go_enter Tryz.func73,Tryz.ntmps73
 go_wp2_with (at_builtin; refine wpList_append_row _ rfl _ _ _ rfl w.heap.size 5 i0 _ Tryz.underlying23 hi0 hz0 hz1 hz2 rfl (.slice none 0 0) [] rfl (World.ownsRow_nil _ _ _ _) _ a n c l rfl HR.out (by simp; omega) (Nat.le_refl _) ?_; intro v1 w1 hown hgrow hlt)
 go_ret
 exact ⟨_,rfl,hown,(Below.refl _ _).grown hgrow (Nat.le_refl _) hlt⟩
theorem sealR_calls (a:Option Addr) (n c:Nat) (l:List UInt8) (w:World) (hr:Row8 w w.heap.size a n c l) (hn:n≤1000000) :
  Calls Tryz.prog 45 #[.slice a n c] w fun e w'=>RetMade w 5 (sealB l) e w':=by
 obtain ⟨i0,hi0,hz0,hz1,hz2⟩:=info_parts byte_info
 have HR:=hid hr
 clear hr
 go_enter Tryz.func45,Tryz.ntmps45
 go_wp2_with (first|(go_at_call 72; refine (ofR_calls a n c l _ _ HR.out).mono ?_; rintro e w' ⟨rfl,rfl⟩)|(go_at_call 73; refine (copyR_calls a n c l _ HR.out oM).mono ?_; rintro e w2 ⟨v2,rfl,hown2,hb2⟩)|(at_builtin; refine stop ?_))
 unfold Stop
 refine wpList_append_row _ rfl _ _ _ rfl w.heap.size 5 i0 _ Tryz.underlying23 hi0 hz0 hz1 hz2 rfl v2 l rfl (hown2.alloc _) _ _ 4 4 (tail4 (of l)) rfl (Row8.lit w2 _ _ _ 4 rfl (by decide) (bytes_of (of l)).symm) (by have:=HR.out.len; omega) (by have:=hb2.size; simp; omega) ?_
 intro v3 w3 hown3 hgrow3 hlt3
 go_wp2
 go_ret
 exact ⟨_,rfl,hown3,(hb2.alloc hb2.size _).grown hgrow3 (by have:=hb2.size; simp; omega) hlt3⟩
set_option maxRecDepth 100000
theorem openR_calls (a:Option Addr) (n c:Nat) (l:List UInt8) (w:World) (hr:Row8 w w.heap.size a n c l) (hn:n≤1000000) :
  Calls Tryz.prog 95 #[.slice a n c] w fun e w'=>RetOpen w 5 l e w':=by
 have HR:=hid hr
 have hc:=hr.cap
 have hnc:=hr.room
 unfold maxLen at hc
 have HL:=hid hr.len
 clear hr
 by_cases h4:n<4
 ·go_enter Tryz.func95,Tryz.ntmps95
  go_wp2
  go_ret2
  have hs:isSealed l=false:=isSealed_short (by rw [HL.out]; exact h4)
  refine ⟨.slice none 0 0,by rw [hs]; rfl,?_⟩
  rw [inner_no hs]
  exact ⟨World.ownsRow_nil _ _ _ _,Below.refl _ _⟩
 ·obtain ⟨b,off,rfl,hb,hcell⟩:=HR.out.cells oM
  clear hcell
  obtain ⟨k,rfl⟩:∃ k,n=k+4:=⟨n-4,by omega⟩
  have HI:=hid (HR.out.take (k:=k) oM)
  have hs:=isSealed_whole HL.out
  have hv0:=conv_str (HR.out.drew) Tryz.underlying23 Tryz.underlying5 Tryz.underlying9
  by_cases hd:sealB (l.take k)=l
  ·have hs':=hid (hs.trans (by simp [hd]):isSealed l=true)
   clear hs
   have ht:((str (sealB (l.take k))).toList == (str l).toList)=true:=by rw [str_eq]; simp [hd]
   clear hd
   go_enter Tryz.func95,Tryz.ntmps95
   go_wp2
   go_region_with (go_at_call 45; refine (sealR_calls _ k c (l.take k) _ (HI.out.drew) oM).mono ?_; rintro e w1 ⟨v1,rfl,hm1⟩; obtain ⟨a1,c1,rfl,hr1,hb1⟩:=hm1.slice; have hv1:=conv_str hr1 Tryz.underlying23 Tryz.underlying5 Tryz.underlying9; have hv2:=conv_str (HR.out.drew.below hb1) Tryz.underlying23 Tryz.underlying5 Tryz.underlying9)
   all_goals
    clear hv0 hv1 hv2
    go_wp2_with (go_at_call 73; refine (copyR_calls _ k c (l.take k) _ (HI.out.drew.later hb1) oM).mono ?_; rintro e w2 ⟨v,rfl,hown,hbel⟩)
    go_ret2
    refine ⟨v,by rw [hs'.out]; rfl,?_⟩
    rw [inner_yes hs'.out,HL.out,Nat.add_sub_cancel]
    exact made_later (below_dr hb1) ⟨hown,hbel⟩
  ·have hs':=hid (hs.trans (by simp [hd]):isSealed l=false)
   clear hs
   have ht:((str (sealB (l.take k))).toList == (str l).toList)=false:=by rw [str_eq]; simp [hd]
   clear hd
   go_enter Tryz.func95,Tryz.ntmps95
   go_wp2
   go_region_with (go_at_call 45; refine (sealR_calls _ k c (l.take k) _ (HI.out.drew) oM).mono ?_; rintro e w1 ⟨v1,rfl,hm1⟩; obtain ⟨a1,c1,rfl,hr1,hb1⟩:=hm1.slice; have hv1:=conv_str hr1 Tryz.underlying23 Tryz.underlying5 Tryz.underlying9; have hv2:=conv_str (HR.out.drew.below hb1) Tryz.underlying23 Tryz.underlying5 Tryz.underlying9)
   all_goals
    clear hv0 hv1 hv2
    go_wp2
    go_ret2
    refine ⟨.slice none 0 0,by rw [hs'.out]; rfl,?_⟩
    rw [inner_no hs'.out]
    exact ⟨World.ownsRow_nil _ _ _ _,below_dr hb1⟩
end Go.Proofs.YtdomlccfjnkbjaaGreatDoor.Sm
namespace Go.Proofs.YtdomlccfjnkbjaaGreatDoor.Fr
open Go.ChangeShapes Go.WideShapes Go.ChangeAt Go.RowKit Go.Proofs.YtdomlccfjnkbjaaGreatDoor.Sm Go.Proofs.YtdomlccfjnkbjaaGreatDoor.Wr
set_option maxHeartbeats 4000000
set_option maxRecDepth 100000
set_option linter.unusedVariables false
theorem plainL_be {n:Int} (k:Nat) (hk:1≤k∧k≤7) (h0:0≤n) (h1:n<256^k):plainL n k=be n.toNat k:=by
 have hb:plainB n k=true:=by unfold plainB; exact decide_eq_true ⟨by omega,h0,by simpa using h1⟩
 unfold plainL
 rw [if_pos hb]
 rfl
theorem ages_be {l:List Int} (h:agesOk l=true):plainL l.length 1++agesL l=be l.length 1++agesB l:=by
 obtain ⟨⟨h1,h2⟩,h3⟩:=agesOk_iff.1 h
 rw [show plainL (l.length:Int) 1=be l.length 1 from plainL_be (n:=(l.length:Int)) 1 oM oM oM]
 congr 1
 unfold agesL agesB
 exact congrArg List.flatten (List.map_congr_left fun x hx=>plainL_be 1 oM (h3 x hx).1 (by have:=(h3 x hx).2; omega))
theorem encL_1 {f:Frame} (hm:mayB f=true) (hk:f.kind=1):((((([]:List UInt8)++plainL f.kind 1)++plainL f.part 1)++plainL f.node 1)++plainL f.wait 2)=enc f:=by
 obtain ⟨⟨g1,g2,g3⟩,g4,g5,g6,g7⟩:=may_iff.1 hm
 unfold enc tailL
 rw [show plainL f.kind 1=be (f.kind).toNat 1 from plainL_be 1 oM oM oM]
 rw [show plainL f.part 1=be (f.part).toNat 1 from plainL_be 1 oM oM oM]
 rw [show plainL f.node 1=be (f.node).toNat 1 from plainL_be 1 oM oM oM]
 rw [show plainL f.wait 2=be (f.wait).toNat 2 from plainL_be 2 oM oM oM]
 simp [hk]
theorem encL_2 {f:Frame} (hm:mayB f=true) (hk:f.kind=2):((((((([]:List UInt8)++plainL f.kind 1)++plainL f.part 1)++plainL f.node 1)++plainL f.cycle 6)++plainL f.mask 2)++(plainL f.ages.length 1++agesL f.ages))=enc f:=by
 obtain ⟨⟨g1,g2,g3⟩,g4,g5,g6,g7⟩:=may_iff.1 hm
 unfold enc tailL
 rw [show plainL f.kind 1=be (f.kind).toNat 1 from plainL_be 1 oM oM oM]
 rw [show plainL f.part 1=be (f.part).toNat 1 from plainL_be 1 oM oM oM]
 rw [show plainL f.node 1=be (f.node).toNat 1 from plainL_be 1 oM oM oM]
 rw [show plainL f.cycle 6=be (f.cycle).toNat 6 from plainL_be 6 oM oM oM]
 rw [show plainL f.mask 2=be (f.mask).toNat 2 from plainL_be 2 oM oM oM]
 rw [ages_be (g5 (.inl hk))]
 simp [hk]
theorem encL_3 {f:Frame} (hm:mayB f=true) (hk:f.kind=3):(((((((([]:List UInt8)++plainL f.kind 1)++plainL f.part 1)++plainL f.node 1)++plainL f.link 1)++plainL (if f.flag=true then (1:Int) else 0) 1)++plainL f.cycle 6)++signedL f.offset 6)=enc f:=by
 obtain ⟨⟨g1,g2,g3⟩,g4,g5,g6,g7⟩:=may_iff.1 hm
 unfold enc tailL
 rw [show plainL f.kind 1=be (f.kind).toNat 1 from plainL_be 1 oM oM oM]
 rw [show plainL f.part 1=be (f.part).toNat 1 from plainL_be 1 oM oM oM]
 rw [show plainL f.node 1=be (f.node).toNat 1 from plainL_be 1 oM oM oM]
 rw [show plainL f.link 1=be (f.link).toNat 1 from plainL_be 1 oM oM oM]
 rw [show plainL (if f.flag=true then (1:Int) else 0) 1=be f.flag.toNat 1 by cases f.flag <;> rfl]
 rw [show plainL f.cycle 6=be (f.cycle).toNat 6 from plainL_be 6 oM oM oM]
 simp [hk]
theorem encL_4 {f:Frame} (hm:mayB f=true) (hk:f.kind=4):(((((([]:List UInt8)++plainL f.kind 1)++plainL f.part 1)++plainL f.node 1)++plainL f.link 1)++(plainL f.ages.length 1++agesL f.ages))=enc f:=by
 obtain ⟨⟨g1,g2,g3⟩,g4,g5,g6,g7⟩:=may_iff.1 hm
 unfold enc tailL
 rw [show plainL f.kind 1=be (f.kind).toNat 1 from plainL_be 1 oM oM oM]
 rw [show plainL f.part 1=be (f.part).toNat 1 from plainL_be 1 oM oM oM]
 rw [show plainL f.node 1=be (f.node).toNat 1 from plainL_be 1 oM oM oM]
 rw [show plainL f.link 1=be (f.link).toNat 1 from plainL_be 1 oM oM oM]
 rw [ages_be (g5 (.inr hk))]
 simp [hk]
theorem encL_5 {f:Frame} {n':Nat} (hm:mayB f=true) (hla:f.body.length=n') (hk:f.kind=5):(((((((((([]:List UInt8)++plainL f.kind 1)++plainL f.part 1)++plainL f.node 1)++plainL f.link 1)++plainL f.frm 1)++plainL f.to 1)++plainL f.seq 4)++plainL (n':Int) 1)++f.body)=enc f:=by
 obtain ⟨⟨g1,g2,g3⟩,g4,g5,g6,g7⟩:=may_iff.1 hm
 unfold enc tailL
 rw [show plainL f.kind 1=be (f.kind).toNat 1 from plainL_be 1 oM oM oM]
 rw [show plainL f.part 1=be (f.part).toNat 1 from plainL_be 1 oM oM oM]
 rw [show plainL f.node 1=be (f.node).toNat 1 from plainL_be 1 oM oM oM]
 rw [show plainL f.link 1=be (f.link).toNat 1 from plainL_be 1 oM oM oM]
 rw [show plainL f.frm 1=be (f.frm).toNat 1 from plainL_be 1 oM oM oM]
 rw [show plainL f.to 1=be (f.to).toNat 1 from plainL_be 1 oM oM oM]
 rw [show plainL f.seq 4=be (f.seq).toNat 4 from plainL_be 4 oM oM oM]
 rw [show plainL (n':Int) 1=be ((n':Int)).toNat 1 from plainL_be 1 oM oM oM]
 simp [hk,hla]
end Go.Proofs.YtdomlccfjnkbjaaGreatDoor.Fr
