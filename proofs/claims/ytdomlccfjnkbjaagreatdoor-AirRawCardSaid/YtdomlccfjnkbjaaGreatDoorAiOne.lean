/- Chapter 11: package air: a bus, and what may be sent. -/
import Derived.Test.YtdomlccfjnkbjaaGreatDoorAiDef
import Derived.Test.YtdomlccfjnkbjaaGreatDoorAiLaid
import Derived.Test.YtdomlccfjnkbjaaGreatDoorTbTwo
import Derived.Test.YtdomlccfjnkbjaaGreatDoorLsArg
namespace Go.Proofs.YtdomlccfjnkbjaaGreatDoor.Pl
open Go.RowKit Go.Proofs.YtdomlccfjnkbjaaGreatDoor.Sm Go.Proofs.YtdomlccfjnkbjaaGreatDoor.Dp
open Go.Proofs.YtdomlccfjnkbjaaGreatDoor.Fr (bare frD frC decX errOf frOf noOf atOf WfA wfA_dec bytesOf mayB)
set_option maxHeartbeats 4000000
set_option maxRecDepth 100000
set_option linter.unusedVariables false
set_option linter.unusedSimpArgs false
def busD (c:Config) (part:Int):List D:=[I part,I (c.parts.length:Int),I (goneR c),sl' 3 Slot.d (slotsOf c part),sl' 4 Port.d (portsOf c part)]
theorem wrapM (i:Nat) (h:i<maxLen):IntKind.i64.wrap ((i:Int)+1)=((i+1:Nat):Int):=by
 unfold maxLen at h
 rw [Ev.wrap_i64 oM oM]
 omega
theorem portsOf_len' (c:Config) (part:Int):(portsOf c part).length<1000000:=by have:=portsOf_len c part; omega
theorem air_busOf_pc (e:Nat→Addr) (hA:Apart4 e) (c:Config) (part:Int) (hp0:c.parts.length<1000000) (hl0:c.links.length<1000000):PC Tryz.prog (errG4 e) 24 [D.r (Config.d c),I part] (· = D.r (busD c part)):=by
 refine PC.of (N:=18) Tryz.func24 rfl rfl (Nat.le_of_ble_eq_true rfl) ?_
 refine PW.a [1,2,4] 2 (PW.seq (PW.open [1] kR ?_))
 refine PO.a [0,1,2,3,4,6,7,9,10] 14 [4,5,8,9,11,12,14,15] 5 (PO.one (n:=4) 5 kR ?_)
 refine PO1.gc _ (A:=[]) (fun _=>(bounds_Gone_pc e hA.1 c hp0 hl0).weak (errG4_sub e)) ?_ rfl
 refine PO.one (n:=3) 8 kR ?_
 refine PO1.gc _ (A:=[]) (fun _=>((table_Slots_pc0 e hA.1 c part hp0 hl0).list).weak (errG4_sub e)) ?_ rfl
 refine PO.one (n:=2) 11 kR ?_
 refine PO1.gc _ (A:=[]) (fun _=>(((plan_Ports_pc0 e c part hp0 hl0).list.weak (errG3_sub e))).weak (errG4_sub e)) ?_ rfl
 refine PO.one (n:=1) 12 kR (PO1.build (cs:=[I part,I (c.parts.length:Int),I (goneR c),sl' 3 Slot.d (slotsOf c part),sl' 4 Port.d (portsOf c part)]) rfl rfl kR kR kR (PO.one (n:=0) 13 kR ?_))
 refine PO1.a [4] 2 (PO.done kR ?_)
 show PW _ _ _ _ _
 refine PW.ret (rq (D.r [I part,I (c.parts.length:Int),I (goneR c),sl' 3 Slot.d (slotsOf c part),sl' 4 Port.d (portsOf c part)]) ?_)
 rfl
theorem air_suits_pc (k s:Int):PC Tryz.prog [] 52 [I k,I s] (· = D.v (.bool (suitsB k s))):=by
 refine PC.of (N:=16) Tryz.func52 rfl rfl (Nat.le_of_ble_eq_true rfl) ?_
 refine PW.a [0,1] 0 (PW.t [4] 0 (rq (D.v (.bool ((k == s)||((k == (1:Int))&&(s == (2:Int)))))) ?_))
 rfl
theorem bus_isPart_pc (c:Config) (part p:Int):PC Tryz.prog [] 55 [D.r (busD c part),I p] (· = D.v (.bool (isB p c.parts.length))):=by
 refine PC.of (N:=13) Tryz.func55 rfl rfl (Nat.le_of_ble_eq_true rfl) ?_
 refine PW.a [1,2] 1 (PW.t [4] 1 (rq (D.v (.bool ((decide (p≥(0:Int)))&&(decide (p<(c.parts.length:Int)))))) ?_))
 rfl
theorem bus_areAges1_pc (c:Config) (part a:Int):PC Tryz.prog [] 85 [I a,D.q [I part,I (c.parts.length:Int),I (goneR c),sl' 3 Slot.d (slotsOf c part),sl' 4 Port.d (portsOf c part)] 0] (· = D.v (.bool (ageX c a))):=by
 refine PC.of (N:=12) Tryz.func85 rfl rfl (Nat.le_of_ble_eq_true rfl) ?_
 refine PW.a [0,1] 0 (PW.t [3] 0 (rq (D.v (.bool ((decide (a<(0:Int)))||(decide (a>(goneR c)))))) ?_))
 rfl
theorem index_ages_pc (c:Config) (part:Int) (l:List Int) (hl:l.length≤maxLen):PC Tryz.prog [] 112 [sl' 1 (fun x=>[I x]) l,D.c 85 [D.q [I part,I (c.parts.length:Int),I (goneR c),sl' 3 Slot.d (slotsOf c part),sl' 4 Port.d (portsOf c part)] 0]] (· = I (seekI (fun k=>ageX c (l.getD k default)) l.length 0)):=by
 refine PC.of (N:=19) Tryz.func112 rfl rfl (Nat.le_of_ble_eq_true rfl) ?_
 refine PW.a [0,1] 0 (PW.q [0,1,7,8] 0 (PW.block (PW.lp (α := Nat) (fun i=>{ tab:=[⟨0,[],sl' 1 (fun x=>[I x]) l⟩,⟨1,[],D.c 85 [D.q [I part,I (c.parts.length:Int),I (goneR c),sl' 3 Slot.d (slotsOf c part),sl' 4 Port.d (portsOf c part)] 0]⟩,⟨7,[],I (l.length:Int)⟩,⟨8,[],I (i:Int)⟩],mem:=[] }) (fun i=>i≤l.length∧seekI (fun k=>ageX c (l.getD k default)) l.length 0=seekI (fun k=>ageX c (l.getD k default)) (l.length-i) i) (fun i=>l.length-i) [0,1,7,8] 0 (0) ?_ ?_)))
 ·exact ⟨Nat.zero_le _,rfl⟩
 rintro i hinv
 show PW _ _ _ _ _
 refine PW.a [0,1,7,8,9] 0 (PW.seq (PW.cd (decide ((i:Int)<(l.length:Int))) ?_ ?_)) <;> intro hz0 <;> try simp only [boolS,isB_true,isB_false] at hz0
 ·refine PW.k (PW.seq (PW.block (PW.a [0,1,5,7,8] 0 (PW.sg (PL.rw 5 [0,1,5,7,8,11,15] 0 (p:=(0≤(i:Int)∧(i:Int)<(l.length:Int))) oM (PL.gc (A:=[]) (fun _=>bus_areAges1_pc c part (l.getD i default)) (PL.nl ?_)))))))
  refine PW.cd (ageX c (l.getD i default)) ?_ ?_ <;> intro hz1 <;> try simp only [boolS,isB_true,isB_false] at hz1
  ·refine PW.t [4] 0 (rq (I (i:Int)) ?_)
   show I _=I _
   rw [hinv.2,show l.length-i=(l.length-i-1)+1 by omega,seekI,if_pos hz1]
  ·refine PW.k (PW.b [0,1,7,8] 0 ?_)
   refine BackR.of (s1:={ tab:=[⟨0,[],sl' 1 (fun x=>[I x]) l⟩,⟨1,[],D.c 85 [D.q [I part,I (c.parts.length:Int),I (goneR c),sl' 3 Slot.d (slotsOf c part),sl' 4 Port.d (portsOf c part)] 0]⟩,⟨7,[],I (l.length:Int)⟩,⟨8,[],I (IntKind.i64.wrap ((i:Int)+1))⟩],mem:=[] }) (i+1) kR kR ?_ ?_ ?_
   ·rw [wrapM i oM]
    exact Rem.refl _
   ·refine ⟨by omega,?_⟩
    rw [hinv.2,show l.length-i=(l.length-(i+1))+1 by omega,seekI,if_neg (by rw [hz1]; decide)]
   ·exact nD
 ·refine PW.e (PW.t [4] 0 (rq (I (-1)) ?_))
  show I _=I _
  rw [hinv.2,show l.length-i=0 by omega,seekI]
theorem contains_ages_pc (c:Config) (part:Int) (l:List Int) (hl:l.length≤maxLen):PC Tryz.prog [] 84 [sl' 1 (fun x=>[I x]) l,D.c 85 [D.q [I part,I (c.parts.length:Int),I (goneR c),sl' 3 Slot.d (slotsOf c part),sl' 4 Port.d (portsOf c part)] 0]] (· = D.v (.bool (l.any (ageX c)))):=by
 refine PC.of (N:=9) Tryz.func84 rfl rfl (Nat.le_of_ble_eq_true rfl) ?_
 refine PW.a [0,1] 0 (PW.w 2 [5,6] 0 (PL.gc (A:=[]) (fun _=>index_ages_pc c part l hl) (PL.n 2 [4] 0 (PW.ret (rq (D.v (.bool (decide ((seekI (fun k=>ageX c (l.getD k default)) l.length 0)≥(0:Int))))) ?_)))))
 rw [any_seek]
theorem bus_areAges_pc (c:Config) (part:Int) (l:List Int) (hl:l.length≤maxLen):PC Tryz.prog [] 53 [D.r (busD c part),sl' 1 (fun x=>[I x]) l] (· = D.v (.bool (agesB c l))):=by
 refine PC.of (N:=16) Tryz.func53 rfl rfl (Nat.le_of_ble_eq_true rfl) ?_
 refine PW.a [1,2] 1 (PW.w 7 [2,10,11] 1 (PL.sl [2,10,11] 1 (PL.fz 0 (t:=69) [I part,I (c.parts.length:Int),I (goneR c),sl' 3 Slot.d (slotsOf c part),sl' 4 Port.d (portsOf c part)] (PL.mkG (A:=[(10,true)]) (f:=85) (cap := #[.tmp 2]) [D.q [I part,I (c.parts.length:Int),I (goneR c),sl' 3 Slot.d (slotsOf c part),sl' 4 Port.d (portsOf c part)] 0] (PL.gc (A:=[(10,true)]) (fun _=>contains_ages_pc c part l oM) (PL.n 3 [4] 1 (PW.ret ?_)))))))
 refine rq (D.v (.bool (((l.length:Int) == (c.parts.length:Int))&&(!(l.any (ageX c)))))) ?_
 rfl
theorem bus_isLink1_pc (p:Port) (f:Frame):PC Tryz.prog [] 87 [D.r (Port.d p),D.q [I f.kind,I f.part,I f.node,I f.wait,I f.mask,I f.link,D.v (.bool f.flag),I f.cycle,I f.offset,sl' 1 (fun x=>[I x]) f.ages,I f.frm,I f.to,I f.seq,bytesD f.body] 0] (· = D.v (.bool (atLinkB f.node f.link p))):=by
 refine PC.of (N:=16) Tryz.func87 rfl rfl (Nat.le_of_ble_eq_true rfl) ?_
 refine PW.a [1,2] 1 (PW.t [3] 1 (rq (D.v (.bool ((p.node == f.node)&&(p.link == f.link)))) ?_))
 rfl
theorem index_links_pc (ps:List Port) (f:Frame) (hl:ps.length<1000000):PC Tryz.prog [] 113 [sl' 4 Port.d ps,D.c 87 [D.q [I f.kind,I f.part,I f.node,I f.wait,I f.mask,I f.link,D.v (.bool f.flag),I f.cycle,I f.offset,sl' 1 (fun x=>[I x]) f.ages,I f.frm,I f.to,I f.seq,bytesD f.body] 0]] (· = I (seekI (fun k=>atLinkB f.node f.link (ps.getD k default)) ps.length 0)):=by
 refine PC.of (N:=19) Tryz.func113 rfl rfl (Nat.le_of_ble_eq_true rfl) ?_
 refine PW.a [0,1] 0 (PW.q [0,1,7,8] 0 (PW.block (PW.lp (α := Nat) (fun i=>{ tab:=[⟨0,[],sl' 4 Port.d ps⟩,⟨1,[],D.c 87 [D.q [I f.kind,I f.part,I f.node,I f.wait,I f.mask,I f.link,D.v (.bool f.flag),I f.cycle,I f.offset,sl' 1 (fun x=>[I x]) f.ages,I f.frm,I f.to,I f.seq,bytesD f.body] 0]⟩,⟨7,[],I (ps.length:Int)⟩,⟨8,[],I (i:Int)⟩],mem:=[] }) (fun i=>i≤ps.length∧seekI (fun k=>atLinkB f.node f.link (ps.getD k default)) ps.length 0=seekI (fun k=>atLinkB f.node f.link (ps.getD k default)) (ps.length-i) i) (fun i=>ps.length-i) [0,1,7,8] 0 (0) ?_ ?_)))
 ·exact ⟨Nat.zero_le _,rfl⟩
 rintro i hinv
 show PW _ _ _ _ _
 refine PW.a [0,1,7,8,9] 0 (PW.seq (PW.cd (decide ((i:Int)<(ps.length:Int))) ?_ ?_)) <;> intro hz0 <;> try simp only [boolS,isB_true,isB_false] at hz0
 ·refine PW.k (PW.seq (PW.block (PW.a [0,1,5,7,8] 0 (PW.sg (PL.rw 5 [0,1,5,7,8,11,15] 0 (p:=(0≤(i:Int)∧(i:Int)<(ps.length:Int))) oM (PL.gc (A:=[]) (fun _=>bus_isLink1_pc (ps.getD i default) f) (PL.nl ?_)))))))
  refine PW.cd (atLinkB f.node f.link (ps.getD i default)) ?_ ?_ <;> intro hz1 <;> try simp only [boolS,isB_true,isB_false] at hz1
  ·refine PW.t [4] 0 (rq (I (i:Int)) ?_)
   show I _=I _
   rw [hinv.2,show ps.length-i=(ps.length-i-1)+1 by omega,seekI,if_pos hz1]
  ·refine PW.k (PW.b [0,1,7,8] 0 ?_)
   refine BackR.of (s1:={ tab:=[⟨0,[],sl' 4 Port.d ps⟩,⟨1,[],D.c 87 [D.q [I f.kind,I f.part,I f.node,I f.wait,I f.mask,I f.link,D.v (.bool f.flag),I f.cycle,I f.offset,sl' 1 (fun x=>[I x]) f.ages,I f.frm,I f.to,I f.seq,bytesD f.body] 0]⟩,⟨7,[],I (ps.length:Int)⟩,⟨8,[],I (IntKind.i64.wrap ((i:Int)+1))⟩],mem:=[] }) (i+1) kR kR ?_ ?_ ?_
   ·rw [wrap1 i oM]
    exact Rem.refl _
   ·refine ⟨by omega,?_⟩
    rw [hinv.2,show ps.length-i=(ps.length-(i+1))+1 by omega,seekI,if_neg (by rw [hz1]; decide)]
   ·exact nD
 ·refine PW.e (PW.t [4] 0 (rq (I (-1)) ?_))
  show I _=I _
  rw [hinv.2,show ps.length-i=0 by omega,seekI]
theorem contains_links_pc (ps:List Port) (f:Frame) (hl:ps.length<1000000):PC Tryz.prog [] 86 [sl' 4 Port.d ps,D.c 87 [D.q [I f.kind,I f.part,I f.node,I f.wait,I f.mask,I f.link,D.v (.bool f.flag),I f.cycle,I f.offset,sl' 1 (fun x=>[I x]) f.ages,I f.frm,I f.to,I f.seq,bytesD f.body] 0]] (· = D.v (.bool (linkB ps f.node f.link))):=by
 refine PC.of (N:=9) Tryz.func86 rfl rfl (Nat.le_of_ble_eq_true rfl) ?_
 refine PW.a [0,1] 0 (PW.w 2 [5,6] 0 (PL.gc (A:=[]) (fun _=>index_links_pc ps f hl) (PL.n 2 [4] 0 (PW.ret (rq (D.v (.bool (decide ((seekI (fun k=>atLinkB f.node f.link (ps.getD k default)) ps.length 0)≥(0:Int))))) ?_)))))
 rw [any_seek]
 rfl
theorem bus_isLink_pc (c:Config) (part:Int) (f:Frame):PC Tryz.prog [] 54 [D.r (busD c part),D.r (frD f)] (· = D.v (.bool (linkB (portsOf c part) f.node f.link))):=by
 refine PC.of (N:=9) Tryz.func54 rfl rfl (Nat.le_of_ble_eq_true rfl) ?_
 refine PW.a [2,3] 2 (PW.w 2 [3,6] 2 (PL.sl [3,6] 2 (PL.fz 1 (t:=25) [I f.kind,I f.part,I f.node,I f.wait,I f.mask,I f.link,D.v (.bool f.flag),I f.cycle,I f.offset,sl' 1 (fun x=>[I x]) f.ages,I f.frm,I f.to,I f.seq,bytesD f.body] (PL.mk (f:=87) (cap := #[.tmp 3]) [D.q [I f.kind,I f.part,I f.node,I f.wait,I f.mask,I f.link,D.v (.bool f.flag),I f.cycle,I f.offset,sl' 1 (fun x=>[I x]) f.ages,I f.frm,I f.to,I f.seq,bytesD f.body] 0] (PL.gc (A:=[]) (fun _=>contains_links_pc (portsOf c part) f (portsOf_len' c part)) (PL.n 1 [4] 2 (PW.ret ?_)))))))
 refine rq (D.v (.bool (linkB (portsOf c part) f.node f.link))) ?_
 rfl
theorem fitS_in {c:Config} {part slot:Int} {f:Frame} (h:¬ slot<0∧¬ slot≥((slotsOf c part).length:Int)):fitS c part slot f=fitF c part ((slotsOf c part).getD slot.toNat default) f:=by
 have hb:isB slot (slotsOf c part).length=true:=by rw [isB_true]; omega
 unfold fitS
 rw [hb]
 rfl
theorem fitS_out {c:Config} {part slot:Int} {f:Frame} (h:slot<0∨slot≥((slotsOf c part).length:Int)):fitS c part slot f=false:=by
 have hb:isB slot (slotsOf c part).length=false:=by rw [isB_false]; omega
 unfold fitS
 rw [hb]
 rfl
theorem fitF_not {c:Config} {part:Int} {s:Slot} {f:Frame} (h:(¬ f.part=part∨¬ f.node=s.node)∨suitsB f.kind s.kind=false):fitF c part s f=false:=by
 unfold fitF
 rcases h with (h|h)|h
 ·rw [beq_eq_false_iff_ne.2 h]; rfl
 ·rw [beq_eq_false_iff_ne.2 h]; simp
 ·rw [h]; simp
theorem fitF_yes {c:Config} {part:Int} {s:Slot} {f:Frame} (h:(f.part=part∧f.node=s.node)∧suitsB f.kind s.kind=true):fitF c part s f=tailB c part f:=by
 unfold fitF
 rw [h.1.1,h.1.2,h.2]
 simp
theorem bus_fits_pc (c:Config) (part slot:Int) (f:Frame) (ha:f.ages.length≤maxLen):PC Tryz.prog [] 25 [D.r (busD c part),I slot,D.r (frD f)] (· = D.v (.bool (fitS c part slot f))):=by
 refine PC.of (N:=90) Tryz.func25 rfl rfl (Nat.le_of_ble_eq_true rfl) ?_
 refine PW.a [1,3,5] 2 (PW.q [1,3,5,16] 2 (PW.cd ((decide (slot<(0:Int)))||(decide (slot≥((slotsOf c part).length:Int)))) ?_ ?_)) <;> intro hz0 <;> try simp only [boolS,isB_true,isB_false] at hz0
 ·refine PW.t [6] 2 (rq (D.v (.bool false)) ?_)
  rw [fitS_out hz0]
 ·refine PW.k (PW.sr [3,5,7] 3 (p:=(0≤slot∧slot<((slotsOf c part).length:Int))) oM (PW.seq (PW.w 17 [3,5,34,36,38] 3 (PL.gc (A:=[(34,false)]) (fun _=>air_suits_pc f.kind (((slotsOf c part).getD slot.toNat default).kind)) (PL.n 2 [3,5,41] 3 (PW.cd (((f.part != part)||(f.node != (((slotsOf c part).getD slot.toNat default).node)))||(!(suitsB f.kind (((slotsOf c part).getD slot.toNat default).kind)))) ?_ ?_)))))) <;> intro hz1 <;> try simp only [boolS,isB_true,isB_false] at hz1
  ·refine PW.t [6] 3 (rq (D.v (.bool false)) ?_)
   rw [fitS_in hz0,fitF_not hz1]
  ·refine PW.k (PW.q [3,5,43] 3 (PW.block (PW.a [3,5,43,44] 3 (PW.cd (f.kind == (2:Int)) ?_ ?_)))) <;> intro hz2 <;> try simp only [boolS,isB_true,isB_false] at hz2
   ·refine PW.w 3 [46,48] 3 (PL.gc (A:=[]) (fun _=>bus_areAges_pc c part f.ages oM) (PL.n 1 [6] 3 (PW.ret (rq (D.v (.bool (agesB c f.ages))) ?_))))
    rw [fitS_in hz0,fitF_yes hz1]
    unfold tailB
    rw [if_pos (by assumption)]
   ·refine PW.a [3,5,43,50] 3 (PW.cd (f.kind == (3:Int)) ?_ ?_) <;> intro hz3 <;> try simp only [boolS,isB_true,isB_false] at hz3
    ·refine PW.w 2 [52,53] 3 (PL.gc (A:=[]) (fun _=>bus_isLink_pc c part f) (PL.n 1 [6] 3 (PW.ret (rq (D.v (.bool (linkB (portsOf c part) f.node f.link))) ?_))))
     rw [fitS_in hz0,fitF_yes hz1]
     unfold tailB
     rw [if_neg oM,if_pos (by assumption)]
    ·refine PW.a [3,5,43,55] 3 (PW.cd (f.kind == (4:Int)) ?_ ?_) <;> intro hz4 <;> try simp only [boolS,isB_true,isB_false] at hz4
     ·refine PW.w 2 [3,5,57,58] 3 (PL.gc (A:=[]) (fun _=>bus_isLink_pc c part f) (PL.a 4 [60,61,63] 3 (PL.gc (A:=[(60,true)]) (fun _=>bus_areAges_pc c part f.ages oM) (PL.n 2 [6] 3 (PW.ret (rq (D.v (.bool ((linkB (portsOf c part) f.node f.link)&&(agesB c f.ages)))) ?_))))))
      rw [fitS_in hz0,fitF_yes hz1]
      unfold tailB
      rw [if_neg oM,if_neg oM,if_pos (by assumption)]
     ·refine PW.a [3,5,66] 3 (PW.cd (f.kind == (5:Int)) ?_ ?_) <;> intro hz5 <;> try simp only [boolS,isB_true,isB_false] at hz5
      ·refine PW.w 2 [3,5,68,69] 3 (PL.gc (A:=[]) (fun _=>bus_isLink_pc c part f) (PL.a 4 [3,5,71,72,74] 3 (PL.gc (A:=[(71,true)]) (fun _=>bus_isPart_pc c part f.frm) (PL.a 5 [5,77,78,80] 3 (PL.gc (A:=[(77,true)]) (fun _=>bus_isPart_pc c part f.to) (PL.n 9 [6] 3 (PW.ret ?_)))))))
       refine rq (D.v (.bool ((((linkB (portsOf c part) f.node f.link)&&(isB f.frm c.parts.length))&&(isB f.to c.parts.length))&&(f.frm != f.to)))) ?_
       rw [fitS_in hz0,fitF_yes hz1]
       unfold tailB
       rw [if_neg oM,if_neg oM,if_neg oM,if_pos (by assumption)]
       unfold pathB
       simp only [Bool.and_assoc]
      ·refine PW.k (PW.t [6] 3 (rq (D.v (.bool true)) ?_))
       rw [fitS_in hz0,fitF_yes hz1]
       unfold tailB
       rw [if_neg oM,if_neg oM,if_neg oM,if_neg oM]
theorem air_Fits_pc (e:Nat→Addr) (hA:Apart4 e) (c:Config) (part slot:Int) (f:Frame) (ha:f.ages.length≤maxLen) (hp0:c.parts.length<1000000) (hl0:c.links.length<1000000):PC Tryz.prog (errG4 e) 10 [D.r (Config.d c),I part,I slot,D.r (frD f)] (· = D.v (.bool (fitS c part slot f))):=by
 refine PC.of (N:=15) Tryz.func10 rfl rfl (Nat.le_of_ble_eq_true rfl) ?_
 refine PW.a [1,2,4,7] 2 (PW.seq (PW.open [] kR ?_))
 refine PO.a [0,1,3,4] 7 [9,10,12,13] 3 (PO.one (n:=2) 2 kR ?_)
 refine PO1.gc _ (A:=[]) (fun _=>air_busOf_pc e hA c part hp0 hl0) ?_ rfl
 refine PO.one (n:=1) 5 kR ?_
 refine PO1.gc _ (G:=(errG4 e)) (A:=[]) (fun _=>PC.more (bus_fits_pc c part slot f oM)) ?_ rfl
 refine PO.a [6] 1 [8] 0 (PO.done kR ?_)
 show PW _ _ _ _ _
 refine PW.ret (rq (D.v (.bool (fitS c part slot f))) ?_)
 rfl
end Go.Proofs.YtdomlccfjnkbjaaGreatDoor.Pl
