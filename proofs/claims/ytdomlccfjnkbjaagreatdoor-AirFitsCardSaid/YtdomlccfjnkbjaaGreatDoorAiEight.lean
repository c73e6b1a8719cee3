/- Chapter 11: the law's own says. -/
import Derived.Test.YtdomlccfjnkbjaaGreatDoorAiArg
import Derived.Test.YtdomlccfjnkbjaaGreatDoorRdFour
import Derived.Test.YtdomlccfjnkbjaaGreatDoorFrAlive
namespace Go.Proofs.YtdomlccfjnkbjaaGreatDoor.Pl
open Go.RowKit Go.Proofs.YtdomlccfjnkbjaaGreatDoor.Sm Go.Proofs.YtdomlccfjnkbjaaGreatDoor.Dp
open Go.Proofs.YtdomlccfjnkbjaaGreatDoor.Fr (bare frD frC decX errOf frOf noOf atOf WfA wfA_dec bytesOf mayB)
set_option maxHeartbeats 4000000
set_option maxRecDepth 100000
set_option linter.unusedVariables false
set_option linter.unusedSimpArgs false
def fitFrame (c:Config) (part:Int) (s:Slot) (f:Frame):Frame:=⟨s.kind,part,s.node,f.wait,andI f.mask 4095,((portQ c part s.node).getD ⟨0,0,0,0⟩).link,f.flag,andI f.cycle 549755813887,f.offset.tmod 274877906944,List.replicate c.parts.length 0,0,IntKind.i64.wrap ((c.parts.length:Int)-1),IntKind.i64.wrap (andI f.seq 1073741823+1),[]⟩
def SaidOk (s:Said):Prop:=WfA s.f∧s.b.length≤1000000
theorem wf_in (n lo hi:Int) (h:lo≤n∧n≤hi) (h1 : -9223372036854775808≤lo) (h2:hi≤9223372036854775807):Fr.Is64 n:=by
 unfold Fr.Is64
 omega
theorem slot_nums {c:Config} {part:Int} (hf:fitB c=true) (hp:isB part c.parts.length=true) {i:Nat} (hi:i<(slotsOf c part).length):(0≤((slotsOf c part).getD i default).kind∧((slotsOf c part).getD i default).kind≤5)∧(0≤((slotsOf c part).getD i default).node∧((slotsOf c part).getD i default).node≤12):=by
 have hn:=tnodes_in hf hp
 have e:slotsOf c part=slN c 0 (keysOf (portsOf c part) (nodesI c part).toNat):=if_pos ⟨hf,hp⟩
 rw [e] at hi ⊢
 rw [slN_len] at hi
 rw [slN_get _ _ _ _ hi]
 have hm:(keysOf (portsOf c part) (nodesI c part).toNat).getD i default ∈ keysOf (portsOf c part) (nodesI c part).toNat:=by
  rw [List.getD_eq_getElem?_getD,List.getElem?_eq_getElem hi]
  exact List.getElem_mem hi
 generalize (keysOf (portsOf c part) (nodesI c part).toNat).getD i default=k at hm
 show (0≤k.1∧k.1≤5)∧(0≤k.2∧k.2≤12)
 have hpo:∀ p ∈ portsOf c part,0≤p.node∧p.node≤12:=by
  intro p hp1
  unfold portsOf at hp1
  split at hp1
  ·unfold portsL at hp1
   obtain ⟨q,hq,hq2⟩:=List.mem_filterMap.1 hp1
   have h1:=(portP_mem hq2).2
   have h2:=List.mem_range.1 hq
   unfold nodesI at hn
   omega
  ·cases hp1
 simp only [keysOf,List.mem_append,gates,syncs,datas,List.mem_flatMap,List.mem_map,List.mem_cons,List.not_mem_nil,or_false,List.mem_range] at hm
 rcases hm with (⟨p,hp,rfl|rfl⟩|⟨a,ha,rfl⟩)|⟨p,hp,rfl⟩
 ·exact ⟨⟨by dsimp only; omega,by dsimp only; omega⟩,hpo p hp⟩
 ·exact ⟨⟨by dsimp only; omega,by dsimp only; omega⟩,hpo p hp⟩
 ·exact ⟨⟨by dsimp only; omega,by dsimp only; omega⟩,by dsimp only; omega⟩
 ·exact ⟨⟨by dsimp only; omega,by dsimp only; omega⟩,hpo p hp⟩
theorem link_in {c:Config} (hl0:c.links.length<1000000) (part node:Int):0≤((portQ c part node).getD ⟨0,0,0,0⟩).link∧((portQ c part node).getD ⟨0,0,0,0⟩).link≤1000000:=by
 cases h:portQ c part node with
 | none=>exact ⟨by decide,by decide⟩
 | some p =>
  unfold portQ at h
  split at h
  ·obtain ⟨⟨i,hi,e⟩,_⟩:=portP_form h
   show 0≤p.link∧p.link≤1000000
   omega
  ·cases h
theorem and_4095 (n:Int):andI n 4095=n%4096:=andI_mask n 12 oM
theorem and_cycle (n:Int):andI n 549755813887=n%549755813888:=andI_mask n 39 oM
theorem and_seq (n:Int):andI n 1073741823=n%1073741824:=andI_mask n 30 oM
theorem fit_wf {c:Config} {part:Int} {f:Frame} (hf:fitB c=true) (hp:isB part c.parts.length=true) (hp0:c.parts.length<1000000) (hl0:c.links.length<1000000) (hw:WfA f) {i:Nat} (hi:i<(slotsOf c part).length):WfA (Fr.spare (fitFrame c part ((slotsOf c part).getD i default) f)):=by
 have h1:=slot_nums hf hp hi
 generalize (slotsOf c part).getD i default=s at h1 ⊢
 have h2:=link_in hl0 part s.node
 have hp':=hp
 rw [isB_true] at hp'
 have key:WfA (fitFrame c part s f):=by
  obtain ⟨⟨_,_,_,w4,_⟩,_⟩:=hw
  refine ⟨⟨?_,?_,?_,w4,?_,?_,?_,?_,?_,?_,?_⟩,?_⟩
  ·exact wf_in _ 0 5 h1.1 (by decide) (by decide)
  ·exact wf_in _ 0 1000000 (by dsimp only [fitFrame]; omega) (by decide) (by decide)
  ·exact wf_in _ 0 12 h1.2 (by decide) (by decide)
  ·exact wf_in _ 0 4096 (by dsimp only [fitFrame]; rw [and_4095]; omega) (by decide) (by decide)
  ·exact wf_in _ 0 1000000 h2 (by decide) (by decide)
  ·exact wf_in _ 0 549755813888 (by dsimp only [fitFrame]; rw [and_cycle]; omega) (by decide) (by decide)
  ·have ha:=Int.tmod_lt_of_pos f.offset (show (0:Int)<274877906944 by decide)
   have hb:=tmod_lo (a:=f.offset) (show (1:Int)≤274877906944 by decide)
   exact wf_in _ (-274877906944) 274877906944 (by dsimp only [fitFrame]; omega) (by decide) (by decide)
  ·exact wf_in _ 0 0 ⟨Int.le_refl _,Int.le_refl _⟩ (by decide) (by decide)
  ·exact wf_in _ (-1) 1000000 (by dsimp only [fitFrame]; rw [Ev.wrap_i64 oM oM]; omega) (by decide) (by decide)
  ·exact wf_in _ 0 1073741825 (by dsimp only [fitFrame]; rw [and_seq,Ev.wrap_i64 oM oM]; omega) (by decide) (by decide)
  ·intro d hd
   have:=List.eq_of_mem_replicate (show d ∈ List.replicate c.parts.length 0 from hd)
   omega
 generalize fitFrame c part s f=F at key
 obtain ⟨⟨w1,w2,w3,w4,w5,w6,w7,w8,w9,w10,w11⟩,w12⟩:=key
 have z:Fr.Is64 0:=by unfold Fr.Is64; omega
 have n:∀ d ∈ ([]:List Int), -9223372036854775808≤d∧d≤9223372036854775807:=fun d hd=>by cases hd
 unfold Fr.spare
 repeat' split
 ·exact ⟨⟨w1,w2,w3,w4,z,z,z,z,z,z,z⟩,n⟩
 ·exact ⟨⟨w1,w2,w3,z,w5,z,w7,z,z,z,z⟩,w12⟩
 ·exact ⟨⟨w1,w2,w3,z,z,w6,w7,w8,z,z,z⟩,n⟩
 ·exact ⟨⟨w1,w2,w3,z,z,w6,z,z,z,z,z⟩,w12⟩
 ·exact ⟨⟨w1,w2,w3,z,z,w6,z,z,w9,w10,w11⟩,n⟩
 ·exact ⟨⟨w1,w2,w3,z,z,z,z,z,z,z,z⟩,n⟩
theorem bytes_le (f:Frame):(bytesOf f).length≤1000000:=by
 unfold Fr.bytesOf
 split
 ·rename_i h
  have:=Fr.enc_le h
  rw [Fr.sealB_length]
  omega
 ·exact Nat.zero_le _
theorem said_ok {l:List Said} (h:∀ s ∈ l,SaidOk s) {i:Nat} (hi:i<l.length):SaidOk (l.getD i default):=by
 rw [List.getD_eq_getElem?_getD,List.getElem?_eq_getElem hi]
 exact h _ (List.getElem_mem hi)
theorem slot_k {n:Nat} (h1:1≤n) (h2:n≤1000) (x:Int):∃ k:Nat,(IntKind.i64.wrap (x.tmod (n:Int)+(n:Int))).tmod (n:Int)=(k:Int)∧k<n:=by
 have ha:=Int.tmod_lt_of_pos x (show (0:Int)<n by omega)
 have hb:=tmod_lo (a:=x) (show (1:Int)≤n by omega)
 rw [Ev.wrap_i64 oM oM]
 have hc:=Int.tmod_nonneg (n:Int) (show 0≤x.tmod (n:Int)+(n:Int) by omega)
 have hd:=Int.tmod_lt_of_pos (x.tmod (n:Int)+(n:Int)) (show (0:Int)<n by omega)
 exact ⟨((x.tmod (n:Int)+(n:Int)).tmod (n:Int)).toNat,by omega,by omega⟩
def sayK (c:Config) (part:Int) (s:Said):Int:=(IntKind.i64.wrap (s.slot.tmod ((slotsOf c part).length:Int)+((slotsOf c part).length:Int))).tmod ((slotsOf c part).length:Int)
def sayF (c:Config) (part:Int) (s:Said):Frame:=if s.fit=true then Fr.spare (fitFrame c part ((slotsOf c part).getD (sayK c part s).toNat default) s.f) else s.f
def sayOf (c:Config) (part:Int) (x:Guard) (s:Said):Say:=⟨sayK c part s,if mayB (sayF c part s)=true then bytesOf (sayF c part s) else s.b,addI (IntKind.i64.wrap (x.start+((slotsOf c part).getD (sayK c part s).toNat default).at_)) s.late⟩
def saysOf (c:Config) (part:Int) (x:Guard) (l:List Said):List Say:=l.map (sayOf c part x)
section
variable {c:Config} {part:Int} {x:Guard} {s:Said} {k:Nat} {F:Frame}
theorem say_fit (hfit:s.fit=true) (hk:(IntKind.i64.wrap (s.slot.tmod ((slotsOf c part).length:Int)+((slotsOf c part).length:Int))).tmod ((slotsOf c part).length:Int)=(k:Int)):sayF c part s=Fr.spare (fitFrame c part ((slotsOf c part).getD k default) s.f):=by
 have h:sayK c part s=(k:Int):=hk
 unfold sayF
 rw [if_pos hfit,h]
 rfl
theorem say_plain (hfit:s.fit=false):sayF c part s=s.f:=if_neg (by rw [hfit]; decide)
theorem say_good (hF:sayF c part s=F) (hk:(IntKind.i64.wrap (s.slot.tmod ((slotsOf c part).length:Int)+((slotsOf c part).length:Int))).tmod ((slotsOf c part).length:Int)=(k:Int)) (hm:(if mayB F=true then (0:Int) else 1)=0):(⟨(k:Int),bytesOf F,addI (IntKind.i64.wrap (x.start+((slotsOf c part).getD k default).at_)) s.late⟩:Say)=sayOf c part x s:=by
 have h:sayK c part s=(k:Int):=hk
 have h2:mayB F=true:=by
  by_cases hh:mayB F=true
  ·exact hh
  ·rw [if_neg hh] at hm; exact absurd hm (by decide)
 unfold sayOf
 rw [h,hF,if_pos h2]
 rfl
theorem say_bad (hF:sayF c part s=F) (hk:(IntKind.i64.wrap (s.slot.tmod ((slotsOf c part).length:Int)+((slotsOf c part).length:Int))).tmod ((slotsOf c part).length:Int)=(k:Int)) (hm:¬ (if mayB F=true then (0:Int) else 1)=0):(⟨(k:Int),s.b,addI (IntKind.i64.wrap (x.start+((slotsOf c part).getD k default).at_)) s.late⟩:Say)=sayOf c part x s:=by
 have h:sayK c part s=(k:Int):=hk
 have h2:¬ mayB F=true:=fun hh=>hm (if_pos hh)
 unfold sayOf
 rw [h,hF,if_neg h2]
 rfl
theorem says_step {l:List Said} {xs:List Say} {i:Nat} {q:Say} (h:xs=(l.take i).map (sayOf c part x)) (hi:i<l.length) (hq:q=sayOf c part x (l.getD i default)):xs++[q]=(l.take (i+1)).map (sayOf c part x):=by
 rw [h,hq,List.take_add_one,List.getElem?_eq_getElem hi,List.map_append,List.getD_eq_getElem?_getD,List.getElem?_eq_getElem hi]
 rfl
end
theorem saysOf_len (c:Config) (part:Int) (x:Guard) (l:List Said):(saysOf c part x l).length=l.length:=by simp [saysOf]
theorem saysOf_small (c:Config) (part:Int) (x:Guard) {l:List Said} (hL:∀ s ∈ l,SaidOk s):∀ s ∈ saysOf c part x l,s.bytes.length≤1000000:=by
 intro s hs
 obtain ⟨q,hq,rfl⟩:=List.mem_map.1 hs
 unfold sayOf
 dsimp only
 split
 ·exact bytes_le _
 ·exact (hL q hq).2
theorem says_pc0 (c:Config) (part:Int) (x:Guard) (l:List Said) (hl:l.length<1000000) (hL:∀ s ∈ l,SaidOk s) (hf:fitB c=true) (hp:isB part c.parts.length=true) (hn:1≤(slotsOf c part).length) (hp0:c.parts.length<1000000) (hl0:c.links.length<1000000):PC Tryz.prog [] 17 [D.r (Config.d c),I part,D.r (Guard.d x),sl' 18 Said.d l] (fun d=>d=sl' 3 Say.d (saysOf c part x l)∨(d=D.v (.slice none 0 0)∧saysOf c part x l=[])):=by
 refine PC.of (N:=136) Tryz.func17 rfl rfl (Nat.le_of_ble_eq_true rfl) ?_
 refine PW.a [1,3,4,6] 2 (PW.a [1,3,4,6,9] 2 (PW.w 2 [1,3,4,6,9,18,19] 2 (PL.gc (A:=[]) (fun _=>(drumlineref5_Slots_pc0 c part hp0 hl0).list) (PL.n 1 [1,3,4,6,9,10] 2 (PW.q [1,3,4,6,9,10,11] 2 (PW.block (PW.born 9 53 3 kR ?_)))))))
 refine PW.loopR (α := Nat×List Say) (fun (i,xs)=>{ tab:=[⟨1,[],I part⟩,⟨3,[],sl' 18 Said.d l⟩,⟨4,[],D.p 0 0 0 0⟩,⟨6,[],D.p 1 0 0 0⟩,⟨9,[],D.h 2 xs.length⟩,⟨10,[],sl' 3 Slot.d (slotsOf c part)⟩,⟨11,[],I (i:Int)⟩],mem:=[Obj.var 30 (Config.d c),Obj.var 35 [D.v (.bool x.on),I x.start,sl' 1 (fun x=>[I x]) x.ages],Obj.row 53 3 xs.length (fun j=>Say.d (xs.getD j default))] }) (fun (i,xs)=>i≤l.length∧xs=(l.take i).map (sayOf c part x)) (fun (i,xs)=>l.length-i) [1,3,4,6,9,10,11] 3 (0,[]) (s1:={ tab:=[⟨1,[],I part⟩,⟨3,[],sl' 18 Said.d l⟩,⟨4,[],D.p 0 0 0 0⟩,⟨6,[],D.p 1 0 0 0⟩,⟨9,[],D.h 2 0⟩,⟨10,[],sl' 3 Slot.d (slotsOf c part)⟩,⟨11,[],I 0⟩],mem:=[Obj.var 30 (Config.d c),Obj.var 35 [D.v (.bool x.on),I x.start,sl' 1 (fun x=>[I x]) x.ages],Obj.row 53 3 0 (fun _=>[])] }) kR kR ?_ ?_ ?_
 ·dsimp only
  exact ⟨rfl,rfl,rfl,(.same (.same (.row rfl (fun j hj=>absurd hj (Nat.not_lt_zero _)) .nil)))⟩
 ·dsimp only
  exact ⟨Nat.zero_le _,rfl⟩
 rintro ⟨i,xs⟩ hinv
 dsimp only at hinv
 have hn48:=slotsOf_len c part
 have hxl:xs.length≤i:=by rw [hinv.2,List.length_map,List.length_take]; omega
 obtain ⟨q,hk1,hk2⟩:=slot_k hn oM (l.getD i default).slot
 show PW _ _ _ _ _
 refine PW.q [1,3,4,6,9,10,11,24] 3 (PW.cd (decide ((i:Int)<(l.length:Int))) ?_ ?_) <;> intro hz0 <;> try simp only [boolS] at hz0
 ·refine PW.k (PW.seq (PW.block (PW.sg (PL.rw 7 [1,3,4,6,9,10,11,31,33] 3 (p:=(0≤(i:Int)∧(i:Int)<(l.length:Int))) oM (PL.div (k := .i64) (A:=[]) ((l.getD i default).slot) ((slotsOf c part).length:Int) (((l.getD i default).slot).tmod ((slotsOf c part).length:Int)) rfl (by first|exact .inl ⟨rfl,rfl⟩|exact .inr ⟨rfl,rfl⟩) kR kR kR kR kR (fun _=>by omega) (PL.a 5 [1,3,4,6,9,10,11,37,39] 3 (PL.div (k := .i64) (A:=[]) (IntKind.i64.wrap ((((l.getD i default).slot).tmod ((slotsOf c part).length:Int))+((slotsOf c part).length:Int))) ((slotsOf c part).length:Int) ((IntKind.i64.wrap ((((l.getD i default).slot).tmod ((slotsOf c part).length:Int))+((slotsOf c part).length:Int))).tmod ((slotsOf c part).length:Int)) rfl (by first|exact .inl ⟨rfl,rfl⟩|exact .inr ⟨rfl,rfl⟩) kR kR kR kR kR (fun _=>by omega) ?_)))))))
  refine PL.row 1 [1,3,4,6,9,10,11,12] 3 (s':={ tab:=[⟨1,[],I part⟩,⟨3,[],sl' 18 Said.d l⟩,⟨4,[],D.p 0 0 0 0⟩,⟨6,[],D.p 1 0 0 0⟩,⟨9,[],D.h 2 xs.length⟩,⟨10,[],sl' 3 Slot.d (slotsOf c part)⟩,⟨11,[],I (i:Int)⟩,⟨12,[],I ((IntKind.i64.wrap ((((l.getD i default).slot).tmod ((slotsOf c part).length:Int))+((slotsOf c part).length:Int))).tmod ((slotsOf c part).length:Int))⟩],mem:=[Obj.var 30 (Config.d c),Obj.var 35 [D.v (.bool x.on),I x.start,sl' 1 (fun x=>[I x]) x.ages],Obj.row 53 3 xs.length (fun j=>Say.d (xs.getD j default))] }) (p:=True) kR kR kR kR kR trivial (PL.eq (s':={ tab:=[⟨1,[],I part⟩,⟨3,[],sl' 18 Said.d l⟩,⟨4,[],D.p 0 0 0 0⟩,⟨6,[],D.p 1 0 0 0⟩,⟨9,[],D.h 2 xs.length⟩,⟨10,[],sl' 3 Slot.d (slotsOf c part)⟩,⟨11,[],I (i:Int)⟩,⟨12,[],I (q:Int)⟩],mem:=[Obj.var 30 (Config.d c),Obj.var 35 [D.v (.bool x.on),I x.start,sl' 1 (fun x=>[I x]) x.ages],Obj.row 53 3 xs.length (fun j=>Say.d (xs.getD j default))] }) (by rw [hk1]) (PL.nl (PW.sr [1,3,4,6,9,10,11,12,13] 4 (p:=(0≤(i:Int)∧(i:Int)<(l.length:Int))) oM (PW.seq (PW.sr [1,3,4,6,9,10,11,12,13,50] 4 (p:=(0≤(i:Int)∧(i:Int)<(l.length:Int))) oM (PW.cd ((l.getD i default).fit) ?_ ?_)))))) <;> intro hz1 <;> try simp only [boolS] at hz1
  ·refine PW.oj ({ tab:=[⟨1,[],I part⟩,⟨3,[],sl' 18 Said.d l⟩,⟨4,[],D.p 0 0 0 0⟩,⟨6,[],D.p 1 0 0 0⟩,⟨9,[],D.h 2 xs.length⟩,⟨10,[],sl' 3 Slot.d (slotsOf c part)⟩,⟨11,[],I (i:Int)⟩,⟨12,[],I (q:Int)⟩,⟨13,[],D.p 3 0 0 0⟩,⟨14,[],D.p 4 0 0 0⟩],mem:=[Obj.var 30 (Config.d c),Obj.var 35 [D.v (.bool x.on),I x.start,sl' 1 (fun x=>[I x]) x.ages],Obj.row 53 3 xs.length (fun j=>Say.d (xs.getD j default)),Obj.var 25 [I (((l.getD i default).f).kind),I (((l.getD i default).f).part),I (((l.getD i default).f).node),I (((l.getD i default).f).wait),I (((l.getD i default).f).mask),I (((l.getD i default).f).link),D.v (.bool (((l.getD i default).f).flag)),I (((l.getD i default).f).cycle),I (((l.getD i default).f).offset),sl' 1 (fun x=>[I x]) (((l.getD i default).f).ages),I (((l.getD i default).f).frm),I (((l.getD i default).f).to),I (((l.getD i default).f).seq),bytesD (((l.getD i default).f).body)],Obj.var 76 [I (((portQ c part (((slotsOf c part).getD q default).node)).getD ⟨0,0,0,0⟩).node),I (((portQ c part (((slotsOf c part).getD q default).node)).getD ⟨0,0,0,0⟩).link),I (((portQ c part (((slotsOf c part).getD q default).node)).getD ⟨0,0,0,0⟩).gate),I (((portQ c part (((slotsOf c part).getD q default).node)).getD ⟨0,0,0,0⟩).side)]] }) ?_ ?_
   ·show PW _ _ _ _ _
    refine PW.seq (PW.cutl 39 [] kR rfl kR (n:=39) rfl (PO.tk [0,1,2,3,4,5,6,7,8,9,10,11,12,13,14,15,16,17,18,19,20,21,22,23,24,25,26,27,28,30,31,32,33,34,35,36,37] 39 [1,3,4,6,9,10,11,12,13,66,67,72,74,77,79,81,84,87,90,95,99] 2 (p:=(0≤(q:Int)∧(q:Int)<((slotsOf c part).length:Int))∧(0≤(q:Int)∧(q:Int)<((slotsOf c part).length:Int))) oM (fun _ _ h=>h) (PO.one (n:=1) 29 kR (PO1.mm rfl [1,3,4,6,9,10,11,12,13,66,67,72,74,77,79,81,84,87,91,95,99] 6 (p:=((c.parts.length:Int)≤(c.parts.length:Int)∧0≤(c.parts.length:Int)∧((8:Nat):Int)*(c.parts.length:Int)≤281474976710656∧(c.parts.length:Int)≤9223372036854775807)) oM (PO.rm 5 (t:=3) (z:=1) (n:=c.parts.length) (fun _=>[I 0]) (fun j=>(fun x=>[I x]) ((List.replicate c.parts.length (0:Int)).getD j default)) (fun j hj=>by (try dsimp only); rw [getD_rep _ _ _ _ hj]) (PO.sel [1,3,4,6,9,10,11,12,13,66,67,72,74,77,79,81,84,87,91,95,99] 6 rfl kR (PO.eq (s':={ tab:=[⟨1,[],I part⟩,⟨3,[],sl' 18 Said.d l⟩,⟨4,[],D.p 0 0 0 0⟩,⟨6,[],D.p 1 0 0 0⟩,⟨9,[],D.h 2 xs.length⟩,⟨10,[],sl' 3 Slot.d (slotsOf c part)⟩,⟨11,[],I (i:Int)⟩,⟨12,[],I (q:Int)⟩,⟨13,[],D.p 3 0 0 0⟩,⟨66,[],I (((slotsOf c part).getD q default).kind)⟩,⟨67,[],I part⟩,⟨72,[],I (((slotsOf c part).getD q default).node)⟩,⟨74,[],I (((l.getD i default).f).wait)⟩,⟨77,[],I (andI (((l.getD i default).f).mask) 4095)⟩,⟨79,[],I (((portQ c part (((slotsOf c part).getD q default).node)).getD ⟨0,0,0,0⟩).link)⟩,⟨81,[],D.v (.bool (((l.getD i default).f).flag))⟩,⟨84,[],I (andI (((l.getD i default).f).cycle) 549755813887)⟩,⟨87,[],I ((((l.getD i default).f).offset).tmod 274877906944)⟩,⟨91,[],D.h 5 c.parts.length⟩,⟨95,[],I (IntKind.i64.wrap ((c.parts.length:Int)-1))⟩,⟨99,[],I (IntKind.i64.wrap ((andI (((l.getD i default).f).seq) 1073741823)+1))⟩],mem:=[Obj.var 30 (Config.d c),Obj.var 35 [D.v (.bool x.on),I x.start,sl' 1 (fun x=>[I x]) x.ages],Obj.row 53 3 xs.length (fun j=>Say.d (xs.getD j default)),Obj.var 25 [I (((l.getD i default).f).kind),I (((l.getD i default).f).part),I (((l.getD i default).f).node),I (((l.getD i default).f).wait),I (((l.getD i default).f).mask),I (((l.getD i default).f).link),D.v (.bool (((l.getD i default).f).flag)),I (((l.getD i default).f).cycle),I (((l.getD i default).f).offset),sl' 1 (fun x=>[I x]) (((l.getD i default).f).ages),I (((l.getD i default).f).frm),I (((l.getD i default).f).to),I (((l.getD i default).f).seq),bytesD (((l.getD i default).f).body)],Obj.var 76 [I (((portQ c part (((slotsOf c part).getD q default).node)).getD ⟨0,0,0,0⟩).node),I (((portQ c part (((slotsOf c part).getD q default).node)).getD ⟨0,0,0,0⟩).link),I (((portQ c part (((slotsOf c part).getD q default).node)).getD ⟨0,0,0,0⟩).gate),I (((portQ c part (((slotsOf c part).getD q default).node)).getD ⟨0,0,0,0⟩).side)],Obj.row 3 1 c.parts.length (fun j=>(fun x=>[I x]) ((List.replicate c.parts.length (0:Int)).getD j default))] }) kR ?_)))))))
    refine PO.frzR 5 (t:=3) (z:=1) (m:=c.parts.length) (f:=(fun j=>(fun x=>[I x]) ((List.replicate c.parts.length (0:Int)).getD j default))) (f':=(fun i=>[I ((List.replicate c.parts.length (0:Int)).getD i default)])) (s':={ tab:=[⟨1,[],I part⟩,⟨3,[],sl' 18 Said.d l⟩,⟨4,[],D.p 0 0 0 0⟩,⟨6,[],D.p 1 0 0 0⟩,⟨9,[],D.h 2 xs.length⟩,⟨10,[],sl' 3 Slot.d (slotsOf c part)⟩,⟨11,[],I (i:Int)⟩,⟨12,[],I (q:Int)⟩,⟨13,[],D.p 3 0 0 0⟩,⟨66,[],I (((slotsOf c part).getD q default).kind)⟩,⟨67,[],I part⟩,⟨72,[],I (((slotsOf c part).getD q default).node)⟩,⟨74,[],I (((l.getD i default).f).wait)⟩,⟨77,[],I (andI (((l.getD i default).f).mask) 4095)⟩,⟨79,[],I (((portQ c part (((slotsOf c part).getD q default).node)).getD ⟨0,0,0,0⟩).link)⟩,⟨81,[],D.v (.bool (((l.getD i default).f).flag))⟩,⟨84,[],I (andI (((l.getD i default).f).cycle) 549755813887)⟩,⟨87,[],I ((((l.getD i default).f).offset).tmod 274877906944)⟩,⟨91,[],sl' 1 (fun x=>[I x]) (List.replicate c.parts.length (0:Int))⟩,⟨95,[],I (IntKind.i64.wrap ((c.parts.length:Int)-1))⟩,⟨99,[],I (IntKind.i64.wrap ((andI (((l.getD i default).f).seq) 1073741823)+1))⟩],mem:=[Obj.var 30 (Config.d c),Obj.var 35 [D.v (.bool x.on),I x.start,sl' 1 (fun x=>[I x]) x.ages],Obj.row 53 3 xs.length (fun j=>Say.d (xs.getD j default)),Obj.var 25 [I (((l.getD i default).f).kind),I (((l.getD i default).f).part),I (((l.getD i default).f).node),I (((l.getD i default).f).wait),I (((l.getD i default).f).mask),I (((l.getD i default).f).link),D.v (.bool (((l.getD i default).f).flag)),I (((l.getD i default).f).cycle),I (((l.getD i default).f).offset),sl' 1 (fun x=>[I x]) (((l.getD i default).f).ages),I (((l.getD i default).f).frm),I (((l.getD i default).f).to),I (((l.getD i default).f).seq),bytesD (((l.getD i default).f).body)],Obj.var 76 [I (((portQ c part (((slotsOf c part).getD q default).node)).getD ⟨0,0,0,0⟩).node),I (((portQ c part (((slotsOf c part).getD q default).node)).getD ⟨0,0,0,0⟩).link),I (((portQ c part (((slotsOf c part).getD q default).node)).getD ⟨0,0,0,0⟩).gate),I (((portQ c part (((slotsOf c part).getD q default).node)).getD ⟨0,0,0,0⟩).side)],Obj.dead] }) rfl (fun j hj=>rfl) (Nat.zero_le _) (fz_eq (n:=c.parts.length) (d:=D.s c.parts.length 1 (fun i=>[I ((List.replicate c.parts.length (0:Int)).getD i default)])) (fun d9=>{ tab:=[⟨1,[],I part⟩,⟨3,[],sl' 18 Said.d l⟩,⟨4,[],D.p 0 0 0 0⟩,⟨6,[],D.p 1 0 0 0⟩,⟨9,[],D.h 2 xs.length⟩,⟨10,[],sl' 3 Slot.d (slotsOf c part)⟩,⟨11,[],I (i:Int)⟩,⟨12,[],I (q:Int)⟩,⟨13,[],D.p 3 0 0 0⟩,⟨66,[],I (((slotsOf c part).getD q default).kind)⟩,⟨67,[],I part⟩,⟨72,[],I (((slotsOf c part).getD q default).node)⟩,⟨74,[],I (((l.getD i default).f).wait)⟩,⟨77,[],I (andI (((l.getD i default).f).mask) 4095)⟩,⟨79,[],I (((portQ c part (((slotsOf c part).getD q default).node)).getD ⟨0,0,0,0⟩).link)⟩,⟨81,[],D.v (.bool (((l.getD i default).f).flag))⟩,⟨84,[],I (andI (((l.getD i default).f).cycle) 549755813887)⟩,⟨87,[],I ((((l.getD i default).f).offset).tmod 274877906944)⟩,⟨91,[],d9⟩,⟨95,[],I (IntKind.i64.wrap ((c.parts.length:Int)-1))⟩,⟨99,[],I (IntKind.i64.wrap ((andI (((l.getD i default).f).seq) 1073741823)+1))⟩],mem:=[Obj.var 30 (Config.d c),Obj.var 35 [D.v (.bool x.on),I x.start,sl' 1 (fun x=>[I x]) x.ages],Obj.row 53 3 xs.length (fun j=>Say.d (xs.getD j default)),Obj.var 25 [I (((l.getD i default).f).kind),I (((l.getD i default).f).part),I (((l.getD i default).f).node),I (((l.getD i default).f).wait),I (((l.getD i default).f).mask),I (((l.getD i default).f).link),D.v (.bool (((l.getD i default).f).flag)),I (((l.getD i default).f).cycle),I (((l.getD i default).f).offset),sl' 1 (fun x=>[I x]) (((l.getD i default).f).ages),I (((l.getD i default).f).frm),I (((l.getD i default).f).to),I (((l.getD i default).f).seq),bytesD (((l.getD i default).f).body)],Obj.var 76 [I (((portQ c part (((slotsOf c part).getD q default).node)).getD ⟨0,0,0,0⟩).node),I (((portQ c part (((slotsOf c part).getD q default).node)).getD ⟨0,0,0,0⟩).link),I (((portQ c part (((slotsOf c part).getD q default).node)).getD ⟨0,0,0,0⟩).gate),I (((portQ c part (((slotsOf c part).getD q default).node)).getD ⟨0,0,0,0⟩).side)],Obj.dead] }) kR (sl_len (z:=1) (n:=c.parts.length) (e:=(fun x=>[I x])) (xs:=(List.replicate c.parts.length (0:Int))) (by (try simp only [List.length_replicate,List.length_append,List.length_cons,List.length_nil,List.length_set]) <;> omega))) (PO.one (n:=0) 38 kR (PO1.build (cs:=[I (((slotsOf c part).getD q default).kind),I part,I (((slotsOf c part).getD q default).node),I (((l.getD i default).f).wait),I (andI (((l.getD i default).f).mask) 4095),I (((portQ c part (((slotsOf c part).getD q default).node)).getD ⟨0,0,0,0⟩).link),D.v (.bool (((l.getD i default).f).flag)),I (andI (((l.getD i default).f).cycle) 549755813887),I ((((l.getD i default).f).offset).tmod 274877906944),sl' 1 (fun x=>[I x]) (List.replicate c.parts.length (0:Int)),I 0,I (IntKind.i64.wrap ((c.parts.length:Int)-1)),I (IntKind.i64.wrap ((andI (((l.getD i default).f).seq) 1073741823)+1)),D.v (.slice none 0 0)]) rfl rfl kR kR kR (PO.done kR ?_)))
    show PL _ _ _ _ _ _
    refine PL.a 1 [1,3,4,6,9,10,11,12,13] 6 (PL.nil ?_)
    show PW _ _ _ _ _
    refine PW.region (PL.a 1 [1,3,4,6,9,10,11,12,13,101] 6 (PL.gc (A:=[]) (fun _=>PC.argnil (ds:=[D.r [I (((slotsOf c part).getD q default).kind),I part,I (((slotsOf c part).getD q default).node),I (((l.getD i default).f).wait),I (andI (((l.getD i default).f).mask) 4095),I (((portQ c part (((slotsOf c part).getD q default).node)).getD ⟨0,0,0,0⟩).link),D.v (.bool (((l.getD i default).f).flag)),I (andI (((l.getD i default).f).cycle) 549755813887),I ((((l.getD i default).f).offset).tmod 274877906944),sl' 1 (fun x=>[I x]) (List.replicate c.parts.length (0:Int)),I 0,I (IntKind.i64.wrap ((c.parts.length:Int)-1)),I (IntKind.i64.wrap ((andI (((l.getD i default).f).seq) 1073741823)+1)),D.v (.slice none 0 0)]]) 0 13 1 (fun i=>u8d (([]:List UInt8).getD i default)) rfl rfl (spareR_pc (fitFrame c part ((slotsOf c part).getD q default) (l.getD i default).f))) (PL.a 1 [1,3,4,6,9,10,11,12,13] 6 (PL.nil ?_))))
    show PW _ _ _ _ _
    refine PW.w 1 [1,3,4,6,9,10,11,12,104] 6 (PL.gc (A:=[]) (fun _=>Fr.encodeR_pc (Fr.spare (fitFrame c part ((slotsOf c part).getD q default) (l.getD i default).f)) (fit_wf hf hp hp0 hl0 (said_ok hL oM).1 oM)) (PL.n 5 [1,3,4,6,9,10,11,12,16,17] 6 (PW.q [1,3,4,6,9,10,11,12,16,109] 6 (PW.cd ((if mayB (Fr.spare (fitFrame c part ((slotsOf c part).getD q default) (l.getD i default).f))=true then (0:Int) else 1) != (0:Int)) ?_ ?_)))) <;> intro hz2 <;> try simp only [boolS] at hz2
    ·refine PW.rr [1,3,4,6,9,10,11,12,16] 6 (p:=(0≤(i:Int)∧(i:Int)<(l.length:Int))) oM ?_
     show PW _ _ _ _ _
     refine PW.open [2] kR (PO.tk [0,1,2,3,4,5,6,7,8,9,10,11,12,13,14,15] 21 [1,3,4,6,9,10,11,115,116,117,125,130] 5 (p:=(0≤(q:Int)∧(q:Int)<((slotsOf c part).length:Int))∧(0≤(i:Int)∧(i:Int)<(l.length:Int))) oM (fun _ _ h=>h) (PO.one (n:=4) 16 kR ?_))
     refine PO1.gc _ (A:=[]) (fun _=>addI_pc (IntKind.i64.wrap (x.start+(((slotsOf c part).getD q default).at_))) ((l.getD i default).late)) ?_ rfl
     refine PO.one (n:=3) 17 kR (PO1.build (cs:=[I (q:Int),bytesD ((l.getD i default).b),I (addI (IntKind.i64.wrap (x.start+(((slotsOf c part).getD q default).at_))) ((l.getD i default).late))]) rfl rfl kR kR kR (PO.one (n:=2) 18 kR ?_))
     refine PO1.a [1,3,4,6,9,10,11,115,133] 7 (PO.one (n:=1) 19 kR (PO1.mm rfl [1,3,4,6,9,10,11,134] 7 (p:=((xs.length=xs.length∧1≤1)∧(xs.length+1)*40≤140737488355328∧xs.length+1≤9223372036854775807)) oM (PO.ap 2 Say.d xs ((⟨(q:Int),(l.getD i default).b,addI (IntKind.i64.wrap (x.start+(((slotsOf c part).getD q default).at_))) ((l.getD i default).late)⟩:Say)) ?_)))
     refine PO.a [20] 1 [1,3,4,6,9,10,11] 0 (PO.done kR ?_)
     show PW _ _ _ _ _
     refine PW.b [1,3,4,6,9,10,11] 7 ?_
     refine BackR.of (s1:={ tab:=[⟨1,[],I part⟩,⟨3,[],sl' 18 Said.d l⟩,⟨4,[],D.p 0 0 0 0⟩,⟨6,[],D.p 1 0 0 0⟩,⟨9,[],D.h 2 (xs.length+1)⟩,⟨10,[],sl' 3 Slot.d (slotsOf c part)⟩,⟨11,[],I (IntKind.i64.wrap ((i:Int)+1))⟩],mem:=[Obj.var 30 (Config.d c),Obj.var 35 [D.v (.bool x.on),I x.start,sl' 1 (fun x=>[I x]) x.ages],Obj.row 53 3 (xs.length+1) (fun j=>Say.d ((xs++[(⟨(q:Int),(l.getD i default).b,addI (IntKind.i64.wrap (x.start+(((slotsOf c part).getD q default).at_))) ((l.getD i default).late)⟩:Say)]).getD j default))] }) (i+1,xs++[(⟨(q:Int),(l.getD i default).b,addI (IntKind.i64.wrap (x.start+(((slotsOf c part).getD q default).at_))) ((l.getD i default).late)⟩:Say)]) kR kR ?_ ?_ ?_
     ·dsimp only
      rw [wrap1 i oM]
      try simp only [List.length_append,List.length_singleton]
      exact Rem.refl _
     ·dsimp only
      first
      | exact ⟨by omega,says_step hinv.2 oM (say_good (say_fit (by assumption) hk1) hk1 (by assumption))⟩
      | exact ⟨by omega,says_step hinv.2 oM (say_good (say_plain (by assumption)) hk1 (by assumption))⟩
      | exact ⟨by omega,says_step hinv.2 oM (say_bad (say_fit (by assumption) hk1) hk1 (by assumption))⟩
      | exact ⟨by omega,says_step hinv.2 oM (say_bad (say_plain (by assumption)) hk1 (by assumption))⟩
     ·dsimp only
      exact nD
    ·refine PW.k (PW.open [2] kR (PO.tk [0,1,2,3,4,5,6,7,8,9,10,11,12,13,14,15] 21 [1,3,4,6,9,10,11,115,116,117,125,130] 5 (p:=(0≤(q:Int)∧(q:Int)<((slotsOf c part).length:Int))∧(0≤(i:Int)∧(i:Int)<(l.length:Int))) oM (fun _ _ h=>h) (PO.one (n:=4) 16 kR ?_)))
     refine PO1.gc _ (A:=[]) (fun _=>addI_pc (IntKind.i64.wrap (x.start+(((slotsOf c part).getD q default).at_))) ((l.getD i default).late)) ?_ rfl
     refine PO.one (n:=3) 17 kR (PO1.build (cs:=[I (q:Int),bytesD (bytesOf (Fr.spare (fitFrame c part ((slotsOf c part).getD q default) (l.getD i default).f))),I (addI (IntKind.i64.wrap (x.start+(((slotsOf c part).getD q default).at_))) ((l.getD i default).late))]) rfl rfl kR kR kR (PO.one (n:=2) 18 kR ?_))
     refine PO1.a [1,3,4,6,9,10,11,115,133] 7 (PO.one (n:=1) 19 kR (PO1.mm rfl [1,3,4,6,9,10,11,134] 7 (p:=((xs.length=xs.length∧1≤1)∧(xs.length+1)*40≤140737488355328∧xs.length+1≤9223372036854775807)) oM (PO.ap 2 Say.d xs ((⟨(q:Int),bytesOf (Fr.spare (fitFrame c part ((slotsOf c part).getD q default) (l.getD i default).f)),addI (IntKind.i64.wrap (x.start+(((slotsOf c part).getD q default).at_))) ((l.getD i default).late)⟩:Say)) ?_)))
     refine PO.a [20] 1 [1,3,4,6,9,10,11] 0 (PO.done kR ?_)
     show PW _ _ _ _ _
     refine PW.b [1,3,4,6,9,10,11] 7 ?_
     refine BackR.of (s1:={ tab:=[⟨1,[],I part⟩,⟨3,[],sl' 18 Said.d l⟩,⟨4,[],D.p 0 0 0 0⟩,⟨6,[],D.p 1 0 0 0⟩,⟨9,[],D.h 2 (xs.length+1)⟩,⟨10,[],sl' 3 Slot.d (slotsOf c part)⟩,⟨11,[],I (IntKind.i64.wrap ((i:Int)+1))⟩],mem:=[Obj.var 30 (Config.d c),Obj.var 35 [D.v (.bool x.on),I x.start,sl' 1 (fun x=>[I x]) x.ages],Obj.row 53 3 (xs.length+1) (fun j=>Say.d ((xs++[(⟨(q:Int),bytesOf (Fr.spare (fitFrame c part ((slotsOf c part).getD q default) (l.getD i default).f)),addI (IntKind.i64.wrap (x.start+(((slotsOf c part).getD q default).at_))) ((l.getD i default).late)⟩:Say)]).getD j default))] }) (i+1,xs++[(⟨(q:Int),bytesOf (Fr.spare (fitFrame c part ((slotsOf c part).getD q default) (l.getD i default).f)),addI (IntKind.i64.wrap (x.start+(((slotsOf c part).getD q default).at_))) ((l.getD i default).late)⟩:Say)]) kR kR ?_ ?_ ?_
     ·dsimp only
      rw [wrap1 i oM]
      try simp only [List.length_append,List.length_singleton]
      exact Rem.refl _
     ·dsimp only
      first
      | exact ⟨by omega,says_step hinv.2 oM (say_good (say_fit (by assumption) hk1) hk1 (by assumption))⟩
      | exact ⟨by omega,says_step hinv.2 oM (say_good (say_plain (by assumption)) hk1 (by assumption))⟩
      | exact ⟨by omega,says_step hinv.2 oM (say_bad (say_fit (by assumption) hk1) hk1 (by assumption))⟩
      | exact ⟨by omega,says_step hinv.2 oM (say_bad (say_plain (by assumption)) hk1 (by assumption))⟩
     ·dsimp only
      exact nD
   ·skip
    refine PW.open [4] kR (PO.tk [0,1,2,3,4,5,6] 14 [1,3,4,6,9,10,11,12,13,52,53,58] 7 (p:=(0≤(q:Int)∧(q:Int)<((slotsOf c part).length:Int))) oM (fun _ _ h=>h) (PO.next (n:=6) [7,11] kR (by simp) ?_))
    intro i hi
    simp only [List.mem_cons,List.not_mem_nil,or_false] at hi
    rcases hi with rfl|rfl
    ·skip
     refine PO1.gc _ (A:=[]) (fun _=>drumlineref5_Port_pc c part (((slotsOf c part).getD q default).node) hp0 hl0) ?_ rfl
     refine PO.a [8,9,10] 6 [1,3,4,6,9,10,11,12,13,60,61] 3 (PO.one (n:=2) 11 kR ?_)
     refine PO1.a [1,3,4,6,9,10,11,12,13,14,60,61] 5 (PO.one (n:=1) 12 kR ?_)
     refine PO1.a [1,3,4,6,9,10,11,12,13,14,61] 5 ?_
     refine PO.a [13] 1 [1,3,4,6,9,10,11,12,13,14] 0 (PO.done kR ?_)
     exact (show _=_ from by kernel_rfl)
    ·skip
     refine PO1.a [1,3,4,6,9,10,11,12,13,14,52,53,58] 5 (PO.one (n:=5) 7 kR ?_)
     refine PO1.gc _ (A:=[]) (fun _=>drumlineref5_Port_pc c part (((slotsOf c part).getD q default).node) hp0 hl0) ?_ rfl
     refine PO.a [8,9,10] 5 [1,3,4,6,9,10,11,12,13,14,60,61] 2 (PO.one (n:=1) 12 kR ?_)
     refine PO1.a [1,3,4,6,9,10,11,12,13,14,61] 5 ?_
     refine PO.a [13] 1 [1,3,4,6,9,10,11,12,13,14] 0 (PO.done kR ?_)
     exact (show _=_ from by kernel_rfl)
  ·refine PW.k (PW.w 1 [1,3,4,6,9,10,11,12,104] 4 (PL.gc (A:=[]) (fun _=>Fr.encodeR_pc ((l.getD i default).f) (said_ok hL oM).1) (PL.n 5 [1,3,4,6,9,10,11,12,16,17] 4 (PW.q [1,3,4,6,9,10,11,12,16,109] 4 (PW.cd ((if mayB ((l.getD i default).f)=true then (0:Int) else 1) != (0:Int)) ?_ ?_))))) <;> intro hz3 <;> try simp only [boolS] at hz3
   ·refine PW.rr [1,3,4,6,9,10,11,12,16] 4 (p:=(0≤(i:Int)∧(i:Int)<(l.length:Int))) oM ?_
    show PW _ _ _ _ _
    refine PW.open [2] kR (PO.tk [0,1,2,3,4,5,6,7,8,9,10,11,12,13,14,15] 21 [1,3,4,6,9,10,11,115,116,117,125,130] 5 (p:=(0≤(q:Int)∧(q:Int)<((slotsOf c part).length:Int))∧(0≤(i:Int)∧(i:Int)<(l.length:Int))) oM (fun _ _ h=>h) (PO.one (n:=4) 16 kR ?_))
    refine PO1.gc _ (A:=[]) (fun _=>addI_pc (IntKind.i64.wrap (x.start+(((slotsOf c part).getD q default).at_))) ((l.getD i default).late)) ?_ rfl
    refine PO.one (n:=3) 17 kR (PO1.build (cs:=[I (q:Int),bytesD ((l.getD i default).b),I (addI (IntKind.i64.wrap (x.start+(((slotsOf c part).getD q default).at_))) ((l.getD i default).late))]) rfl rfl kR kR kR (PO.one (n:=2) 18 kR ?_))
    refine PO1.a [1,3,4,6,9,10,11,115,133] 5 (PO.one (n:=1) 19 kR (PO1.mm rfl [1,3,4,6,9,10,11,134] 5 (p:=((xs.length=xs.length∧1≤1)∧(xs.length+1)*40≤140737488355328∧xs.length+1≤9223372036854775807)) oM (PO.ap 2 Say.d xs ((⟨(q:Int),(l.getD i default).b,addI (IntKind.i64.wrap (x.start+(((slotsOf c part).getD q default).at_))) ((l.getD i default).late)⟩:Say)) ?_)))
    refine PO.a [20] 1 [1,3,4,6,9,10,11] 0 (PO.done kR ?_)
    show PW _ _ _ _ _
    refine PW.b [1,3,4,6,9,10,11] 5 ?_
    refine BackR.of (s1:={ tab:=[⟨1,[],I part⟩,⟨3,[],sl' 18 Said.d l⟩,⟨4,[],D.p 0 0 0 0⟩,⟨6,[],D.p 1 0 0 0⟩,⟨9,[],D.h 2 (xs.length+1)⟩,⟨10,[],sl' 3 Slot.d (slotsOf c part)⟩,⟨11,[],I (IntKind.i64.wrap ((i:Int)+1))⟩],mem:=[Obj.var 30 (Config.d c),Obj.var 35 [D.v (.bool x.on),I x.start,sl' 1 (fun x=>[I x]) x.ages],Obj.row 53 3 (xs.length+1) (fun j=>Say.d ((xs++[(⟨(q:Int),(l.getD i default).b,addI (IntKind.i64.wrap (x.start+(((slotsOf c part).getD q default).at_))) ((l.getD i default).late)⟩:Say)]).getD j default))] }) (i+1,xs++[(⟨(q:Int),(l.getD i default).b,addI (IntKind.i64.wrap (x.start+(((slotsOf c part).getD q default).at_))) ((l.getD i default).late)⟩:Say)]) kR kR ?_ ?_ ?_
    ·dsimp only
     rw [wrap1 i oM]
     try simp only [List.length_append,List.length_singleton]
     exact Rem.refl _
    ·dsimp only
     first
     | exact ⟨by omega,says_step hinv.2 oM (say_good (say_fit (by assumption) hk1) hk1 (by assumption))⟩
     | exact ⟨by omega,says_step hinv.2 oM (say_good (say_plain (by assumption)) hk1 (by assumption))⟩
     | exact ⟨by omega,says_step hinv.2 oM (say_bad (say_fit (by assumption) hk1) hk1 (by assumption))⟩
     | exact ⟨by omega,says_step hinv.2 oM (say_bad (say_plain (by assumption)) hk1 (by assumption))⟩
    ·dsimp only
     exact nD
   ·refine PW.k (PW.open [2] kR (PO.tk [0,1,2,3,4,5,6,7,8,9,10,11,12,13,14,15] 21 [1,3,4,6,9,10,11,115,116,117,125,130] 5 (p:=(0≤(q:Int)∧(q:Int)<((slotsOf c part).length:Int))∧(0≤(i:Int)∧(i:Int)<(l.length:Int))) oM (fun _ _ h=>h) (PO.one (n:=4) 16 kR ?_)))
    refine PO1.gc _ (A:=[]) (fun _=>addI_pc (IntKind.i64.wrap (x.start+(((slotsOf c part).getD q default).at_))) ((l.getD i default).late)) ?_ rfl
    refine PO.one (n:=3) 17 kR (PO1.build (cs:=[I (q:Int),bytesD (bytesOf ((l.getD i default).f)),I (addI (IntKind.i64.wrap (x.start+(((slotsOf c part).getD q default).at_))) ((l.getD i default).late))]) rfl rfl kR kR kR (PO.one (n:=2) 18 kR ?_))
    refine PO1.a [1,3,4,6,9,10,11,115,133] 5 (PO.one (n:=1) 19 kR (PO1.mm rfl [1,3,4,6,9,10,11,134] 5 (p:=((xs.length=xs.length∧1≤1)∧(xs.length+1)*40≤140737488355328∧xs.length+1≤9223372036854775807)) oM (PO.ap 2 Say.d xs ((⟨(q:Int),bytesOf ((l.getD i default).f),addI (IntKind.i64.wrap (x.start+(((slotsOf c part).getD q default).at_))) ((l.getD i default).late)⟩:Say)) ?_)))
    refine PO.a [20] 1 [1,3,4,6,9,10,11] 0 (PO.done kR ?_)
    show PW _ _ _ _ _
    refine PW.b [1,3,4,6,9,10,11] 5 ?_
    refine BackR.of (s1:={ tab:=[⟨1,[],I part⟩,⟨3,[],sl' 18 Said.d l⟩,⟨4,[],D.p 0 0 0 0⟩,⟨6,[],D.p 1 0 0 0⟩,⟨9,[],D.h 2 (xs.length+1)⟩,⟨10,[],sl' 3 Slot.d (slotsOf c part)⟩,⟨11,[],I (IntKind.i64.wrap ((i:Int)+1))⟩],mem:=[Obj.var 30 (Config.d c),Obj.var 35 [D.v (.bool x.on),I x.start,sl' 1 (fun x=>[I x]) x.ages],Obj.row 53 3 (xs.length+1) (fun j=>Say.d ((xs++[(⟨(q:Int),bytesOf ((l.getD i default).f),addI (IntKind.i64.wrap (x.start+(((slotsOf c part).getD q default).at_))) ((l.getD i default).late)⟩:Say)]).getD j default))] }) (i+1,xs++[(⟨(q:Int),bytesOf ((l.getD i default).f),addI (IntKind.i64.wrap (x.start+(((slotsOf c part).getD q default).at_))) ((l.getD i default).late)⟩:Say)]) kR kR ?_ ?_ ?_
    ·dsimp only
     rw [wrap1 i oM]
     try simp only [List.length_append,List.length_singleton]
     exact Rem.refl _
    ·dsimp only
     first
     | exact ⟨by omega,says_step hinv.2 oM (say_good (say_fit (by assumption) hk1) hk1 (by assumption))⟩
     | exact ⟨by omega,says_step hinv.2 oM (say_good (say_plain (by assumption)) hk1 (by assumption))⟩
     | exact ⟨by omega,says_step hinv.2 oM (say_bad (say_fit (by assumption) hk1) hk1 (by assumption))⟩
     | exact ⟨by omega,says_step hinv.2 oM (say_bad (say_plain (by assumption)) hk1 (by assumption))⟩
    ·dsimp only
     exact nD
 ·refine PW.e (PW.t [8] 3 (retQ_ret (d:=D.s xs.length 3 (fun j=>Say.d (xs.getD j default))) (ps:=[xs.length≤xs.length]) kR (show (xs.length≤xs.length) from by exact nD) ?_))
  left
  have e9:saysOf c part x l=xs:=by
    unfold saysOf
    rw [hinv.2,show i=l.length by omega,List.take_length]
  rw [e9]
  rfl
theorem says_pc (c:Config) (part:Int) (x:Guard) (l:List Said) (hl:l.length<1000000) (hL:∀ s ∈ l,SaidOk s) (hf:fitB c=true) (hp:isB part c.parts.length=true) (hn:1≤(slotsOf c part).length) (hp0:c.parts.length<1000000) (hl0:c.links.length<1000000):PC Tryz.prog [] 17 [D.r (Config.d c),I part,D.r (Guard.d x),sl' 18 Said.d l] (· = sl' 3 Say.d (saysOf c part x l)):=(says_pc0 c part x l hl hL hf hp hn hp0 hl0).list
end Go.Proofs.YtdomlccfjnkbjaaGreatDoor.Pl
