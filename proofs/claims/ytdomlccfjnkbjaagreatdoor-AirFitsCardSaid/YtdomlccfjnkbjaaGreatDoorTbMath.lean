/- Chapter 9: what is so of schedules. -/
import Derived.Test.YtdomlccfjnkbjaaGreatDoorMdA
import Derived.Test.YtdomlccfjnkbjaaGreatDoorBdFour
import Derived.Test.YtdomlccfjnkbjaaGreatDoorAiDef
import Derived.Test.YtdomlccfjnkbjaaGreatDoorBdFive
import Derived.Test.YtdomlccfjnkbjaaGreatDoorFrEncM
import Derived.Test.YtdomlccfjnkbjaaGreatDoorPlS
namespace Go.Proofs.YtdomlccfjnkbjaaGreatDoor.Pl
open Go.RowKit Go.Proofs.YtdomlccfjnkbjaaGreatDoor.Sm Go.Proofs.YtdomlccfjnkbjaaGreatDoor.Dp
set_option maxHeartbeats 4000000
set_option maxRecDepth 100000
set_option linter.unusedVariables false
theorem net_slots (p sh:Nat) (h1:1≤p) (h4:p≤4) (hs:sh<4) (cy dr ag lo li ca:Int):decide (slotsN (cfg1 (netOf p sh).1 (netOf p sh).2 cy dr ag lo li ca) (cfg1 (netOf p sh).1 (netOf p sh).2 cy dr ag lo li ca).parts.length≤40)=true :=
 nets16 (Q:=fun p sh=>∀ cy dr ag lo li ca:Int,decide (slotsN (cfg1 (netOf p sh).1 (netOf p sh).2 cy dr ag lo li ca) (cfg1 (netOf p sh).1 (netOf p sh).2 cy dr ag lo li ca).parts.length≤40)=true)
  (by refine ⟨?_,?_,?_,?_,?_,?_,?_,?_,?_,?_,?_,?_,?_,?_,?_,?_⟩ <;> (intros; kernel_rfl)) p sh h1 h4 hs cy dr ag lo li ca
theorem made_slots (n:Int):slotsN (madeC n) (madeC n).parts.length≤40 :=
 of_decide_eq_true (made_ind (Q:=fun c=>decide (slotsN c c.parts.length≤40)=true) net_slots n)
theorem net0_right (p sh:Nat) (h1:1≤p) (h4:p≤4) (hs:sh<4) (cy dr ag lo li ca:Int):checkP (cfg0 (netOf p sh).1 (netOf p sh).2 cy dr ag lo li ca)=(0,0) :=
 nets16 (Q:=fun p sh=>∀ cy dr ag lo li ca:Int,checkP (cfg0 (netOf p sh).1 (netOf p sh).2 cy dr ag lo li ca)=(0,0))
  (by refine ⟨?_,?_,?_,?_,?_,?_,?_,?_,?_,?_,?_,?_,?_,?_,?_,?_⟩ <;> (intros; kernel_rfl)) p sh h1 h4 hs cy dr ag lo li ca
structure Nums (c:Config):Prop where
 cyc:20000≤c.cycle∧c.cycle≤27000
 led:c.lead=60
 slt:c.slot=100
 win:c.window=3*edgeI c
 dri:0≤c.drift∧c.drift≤140
 rat:c.rate=300000
 los:0≤c.lost∧c.lost≤1
 spn:c.span=(c.parts.length:Int)*(c.lost+1)+2
 lis:c.span≤c.listen∧c.listen≤c.span+1
 ags:((c.parts.length:Int)-1)*(c.lost+1)+1≤c.ages∧c.ages≤((c.parts.length:Int)-1)*(c.lost+1)+4
 rom:c.room=12
 prt:1≤c.parts.length∧c.parts.length≤4
theorem made_nums (n:Int):Nums (madeC n):=by
 have hl:=madeC_len n
 have hp:((madeC n).parts.length:Int)=((1+n%65536%4).toNat:Int):=by
  rw [madeC_parts,(netOf_len _ _ oM).1]
 have h0:0≤n%65536:=Int.emod_nonneg _ (by decide)
 have hlo:(madeC n).lost=n%65536/1024%2:=rfl
 have hsp:(madeC n).span=((1+n%65536%4).toNat:Int)*(n%65536/1024%2+1)+2:=rfl
 have hli:(madeC n).listen=((1+n%65536%4).toNat:Int)*(n%65536/1024%2+1)+2+n%65536/8192%2:=rfl
 have hag:(madeC n).ages=(((1+n%65536%4).toNat:Int)-1)*(n%65536/1024%2+1)+1+n%65536/2048%4:=rfl
 have hcy:(madeC n).cycle=20000+1000*(n%65536/16%8):=rfl
 have hdr:(madeC n).drift=20*(n%65536/128%8):=rfl
 have m1:=mul_two (p:=((1+n%65536%4).toNat:Int)-1) (lo:=n%65536/1024%2) oM oM
 refine ⟨by omega,rfl,rfl,?_,by omega,rfl,by omega,by rw [hsp,hp,hlo],by omega,by rw [hag,hp,hlo]; omega,rfl,by omega⟩
 have hc0:=net0_right (1+n%65536%4).toNat (n%65536/4%4).toNat oM oM oM
 rw [Int.toNat_of_nonneg (Int.emod_nonneg _ (by decide))] at hc0
 show 3*edgeR (cfg0 _ _ _ _ _ _ _ _)=3*edgeI (madeC n)
 have hr:rangedB (cfg0 (madeC n).parts (madeC n).links (madeC n).cycle (madeC n).drift (madeC n).ages (madeC n).lost (madeC n).listen (madeC n).span)=true:=by
  refine (rangedB_iff _).2 ⟨congrArg Prod.fst (hc0 _ _ _ _ _ _),outI_zero.2 ⟨?_,?_,?_,?_,?_⟩⟩
  ·show 1000≤(madeC n).cycle∧(madeC n).cycle≤1000000
   omega
  ·show 0≤(madeC n).drift∧(madeC n).drift≤500
   omega
  ·show (0:Int)≤300000∧(300000:Int)≤400000
   decide
  ·show 1≤(madeC n).ages∧(madeC n).ages≤200
   rw [hag]
   rw [m1]
   split <;> omega
  ·show 0≤(madeC n).lost∧(madeC n).lost≤20
   omega
 congr 1
 exact if_pos hr
theorem Nums.all {c:Config} (h:Nums c):outI c=0∧(1≤edgeI c∧edgeI c≤9)∧jumpI c≤956:=by
 obtain ⟨h1,h2,h3,h4,h5,h6,h7,h8,h9,h10,h11,h12⟩:=h
 have m2:=mul_two (p:=(c.parts.length:Int)-1) h7.1 oM
 have ha:1≤c.ages∧c.ages≤10:=by
  rw [m2] at h10
  revert h10
  split <;> omega
 have ho:outI c=0:=outI_zero.2 ⟨by omega,by omega,by omega,by omega,by omega⟩
 have hR:=inR_of ho
 have hm:=mul_in (a:=c.drift) (b:=c.cycle) (A:=140) (B:=27000) oM oM oM oM
 have hm2:=hR.dc2
 have hu:=upI_in (drift_cycle ho).1
 have hu2:=upI_in hR.dc.1
 have he:1≤edgeI c∧edgeI c≤9:=by unfold edgeI; omega
 have hs:0≤slewI c∧slewI c≤4:=by unfold slewI; omega
 have hst:6≤stepI c∧stepI c≤46:=by unfold stepI; omega
 have hj:=mul_in (a:=2*c.ages) (b:=stepI c) (A:=20) (B:=46) oM oM oM oM
 exact ⟨ho,he,by unfold jumpI; omega⟩
theorem nums_fit {c:Config} (h:Nums c) (hg:(checkP c).1=0) (hs:slotsN c c.parts.length≤40):fitB c=true:=by
 obtain ⟨ho,he,hj⟩:=h.all
 have hsl:=slotsN_in hg c.parts.length (Nat.le_refl _)
 obtain ⟨h1,h2,h3,h4,h5,h6,h7,h8,h9,h10,h11,h12⟩:=h
 have ht:timesI c=0:=by
  have hrc:c.rate*c.cycle=300000*c.cycle:=by rw [h6]
  have hlong:longI c=60+slotsN c c.parts.length*100+3*edgeI c:=by unfold longI; rw [h2,h3,h4]
  unfold timesI
  repeat' split
  all_goals omega
 have hw:waitsI c=0:=by
  have m1:=mul_two (p:=(c.parts.length:Int)) h7.1 oM
  have hn:0≤(c.parts.length:Int)*(c.lost+1)∧(c.parts.length:Int)*(c.lost+1)≤8:=by rw [m1]; split <;> omega
  have hsp:=mul_in (a:=(c.parts.length:Int)) (b:=c.span) (A:=4) (B:=10) oM oM oM oM
  unfold waitsI
  repeat' split
  all_goals omega
 unfold fitB
 rw [decide_eq_true hg]
 have hc:condI c=0:=by
  unfold condI
  rw [if_neg (fun x=>x ho),if_neg (fun x=>x ht),hw]
 rw [decide_eq_true hc]
 rfl
theorem made_fit (n:Int):fitB (madeC n)=true:=nums_fit (made_nums n) (by rw [made_right n]) (made_slots n)
set_option linter.unusedSimpArgs false
theorem ttmod {x:Int} {n:Nat} (h0:0≤x∧x≤65535) (hn:1≤n):∃ p:Int,(IntKind.i64.wrap x).tmod (n:Int)=p∧0≤p∧p<(n:Int):=by
 rw [Ev.wrap_i64 oM oM,Int.tmod_eq_emod_of_nonneg h0.1]
 exact ⟨_,rfl,Int.emod_nonneg _ oM,Int.emod_lt_of_pos _ oM⟩
theorem slots_fit {c:Config} {part:Int} (hf:fitB c=true) (hp:isB part c.parts.length=true):slotsOf c part=slN c 0 (keysOf (portsOf c part) (nodesI c part).toNat):=if_pos ⟨hf,hp⟩
theorem slots_len {c:Config} {part:Int} (hf:fitB c=true) (hp:isB part c.parts.length=true):((slotsOf c part).length:Int)=3*((portsOf c part).length:Int)+nodesI c part:=by
 have:=tnodes_in hf hp
 rw [slots_fit hf hp,slN_len,keysOf_len]
 omega
theorem slots_at {c:Config} {part:Int} (hf:fitB c=true) (hp:isB part c.parts.length=true) {i:Nat} (hi:i<(slotsOf c part).length):(slotsOf c part).getD i default=slotK c ((keysOf (portsOf c part) (nodesI c part).toNat).getD i default) i:=by
 rw [slots_fit hf hp,slN_len] at hi
 rw [slots_fit hf hp,slN_get _ _ _ _ hi,Nat.zero_add]
theorem net_five (p sh:Nat) (h1:1≤p) (h4:p≤4) (hs:sh<4) (cy dr ag lo li ca:Int):(cfg1 (netOf p sh).1 (netOf p sh).2 cy dr ag lo li ca).parts.all (fun q=>decide (5≤q.nodes))=true :=
 nets16 (Q:=fun p sh=>∀ cy dr ag lo li ca:Int,(cfg1 (netOf p sh).1 (netOf p sh).2 cy dr ag lo li ca).parts.all (fun q=>decide (5≤q.nodes))=true)
  (by refine ⟨?_,?_,?_,?_,?_,?_,?_,?_,?_,?_,?_,?_,?_,?_,?_,?_⟩ <;> (intros; kernel_rfl)) p sh h1 h4 hs cy dr ag lo li ca
structure Sched (c:Config) (part:Int):Prop where
 fit:fitB c=true
 here:isB part c.parts.length=true
 many:5≤(slotsOf c part).length∧(slotsOf c part).length≤40
 at_:∀ i,i<(slotsOf c part).length→((slotsOf c part).getD i default).at_=60+100*(i:Int)
 win:3≤c.window∧c.window≤27
 slt:c.slot=100
 cyc:20000≤c.cycle∧c.cycle≤27000
theorem made_sched (n:Int) {part:Int} (hp:0≤part∧part<((madeC n).parts.length:Int)):Sched (madeC n) part:=by
 have hf:=made_fit n
 have N:=made_nums n
 have hB:isB part (madeC n).parts.length=true:=by rw [isB_true]; exact hp
 have h5:=made_ind (Q:=fun c=>c.parts.all (fun q=>decide (5≤q.nodes))=true) net_five n
 have hl:=slots_len hf hB
 have hs:=made_slots n
 have hge:=slotsN_ge (madeC n) (i:=(madeC n).parts.length) (k:=part.toNat) oM
 have hn5:5≤nodesI (madeC n) part:=by
  have hi:part.toNat<(madeC n).parts.length:=by omega
  have:=List.all_eq_true.1 h5 _ (List.getElem_mem hi)
  unfold nodesI
  rw [List.getD_eq_getElem?_getD,List.getElem?_eq_getElem hi]
  exact of_decide_eq_true this
 have he:=N.all.2.1
 have hw:=N.win
 rw [Int.toNat_of_nonneg hp.1] at hge
 have hge':3*((portsOf (madeC n) part).length:Int)+nodesI (madeC n) part≤slotsN (madeC n) (madeC n).parts.length:=hge
 refine ⟨hf,hB,by omega,fun i hi => ?_,by omega,N.slt,N.cyc⟩
 rw [slots_at hf hB hi]
 show atI (madeC n) i=_
 unfold atI
 rw [N.slt,N.led,Ev.wrap_i64 (x:=(i:Int)*100) oM oM,Ev.wrap_i64 oM oM]
 try omega
end Go.Proofs.YtdomlccfjnkbjaaGreatDoor.Pl
