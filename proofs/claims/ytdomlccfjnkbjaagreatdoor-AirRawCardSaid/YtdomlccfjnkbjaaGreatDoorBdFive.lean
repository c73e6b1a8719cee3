/- Chapter 7, the document's own: ports, fits. -/
import Derived.Test.YtdomlccfjnkbjaaGreatDoorBdFour
namespace Go.Proofs.YtdomlccfjnkbjaaGreatDoor.Pl
open Go.RowKit Go.Proofs.YtdomlccfjnkbjaaGreatDoor.Sm Go.Proofs.YtdomlccfjnkbjaaGreatDoor.Dp
set_option maxHeartbeats 4000000
set_option maxRecDepth 100000
set_option linter.unusedVariables false
set_option linter.unusedSimpArgs false
theorem raw_cnt {c:Config} (hg:(checkP c).1=0) {part:Int}:∀ n,n≤c.links.length→((rawN c.links part n).length:Int)=cntL c.links part n
 | 0,_=>rfl
 | n+1,hn=>by
  have ih:=raw_cnt hg (part:=part) n oM
  have hl:=(good_link (good_of hg) (i:=n) oM).1
  rw [rawN,List.length_append,cntL]
  unfold portsAt
  generalize c.links.getD n default=l at *
  by_cases ha:l.a=part
  ·have hb:¬ l.b=part:=by omega
   simp [ha,hb]
   omega
  ·by_cases hb:l.b=part
   ·simp [ha,hb]; omega
   ·simp [ha,hb]; omega
theorem ports_cnt {c:Config} (hg:(checkP c).1=0) (part:Int):((portsOf c part).length:Int)=portsI c.links part:=by
 rw [← (portsOf_perm hg part).length_eq]
 exact raw_cnt hg _ (Nat.le_refl _)
theorem slotsN_ge (c:Config):∀ {i k:Nat},k<i→3*((portsOf c (k:Int)).length:Int)+(c.parts.getD k default).nodes≤slotsN c i
 | 0,k,h=>absurd h (Nat.not_lt_zero _)
 | i+1,k,h=>by
  unfold slotsN
  rcases Nat.lt_or_ge k i with h1|h1
  ·have:=slotsN_ge c h1
   split <;> omega
  ·have:k=i:=by omega
   subst this
   split <;> omega
theorem slotsN_at (c:Config):∀ i:Nat,slotsN c i=0∨∃ k,k<i∧slotsN c i=3*((portsOf c (k:Int)).length:Int)+(c.parts.getD k default).nodes
 | 0 => .inl rfl
 | i+1=>by
  unfold slotsN
  split
  ·exact .inr ⟨i,by omega,rfl⟩
  ·rcases slotsN_at c i with h|⟨k,h1,h2⟩
   ·exact .inl h
   ·exact .inr ⟨k,by omega,h2⟩
def needI (c:Config) (k:Nat):Int:=c.lead+(3*portsI c.links (k:Int)+(c.parts.getD k default).nodes)*c.slot+c.window
theorem long_gt {c:Config} (hg:(checkP c).1=0) (hs:0≤c.slot) {k:Nat} (hk:k<c.parts.length) (h:c.cycle<needI c k):c.cycle<longI c:=by
 have h1:=slotsN_ge c hk
 rw [ports_cnt hg] at h1
 have h2:=Int.mul_le_mul_of_nonneg_right h1 hs
 unfold needI at h
 unfold longI
 omega
theorem long_le {c:Config} (hg:(checkP c).1=0) (h0:c.lead+c.window≤c.cycle) (h:∀ k,k<c.parts.length→¬ c.cycle<needI c k):¬ c.cycle<longI c:=by
 unfold longI
 rcases slotsN_at c c.parts.length with h1|⟨k,hk,h1⟩
 ·rw [h1]; omega
 ·have h2:=h k hk
  unfold needI at h2
  rw [ports_cnt hg] at h1
  rw [h1]
  exact h2
def fitsI (c:Config):Int:=if ¬ timesI c=0 then timesI c else waitsI c
theorem drumlineref5_ports_pc (c:Config) (part:Int) (hl0:c.links.length<1000000):PC Tryz.prog [] 131 [D.r (Config.d c),I part] (· = I (portsI c.links part)):=by
 refine PC.of (N:=35) Tryz.func131 rfl rfl (Nat.le_of_ble_eq_true rfl) ?_
 refine PW.a [1,2] 1 (PW.a [1,2,5] 1 (PW.q [1,2,5,6] 1 (PW.block (PW.lp (α := Nat×Int) (fun (i,x)=>{ tab:=[⟨1,[],I part⟩,⟨2,[],D.p 0 0 0 0⟩,⟨5,[],I x⟩,⟨6,[],I (i:Int)⟩],mem:=[Obj.var 30 (Config.d c)] }) (fun (i,x)=>i≤c.links.length∧x=cntL c.links part i) (fun (i,x)=>c.links.length-i) [1,2,5,6] 1 (0,0) ?_ ?_))))
 ·dsimp only
  exact ⟨Nat.zero_le _,rfl⟩
 rintro ⟨i,x⟩ hinv
 dsimp only at hinv
 have hx:=cntL_in c.links part i
 show PW _ _ _ _ _
 refine PW.q [1,2,5,6,11] 1 (PW.cd (decide ((i:Int)<(c.links.length:Int))) ?_ ?_) <;> intro hz0 <;> try simp only [boolS,isB_true,isB_false] at hz0
 ·refine PW.k (PW.seq (PW.block (PW.sr [1,2,5,6,31] 1 (p:=(0≤(i:Int)∧(i:Int)<(c.links.length:Int))∧(((((c.links.getD i default).a) == part)=false∧True→0≤(i:Int)∧(i:Int)<(c.links.length:Int)))) nD (PW.cd ((((c.links.getD i default).a) == part)||(((c.links.getD i default).b) == part)) ?_ ?_)))) <;> intro hz1 <;> try simp only [boolS,isB_true,isB_false] at hz1
  ·refine PW.b [1,2,5,6] 1 ?_
   show PW _ _ _ _ _
   refine PW.b [1,2,5,6] 1 ?_
   refine BackR.of (s1:={ tab:=[⟨1,[],I part⟩,⟨2,[],D.p 0 0 0 0⟩,⟨5,[],I (IntKind.i64.wrap (x+2))⟩,⟨6,[],I (IntKind.i64.wrap ((i:Int)+1))⟩],mem:=[Obj.var 30 (Config.d c)] }) (i+1,x+2) kR kR ?_ ?_ ?_
   ·dsimp only
    rw [wrap1 i oM]
    rw [Ev.wrap_i64 oM oM]
    exact Rem.refl _
   ·dsimp only
    refine ⟨by omega,?_⟩
    rw [cntL,← hinv.2]
    grind
   ·dsimp only
    exact nD
  ·refine PW.k (PW.b [1,2,5,6] 1 ?_)
   refine BackR.of (s1:={ tab:=[⟨1,[],I part⟩,⟨2,[],D.p 0 0 0 0⟩,⟨5,[],I x⟩,⟨6,[],I (IntKind.i64.wrap ((i:Int)+1))⟩],mem:=[Obj.var 30 (Config.d c)] }) (i+1,x) kR kR ?_ ?_ ?_
   ·dsimp only
    rw [wrap1 i oM]
    exact Rem.refl _
   ·dsimp only
    refine ⟨by omega,?_⟩
    rw [cntL,← hinv.2]
    grind
   ·dsimp only
    exact nD
 ·refine PW.e (PW.t [4] 1 (rq (I x) ?_))
  rw [hinv.2,show i=c.links.length by omega]
  rfl
theorem need_wrap {c:Config} (hg:(checkP c).1=0) {k:Nat} (hk:k<c.parts.length) (hw:0≤c.window∧c.window≤20000) (hs:0≤c.slot∧c.slot≤1000000) (hl:0≤c.lead∧c.lead≤1000000):IntKind.i64.wrap ((IntKind.i64.wrap (c.lead+(IntKind.i64.wrap ((IntKind.i64.wrap ((IntKind.i64.wrap (3*(portsI c.links (k:Int))))+((c.parts.getD k default).nodes)))*c.slot))))+c.window)=needI c k:=by
 have h1:=nodes_in hg hk
 have h2:=portsOf_len c (k:Int)
 have h3:=ports_cnt hg (k:Int)
 rw [Ev.wrap_i64 (x:=3*portsI c.links (k:Int)) oM oM,Ev.wrap_i64 (x:=3*portsI c.links (k:Int)+(c.parts.getD k default).nodes) oM oM]
 have hm:=mul_in (a:=3*portsI c.links (k:Int)+(c.parts.getD k default).nodes) (b:=c.slot) (A:=48) (B:=1000000) oM oM oM oM
 rw [Ev.wrap_i64 (x:=(3*portsI c.links (k:Int)+(c.parts.getD k default).nodes)*c.slot) oM oM,Ev.wrap_i64 (x:=c.lead+_) oM oM,Ev.wrap_i64 oM oM]
 rfl
theorem drumlineref5_fits_pc (c:Config) (hg:(checkP c).1=0) (h:outI c=0) (hp0:c.parts.length<1000000) (hl0:c.links.length<1000000):PC Tryz.prog [] 100 [D.r (Config.d c)] (· = I (fitsI c)):=by
 refine PC.of (N:=140) Tryz.func100 rfl rfl (Nat.le_of_ble_eq_true rfl) ?_
 have hR:=inR_of h
 have r1:=hR.cyc
 have r2:=hR.dri
 have r3:=hR.rat
 have r4:=hR.ags
 have r5:=hR.los
 have r6:=hR.dc
 have r7:=hR.dc2
 have r8:=hR.edg
 have r9:=hR.slw
 have r10:=hR.stp
 have r11:=hR.asp
 have r12:=hR.jmp
 have r13:=hR.erd
 have r14:=hR.eru
 have r15:=hR.rc
 have hw6:IntKind.i64.wrap (3*(edgeI c))=3*edgeI c:=Ev.wrap_i64 oM oM
 have hw10:IntKind.i64.wrap (c.rate*c.cycle)=c.rate*c.cycle:=Ev.wrap_i64 oM oM
 have hw10b:IntKind.i64.wrap ((jumpI c)*1000000)=jumpI c*1000000:=Ev.wrap_i64 oM oM
 have hlt:IntKind.i64.wrap (c.lost+1)=c.lost+1:=Ev.wrap_i64 oM oM
 have hn6:=parts_in hg
 have hn1:IntKind.i64.wrap ((c.parts.length:Int)-1)=(c.parts.length:Int)-1:=Ev.wrap_i64 oM oM
 have hm1:=mul_in (a:=(c.parts.length:Int)) (b:=c.lost+1) (A:=6) (B:=21) oM oM oM oM
 have hm2:=mul_in (a:=(c.parts.length:Int)-1) (b:=c.lost+1) (A:=5) (B:=21) oM oM oM oM
 have hle:IntKind.i64.wrap ((IntKind.i64.wrap ((c.parts.length:Int)*(c.lost+1)))+2)=(c.parts.length:Int)*(c.lost+1)+2:=by rw [Ev.wrap_i64 (x:=(c.parts.length:Int)*(c.lost+1)) oM oM,Ev.wrap_i64 oM oM]
 have hw11:IntKind.i64.wrap ((IntKind.i64.wrap ((IntKind.i64.wrap ((c.parts.length:Int)-1))*(c.lost+1)))+1)=((c.parts.length:Int)-1)*(c.lost+1)+1:=by rw [hn1,Ev.wrap_i64 (x:=((c.parts.length:Int)-1)*(c.lost+1)) oM oM,Ev.wrap_i64 oM oM]
 have hw15:IntKind.i64.wrap ((c.parts.length:Int)+2)=(c.parts.length:Int)+2:=Ev.wrap_i64 oM oM
 refine PW.a [1] 1 (PW.a [1,3] 1 (PW.sg (PL.row 7 [1,3,4] 1 (s':={ tab:=[⟨1,[],D.p 0 0 0 0⟩,⟨3,[],I (c.parts.length:Int)⟩,⟨4,[],I (IntKind.i64.wrap ((IntKind.i64.wrap ((c.parts.length:Int)*(IntKind.i64.wrap (c.lost+1))))+2))⟩],mem:=[Obj.var 30 (Config.d c)] }) (p:=True) kR kR kR kR kR trivial (PL.eq (s':={ tab:=[⟨1,[],D.p 0 0 0 0⟩,⟨3,[],I (c.parts.length:Int)⟩,⟨4,[],I ((c.parts.length:Int)*(c.lost+1)+2)⟩],mem:=[Obj.var 30 (Config.d c)] }) (by rw [hlt,hle]) (PL.nl (PW.seq (PW.block ?_)))))))
 refine PW.seq (PW.open [] kR ?_)
 refine PO.a [0,1,2] 12 [1,3,4,17,18] 9 (PO.one (n:=8) 3 kR ?_)
 refine PO1.gc _ (A:=[]) (fun _=>drumlineref5_edge_pc c h) ?_ rfl
 refine PO.a [4,5,6,7,8,9,10,11] 8 [1,3,4,15] 0 (PO.done kR ?_)
 show PW _ _ _ _ _
 refine PW.cd ((decide (c.window<(IntKind.i64.wrap (3*(edgeI c)))))||(decide (c.window>(20000:Int)))) ?_ ?_ <;> intro hz0 <;> try simp only [boolS,isB_true,isB_false] at hz0
 ·rw [hw6] at hz0
  refine PW.t [2] 1 (rq (I 6) ?_)
  have ht:timesI c=6:=by
    unfold timesI
    repeat' split
    all_goals omega
  unfold fitsI
  rw [if_pos oM,ht]
 ·rw [hw6] at hz0
  have hw7:IntKind.i64.wrap ((IntKind.i64.wrap (2*c.window))+1)=2*c.window+1:=by rw [Ev.wrap_i64 (x:=2*c.window) oM oM,Ev.wrap_i64 oM oM]
  refine PW.a [1,3,4,27] 1 (PW.cd ((decide (c.slot<(IntKind.i64.wrap ((IntKind.i64.wrap (2*c.window))+1))))||(decide (c.slot>(1000000:Int)))) ?_ ?_) <;> intro hz1 <;> try simp only [boolS,isB_true,isB_false] at hz1
  ·rw [hw7] at hz1
   have hw7:IntKind.i64.wrap ((IntKind.i64.wrap (2*c.window))+1)=2*c.window+1:=by rw [Ev.wrap_i64 (x:=2*c.window) oM oM,Ev.wrap_i64 oM oM]
   refine PW.t [2] 1 (rq (I 7) ?_)
   have ht:timesI c=7:=by
     unfold timesI
     repeat' split
     all_goals omega
   unfold fitsI
   rw [if_pos oM,ht]
  ·rw [hw7] at hz1
   have hw7:IntKind.i64.wrap ((IntKind.i64.wrap (2*c.window))+1)=2*c.window+1:=by rw [Ev.wrap_i64 (x:=2*c.window) oM oM,Ev.wrap_i64 oM oM]
   refine PW.a [1,3,4,40] 1 (PW.cd ((decide (c.lead<c.window))||(decide (c.lead>(1000000:Int)))) ?_ ?_) <;> intro hz2 <;> try simp only [boolS,isB_true,isB_false] at hz2
   ·have hw7:IntKind.i64.wrap ((IntKind.i64.wrap (2*c.window))+1)=2*c.window+1:=by rw [Ev.wrap_i64 (x:=2*c.window) oM oM,Ev.wrap_i64 oM oM]
    refine PW.t [2] 1 (rq (I 8) ?_)
    have ht:timesI c=8:=by
      unfold timesI
      repeat' split
      all_goals omega
    unfold fitsI
    rw [if_pos oM,ht]
   ·have hw7:IntKind.i64.wrap ((IntKind.i64.wrap (2*c.window))+1)=2*c.window+1:=by rw [Ev.wrap_i64 (x:=2*c.window) oM oM,Ev.wrap_i64 oM oM]
    have hw9:∀ k:Nat,k<c.parts.length→IntKind.i64.wrap ((IntKind.i64.wrap (c.lead+(IntKind.i64.wrap ((IntKind.i64.wrap ((IntKind.i64.wrap (3*(portsI c.links (k:Int))))+((c.parts.getD k default).nodes)))*c.slot))))+c.window)=needI c k:=fun k hk=>need_wrap hg hk oM oM oM
    refine PW.k (PW.q [1,3,4,5] 1 (PW.block (PW.lp (α := Nat) (fun i=>{ tab:=[⟨1,[],D.p 0 0 0 0⟩,⟨3,[],I (c.parts.length:Int)⟩,⟨4,[],I ((c.parts.length:Int)*(c.lost+1)+2)⟩,⟨5,[],I (i:Int)⟩],mem:=[Obj.var 30 (Config.d c)] }) (fun i=>i≤c.parts.length∧∀ k,k<i→¬ c.cycle<needI c k) (fun i=>c.parts.length-i) [1,3,4,5] 1 (0) ?_ ?_)))
    ·exact ⟨Nat.zero_le _,fun k hk=>absurd hk (Nat.not_lt_zero _)⟩
    rintro i hinv
    show PW _ _ _ _ _
    refine PW.q [1,3,4,5,53] 1 (PW.cd (decide ((i:Int)<(c.parts.length:Int))) ?_ ?_) <;> intro hz3 <;> try simp only [boolS,isB_true,isB_false] at hz3
    ·have hw7:IntKind.i64.wrap ((IntKind.i64.wrap (2*c.window))+1)=2*c.window+1:=by rw [Ev.wrap_i64 (x:=2*c.window) oM oM,Ev.wrap_i64 oM oM]
     have hw9:∀ k:Nat,k<c.parts.length→IntKind.i64.wrap ((IntKind.i64.wrap (c.lead+(IntKind.i64.wrap ((IntKind.i64.wrap ((IntKind.i64.wrap (3*(portsI c.links (k:Int))))+((c.parts.getD k default).nodes)))*c.slot))))+c.window)=needI c k:=fun k hk=>need_wrap hg hk oM oM oM
     refine PW.k (PW.seq (PW.block (PW.seq (PW.open [] kR (PO.tk [0,1,2,3,6,7,8,9,10,11,13,14,17,18,20,21] 23 [1,3,4,5,57,58,59,67,70,74,77] 7 (p:=(0≤(i:Int)∧(i:Int)<(c.parts.length:Int))) oM (fun _ _ h=>h) (PO.one (n:=6) 4 kR ?_))))))
     refine PO1.gc _ (A:=[]) (fun _=>drumlineref5_ports_pc c (i:Int) hl0) ?_ rfl
     refine PO.a [5,12,15,16,19,22] 6 [1,3,4,5,78] 0 (PO.done kR ?_)
     show PW _ _ _ _ _
     refine PW.cd (decide ((IntKind.i64.wrap ((IntKind.i64.wrap (c.lead+(IntKind.i64.wrap ((IntKind.i64.wrap ((IntKind.i64.wrap (3*(portsI c.links (i:Int))))+((c.parts.getD i default).nodes)))*c.slot))))+c.window))>c.cycle)) ?_ ?_ <;> intro hz4 <;> try simp only [boolS,isB_true,isB_false] at hz4
     ·rw [hw9 i oM] at hz4
      have hw7:IntKind.i64.wrap ((IntKind.i64.wrap (2*c.window))+1)=2*c.window+1:=by rw [Ev.wrap_i64 (x:=2*c.window) oM oM,Ev.wrap_i64 oM oM]
      have hw9:∀ k:Nat,k<c.parts.length→IntKind.i64.wrap ((IntKind.i64.wrap (c.lead+(IntKind.i64.wrap ((IntKind.i64.wrap ((IntKind.i64.wrap (3*(portsI c.links (k:Int))))+((c.parts.getD k default).nodes)))*c.slot))))+c.window)=needI c k:=fun k hk=>need_wrap hg hk oM oM oM
      refine PW.t [2] 1 (rq (I 9) ?_)
      have h9:=long_gt hg oM (show i<c.parts.length by omega) oM
      have ht:timesI c=9:=by
        unfold timesI
        repeat' split
        all_goals omega
      unfold fitsI
      rw [if_pos oM,ht]
     ·rw [hw9 i oM] at hz4
      have hw7:IntKind.i64.wrap ((IntKind.i64.wrap (2*c.window))+1)=2*c.window+1:=by rw [Ev.wrap_i64 (x:=2*c.window) oM oM,Ev.wrap_i64 oM oM]
      have hw9:∀ k:Nat,k<c.parts.length→IntKind.i64.wrap ((IntKind.i64.wrap (c.lead+(IntKind.i64.wrap ((IntKind.i64.wrap ((IntKind.i64.wrap (3*(portsI c.links (k:Int))))+((c.parts.getD k default).nodes)))*c.slot))))+c.window)=needI c k:=fun k hk=>need_wrap hg hk oM oM oM
      refine PW.k (PW.b [1,3,4,5] 1 ?_)
      refine BackR.of (s1:={ tab:=[⟨1,[],D.p 0 0 0 0⟩,⟨3,[],I (c.parts.length:Int)⟩,⟨4,[],I ((c.parts.length:Int)*(c.lost+1)+2)⟩,⟨5,[],I (IntKind.i64.wrap ((i:Int)+1))⟩],mem:=[Obj.var 30 (Config.d c)] }) (i+1) kR kR ?_ ?_ ?_
      ·rw [wrap1 i oM]
       exact Rem.refl _
      ·refine ⟨by omega,fun k hk => ?_⟩
       rcases Nat.lt_or_ge k i with h1|h1
       · exact hinv.2 k h1
       · have:k=i:=by omega
         subst this
         omega
      ·exact nD
    ·have hw7:IntKind.i64.wrap ((IntKind.i64.wrap (2*c.window))+1)=2*c.window+1:=by rw [Ev.wrap_i64 (x:=2*c.window) oM oM,Ev.wrap_i64 oM oM]
     have hw9:∀ k:Nat,k<c.parts.length→IntKind.i64.wrap ((IntKind.i64.wrap (c.lead+(IntKind.i64.wrap ((IntKind.i64.wrap ((IntKind.i64.wrap (3*(portsI c.links (k:Int))))+((c.parts.getD k default).nodes)))*c.slot))))+c.window)=needI c k:=fun k hk=>need_wrap hg hk oM oM oM
     refine PW.e (PW.seq (PW.block (PW.seq (PW.open [] kR ?_))))
     refine PO.a [0,1,2,3,4,5] 10 [1,3,4,84,85] 4 (PO.one (n:=3) 6 kR ?_)
     refine PO1.gc _ (A:=[]) (fun _=>drumlineref5_jump_pc c h) ?_ rfl
     refine PO.a [7,8,9] 3 [1,3,4,79] 0 (PO.done kR ?_)
     show PW _ _ _ _ _
     refine PW.cd (decide ((IntKind.i64.wrap (c.rate*c.cycle))<(IntKind.i64.wrap ((jumpI c)*1000000)))) ?_ ?_ <;> intro hz5 <;> try simp only [boolS,isB_true,isB_false] at hz5
     ·rw [hw10,hw10b] at hz5
      have hw7:IntKind.i64.wrap ((IntKind.i64.wrap (2*c.window))+1)=2*c.window+1:=by rw [Ev.wrap_i64 (x:=2*c.window) oM oM,Ev.wrap_i64 oM oM]
      have hw9:∀ k:Nat,k<c.parts.length→IntKind.i64.wrap ((IntKind.i64.wrap (c.lead+(IntKind.i64.wrap ((IntKind.i64.wrap ((IntKind.i64.wrap (3*(portsI c.links (k:Int))))+((c.parts.getD k default).nodes)))*c.slot))))+c.window)=needI c k:=fun k hk=>need_wrap hg hk oM oM oM
      refine PW.t [2] 1 (rq (I 10) ?_)
      have hn9:=long_le hg (by have:=hinv.2 0 oM; unfold needI at this; have h3:=nodes_in hg (i:=0) oM; have h4:=cntL_in c.links 0 c.links.length; have h5:portsI c.links ((0:Nat):Int)=cntL c.links 0 c.links.length:=rfl; have hm:=Int.mul_nonneg (show 0≤3*portsI c.links ((0:Nat):Int)+(c.parts.getD 0 default).nodes by omega) (show 0≤c.slot by omega); omega) (fun k hk=>hinv.2 k oM)
      have ht:timesI c=10:=by
        unfold timesI
        repeat' split
        all_goals omega
      unfold fitsI
      rw [if_pos oM,ht]
     ·rw [hw10,hw10b] at hz5
      have hw7:IntKind.i64.wrap ((IntKind.i64.wrap (2*c.window))+1)=2*c.window+1:=by rw [Ev.wrap_i64 (x:=2*c.window) oM oM,Ev.wrap_i64 oM oM]
      have hw9:∀ k:Nat,k<c.parts.length→IntKind.i64.wrap ((IntKind.i64.wrap (c.lead+(IntKind.i64.wrap ((IntKind.i64.wrap ((IntKind.i64.wrap (3*(portsI c.links (k:Int))))+((c.parts.getD k default).nodes)))*c.slot))))+c.window)=needI c k:=fun k hk=>need_wrap hg hk oM oM oM
      refine PW.a [1,3,4,89] 1 (PW.cd (decide (c.ages<(IntKind.i64.wrap ((IntKind.i64.wrap ((IntKind.i64.wrap ((c.parts.length:Int)-1))*(IntKind.i64.wrap (c.lost+1))))+1)))) ?_ ?_) <;> intro hz6 <;> try simp only [boolS,isB_true,isB_false] at hz6
      ·rw [hlt,hw11] at hz6
       have hw7:IntKind.i64.wrap ((IntKind.i64.wrap (2*c.window))+1)=2*c.window+1:=by rw [Ev.wrap_i64 (x:=2*c.window) oM oM,Ev.wrap_i64 oM oM]
       have hw9:∀ k:Nat,k<c.parts.length→IntKind.i64.wrap ((IntKind.i64.wrap (c.lead+(IntKind.i64.wrap ((IntKind.i64.wrap ((IntKind.i64.wrap (3*(portsI c.links (k:Int))))+((c.parts.getD k default).nodes)))*c.slot))))+c.window)=needI c k:=fun k hk=>need_wrap hg hk oM oM oM
       refine PW.t [2] 1 (rq (I 11) ?_)
       have hn9:=long_le hg (by have:=hinv.2 0 oM; unfold needI at this; have h3:=nodes_in hg (i:=0) oM; have h4:=cntL_in c.links 0 c.links.length; have h5:portsI c.links ((0:Nat):Int)=cntL c.links 0 c.links.length:=rfl; have hm:=Int.mul_nonneg (show 0≤3*portsI c.links ((0:Nat):Int)+(c.parts.getD 0 default).nodes by omega) (show 0≤c.slot by omega); omega) (fun k hk=>hinv.2 k oM)
       have ht:timesI c=0:=by
         unfold timesI
         repeat' split
         all_goals omega
       have hw:waitsI c=11:=by
         unfold waitsI
         repeat' split
         all_goals omega
       unfold fitsI
       rw [if_neg oM,hw]
      ·rw [hlt,hw11] at hz6
       have hw7:IntKind.i64.wrap ((IntKind.i64.wrap (2*c.window))+1)=2*c.window+1:=by rw [Ev.wrap_i64 (x:=2*c.window) oM oM,Ev.wrap_i64 oM oM]
       have hw9:∀ k:Nat,k<c.parts.length→IntKind.i64.wrap ((IntKind.i64.wrap (c.lead+(IntKind.i64.wrap ((IntKind.i64.wrap ((IntKind.i64.wrap (3*(portsI c.links (k:Int))))+((c.parts.getD k default).nodes)))*c.slot))))+c.window)=needI c k:=fun k hk=>need_wrap hg hk oM oM oM
       refine PW.a [1,3,4,100] 1 (PW.cd ((decide (c.listen<((c.parts.length:Int)*(c.lost+1)+2)))||(decide (c.listen>(60000:Int)))) ?_ ?_) <;> intro hz7 <;> try simp only [boolS,isB_true,isB_false] at hz7
       ·have hw7:IntKind.i64.wrap ((IntKind.i64.wrap (2*c.window))+1)=2*c.window+1:=by rw [Ev.wrap_i64 (x:=2*c.window) oM oM,Ev.wrap_i64 oM oM]
        have hw9:∀ k:Nat,k<c.parts.length→IntKind.i64.wrap ((IntKind.i64.wrap (c.lead+(IntKind.i64.wrap ((IntKind.i64.wrap ((IntKind.i64.wrap (3*(portsI c.links (k:Int))))+((c.parts.getD k default).nodes)))*c.slot))))+c.window)=needI c k:=fun k hk=>need_wrap hg hk oM oM oM
        refine PW.t [2] 1 (rq (I 12) ?_)
        have hn9:=long_le hg (by have:=hinv.2 0 oM; unfold needI at this; have h3:=nodes_in hg (i:=0) oM; have h4:=cntL_in c.links 0 c.links.length; have h5:portsI c.links ((0:Nat):Int)=cntL c.links 0 c.links.length:=rfl; have hm:=Int.mul_nonneg (show 0≤3*portsI c.links ((0:Nat):Int)+(c.parts.getD 0 default).nodes by omega) (show 0≤c.slot by omega); omega) (fun k hk=>hinv.2 k oM)
        have ht:timesI c=0:=by
          unfold timesI
          repeat' split
          all_goals omega
        have hw:waitsI c=12:=by
          unfold waitsI
          repeat' split
          all_goals omega
        unfold fitsI
        rw [if_neg oM,hw]
       ·have hw7:IntKind.i64.wrap ((IntKind.i64.wrap (2*c.window))+1)=2*c.window+1:=by rw [Ev.wrap_i64 (x:=2*c.window) oM oM,Ev.wrap_i64 oM oM]
        have hw9:∀ k:Nat,k<c.parts.length→IntKind.i64.wrap ((IntKind.i64.wrap (c.lead+(IntKind.i64.wrap ((IntKind.i64.wrap ((IntKind.i64.wrap (3*(portsI c.links (k:Int))))+((c.parts.getD k default).nodes)))*c.slot))))+c.window)=needI c k:=fun k hk=>need_wrap hg hk oM oM oM
        refine PW.a [1,3,110] 1 (PW.cd ((decide (c.span<((c.parts.length:Int)*(c.lost+1)+2)))||(decide (c.span>(60000:Int)))) ?_ ?_) <;> intro hz8 <;> try simp only [boolS,isB_true,isB_false] at hz8
        ·have hw7:IntKind.i64.wrap ((IntKind.i64.wrap (2*c.window))+1)=2*c.window+1:=by rw [Ev.wrap_i64 (x:=2*c.window) oM oM,Ev.wrap_i64 oM oM]
         have hw9:∀ k:Nat,k<c.parts.length→IntKind.i64.wrap ((IntKind.i64.wrap (c.lead+(IntKind.i64.wrap ((IntKind.i64.wrap ((IntKind.i64.wrap (3*(portsI c.links (k:Int))))+((c.parts.getD k default).nodes)))*c.slot))))+c.window)=needI c k:=fun k hk=>need_wrap hg hk oM oM oM
         refine PW.t [2] 1 (rq (I 13) ?_)
         have hn9:=long_le hg (by have:=hinv.2 0 oM; unfold needI at this; have h3:=nodes_in hg (i:=0) oM; have h4:=cntL_in c.links 0 c.links.length; have h5:portsI c.links ((0:Nat):Int)=cntL c.links 0 c.links.length:=rfl; have hm:=Int.mul_nonneg (show 0≤3*portsI c.links ((0:Nat):Int)+(c.parts.getD 0 default).nodes by omega) (show 0≤c.slot by omega); omega) (fun k hk=>hinv.2 k oM)
         have ht:timesI c=0:=by
           unfold timesI
           repeat' split
           all_goals omega
         have hw:waitsI c=13:=by
           unfold waitsI
           repeat' split
           all_goals omega
         unfold fitsI
         rw [if_neg oM,hw]
        ·have hw7:IntKind.i64.wrap ((IntKind.i64.wrap (2*c.window))+1)=2*c.window+1:=by rw [Ev.wrap_i64 (x:=2*c.window) oM oM,Ev.wrap_i64 oM oM]
         have hw9:∀ k:Nat,k<c.parts.length→IntKind.i64.wrap ((IntKind.i64.wrap (c.lead+(IntKind.i64.wrap ((IntKind.i64.wrap ((IntKind.i64.wrap (3*(portsI c.links (k:Int))))+((c.parts.getD k default).nodes)))*c.slot))))+c.window)=needI c k:=fun k hk=>need_wrap hg hk oM oM oM
         have hsp:=mul_in (a:=(c.parts.length:Int)) (b:=c.span) (A:=6) (B:=60000) oM oM oM oM
         have hw14:IntKind.i64.wrap (c.listen+(IntKind.i64.wrap ((c.parts.length:Int)*c.span)))=c.listen+(c.parts.length:Int)*c.span:=by rw [Ev.wrap_i64 (x:=(c.parts.length:Int)*c.span) oM oM,Ev.wrap_i64 oM oM]
         refine PW.a [1,3,120] 1 (PW.cd (decide ((IntKind.i64.wrap (c.listen+(IntKind.i64.wrap ((c.parts.length:Int)*c.span))))>(60000:Int))) ?_ ?_) <;> intro hz9 <;> try simp only [boolS,isB_true,isB_false] at hz9
         ·rw [hw14] at hz9
          have hw7:IntKind.i64.wrap ((IntKind.i64.wrap (2*c.window))+1)=2*c.window+1:=by rw [Ev.wrap_i64 (x:=2*c.window) oM oM,Ev.wrap_i64 oM oM]
          have hw9:∀ k:Nat,k<c.parts.length→IntKind.i64.wrap ((IntKind.i64.wrap (c.lead+(IntKind.i64.wrap ((IntKind.i64.wrap ((IntKind.i64.wrap (3*(portsI c.links (k:Int))))+((c.parts.getD k default).nodes)))*c.slot))))+c.window)=needI c k:=fun k hk=>need_wrap hg hk oM oM oM
          have hsp:=mul_in (a:=(c.parts.length:Int)) (b:=c.span) (A:=6) (B:=60000) oM oM oM oM
          have hw14:IntKind.i64.wrap (c.listen+(IntKind.i64.wrap ((c.parts.length:Int)*c.span)))=c.listen+(c.parts.length:Int)*c.span:=by rw [Ev.wrap_i64 (x:=(c.parts.length:Int)*c.span) oM oM,Ev.wrap_i64 oM oM]
          refine PW.t [2] 1 (rq (I 14) ?_)
          have hn9:=long_le hg (by have:=hinv.2 0 oM; unfold needI at this; have h3:=nodes_in hg (i:=0) oM; have h4:=cntL_in c.links 0 c.links.length; have h5:portsI c.links ((0:Nat):Int)=cntL c.links 0 c.links.length:=rfl; have hm:=Int.mul_nonneg (show 0≤3*portsI c.links ((0:Nat):Int)+(c.parts.getD 0 default).nodes by omega) (show 0≤c.slot by omega); omega) (fun k hk=>hinv.2 k oM)
          have ht:timesI c=0:=by
            unfold timesI
            repeat' split
            all_goals omega
          have hw:waitsI c=14:=by
            unfold waitsI
            repeat' split
            all_goals omega
          unfold fitsI
          rw [if_neg oM,hw]
         ·rw [hw14] at hz9
          have hw7:IntKind.i64.wrap ((IntKind.i64.wrap (2*c.window))+1)=2*c.window+1:=by rw [Ev.wrap_i64 (x:=2*c.window) oM oM,Ev.wrap_i64 oM oM]
          have hw9:∀ k:Nat,k<c.parts.length→IntKind.i64.wrap ((IntKind.i64.wrap (c.lead+(IntKind.i64.wrap ((IntKind.i64.wrap ((IntKind.i64.wrap (3*(portsI c.links (k:Int))))+((c.parts.getD k default).nodes)))*c.slot))))+c.window)=needI c k:=fun k hk=>need_wrap hg hk oM oM oM
          have hsp:=mul_in (a:=(c.parts.length:Int)) (b:=c.span) (A:=6) (B:=60000) oM oM oM oM
          have hw14:IntKind.i64.wrap (c.listen+(IntKind.i64.wrap ((c.parts.length:Int)*c.span)))=c.listen+(c.parts.length:Int)*c.span:=by rw [Ev.wrap_i64 (x:=(c.parts.length:Int)*c.span) oM oM,Ev.wrap_i64 oM oM]
          refine PW.a [129] 1 (PW.cd ((decide (c.room<(IntKind.i64.wrap ((c.parts.length:Int)+2))))||(decide (c.room>(64:Int)))) ?_ ?_) <;> intro hz10 <;> try simp only [boolS,isB_true,isB_false] at hz10
          ·rw [hw15] at hz10
           have hw7:IntKind.i64.wrap ((IntKind.i64.wrap (2*c.window))+1)=2*c.window+1:=by rw [Ev.wrap_i64 (x:=2*c.window) oM oM,Ev.wrap_i64 oM oM]
           have hw9:∀ k:Nat,k<c.parts.length→IntKind.i64.wrap ((IntKind.i64.wrap (c.lead+(IntKind.i64.wrap ((IntKind.i64.wrap ((IntKind.i64.wrap (3*(portsI c.links (k:Int))))+((c.parts.getD k default).nodes)))*c.slot))))+c.window)=needI c k:=fun k hk=>need_wrap hg hk oM oM oM
           have hsp:=mul_in (a:=(c.parts.length:Int)) (b:=c.span) (A:=6) (B:=60000) oM oM oM oM
           have hw14:IntKind.i64.wrap (c.listen+(IntKind.i64.wrap ((c.parts.length:Int)*c.span)))=c.listen+(c.parts.length:Int)*c.span:=by rw [Ev.wrap_i64 (x:=(c.parts.length:Int)*c.span) oM oM,Ev.wrap_i64 oM oM]
           refine PW.t [2] 1 (rq (I 15) ?_)
           have hn9:=long_le hg (by have:=hinv.2 0 oM; unfold needI at this; have h3:=nodes_in hg (i:=0) oM; have h4:=cntL_in c.links 0 c.links.length; have h5:portsI c.links ((0:Nat):Int)=cntL c.links 0 c.links.length:=rfl; have hm:=Int.mul_nonneg (show 0≤3*portsI c.links ((0:Nat):Int)+(c.parts.getD 0 default).nodes by omega) (show 0≤c.slot by omega); omega) (fun k hk=>hinv.2 k oM)
           have ht:timesI c=0:=by
             unfold timesI
             repeat' split
             all_goals omega
           have hw:waitsI c=15:=by
             unfold waitsI
             repeat' split
             all_goals omega
           unfold fitsI
           rw [if_neg oM,hw]
          ·rw [hw15] at hz10
           have hw7:IntKind.i64.wrap ((IntKind.i64.wrap (2*c.window))+1)=2*c.window+1:=by rw [Ev.wrap_i64 (x:=2*c.window) oM oM,Ev.wrap_i64 oM oM]
           have hw9:∀ k:Nat,k<c.parts.length→IntKind.i64.wrap ((IntKind.i64.wrap (c.lead+(IntKind.i64.wrap ((IntKind.i64.wrap ((IntKind.i64.wrap (3*(portsI c.links (k:Int))))+((c.parts.getD k default).nodes)))*c.slot))))+c.window)=needI c k:=fun k hk=>need_wrap hg hk oM oM oM
           have hsp:=mul_in (a:=(c.parts.length:Int)) (b:=c.span) (A:=6) (B:=60000) oM oM oM oM
           have hw14:IntKind.i64.wrap (c.listen+(IntKind.i64.wrap ((c.parts.length:Int)*c.span)))=c.listen+(c.parts.length:Int)*c.span:=by rw [Ev.wrap_i64 (x:=(c.parts.length:Int)*c.span) oM oM,Ev.wrap_i64 oM oM]
           refine PW.k (PW.t [2] 1 (rq (I 0) ?_))
           have hn9:=long_le hg (by have:=hinv.2 0 oM; unfold needI at this; have h3:=nodes_in hg (i:=0) oM; have h4:=cntL_in c.links 0 c.links.length; have h5:portsI c.links ((0:Nat):Int)=cntL c.links 0 c.links.length:=rfl; have hm:=Int.mul_nonneg (show 0≤3*portsI c.links ((0:Nat):Int)+(c.parts.getD 0 default).nodes by omega) (show 0≤c.slot by omega); omega) (fun k hk=>hinv.2 k oM)
           have ht:timesI c=0:=by
             unfold timesI
             repeat' split
             all_goals omega
           have hw:waitsI c=0:=by
             unfold waitsI
             repeat' split
             all_goals omega
           unfold fitsI
           rw [if_neg oM,hw]
end Go.Proofs.YtdomlccfjnkbjaaGreatDoor.Pl
