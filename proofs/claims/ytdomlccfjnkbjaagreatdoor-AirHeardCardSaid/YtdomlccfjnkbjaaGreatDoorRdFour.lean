/- Package frame's read, open. -/
import Derived.Test.YtdomlccfjnkbjaaGreatDoorRdThree
import Derived.Test.YtdomlccfjnkbjaaGreatDoorFrAlive
import Derived.Test.YtdomlccfjnkbjaaGreatDoorSmOpen
import Derived.Test.YtdomlccfjnkbjaaGreatDoorDpCut
namespace Go.Proofs.YtdomlccfjnkbjaaGreatDoor.Pl
open Go.RowKit Go.Proofs.YtdomlccfjnkbjaaGreatDoor.Sm Go.Proofs.YtdomlccfjnkbjaaGreatDoor.Dp
open Go.Proofs.YtdomlccfjnkbjaaGreatDoor.Wr
open Go.Proofs.YtdomlccfjnkbjaaGreatDoor.Fr (runP runP_ok runP_error numP stOf first)
set_option maxHeartbeats 4000000
set_option maxRecDepth 100000
set_option linter.unusedVariables false
set_option linter.unusedSimpArgs false
theorem read_end {x:List UInt8} {F:Fr.Frame} {o:Option (Int×Nat)} {p:Nat} {s:Except (Int×Nat) Nat} (hx:1≤x.length) (hE:EndX x F s) (hs:s=stOf o p):Fr.readX x=match o with|some z => .error z|none=>if p<x.length then .error (3,p) else .ok F:=by
 rw [Fr.readX_run hx]
 obtain ⟨h1,h2⟩:=hE
 subst hs
 cases hf:Fr.frameX x 0 with
 | error z =>
  rw [runP_error hf] at h1
  cases o with
  | none=>cases h1
  | some y=>injection h1 with h1; subst h1; rfl
 | ok r =>
  rw [runP_ok hf] at h1 h2
  cases o with
  | some y=>cases h1
  | none =>
   have h3:r.1=F:=h2 r.2 h1.symm
   injection h1 with h1
   subst h1
   subst h3
   rfl
def RdR (e:Nat→Addr) (r:Except (Int×Nat) Fr.Frame) (d:D):Prop:=(∃ z,r = .error z∧d=D.t [D.r (Fr.frC (Fr.bare 0 0 0) (.v (.slice none 0 0)) (.v (.slice none 0 0))),erD e (some z)])∨(∃ F,r = .ok F∧d=D.t [D.r (Fr.frD F),.v .nilIface])∨∃ z,r = .error z∧d=D.t [D.r (Fr.frC (Fr.bare 0 0 0) (.v (.slice none 0 0)) (.v (.slice none 0 0))),.i 139 (.q [sentD e (erK z.1),I (z.2:Int)] 0)]
theorem RdR.coarse {e:Nat→Addr} {r:Except (Int×Nat) Fr.Frame} {d:D} (h:RdR e r d):∃ d',d'=D.t [D.r (Fr.frD (Fr.frOf r)),erD e (Fr.errOf r)]∧∀ (w:World) (ok:Nat→Prop) (v:Value),RepC w ok d v→RepC w ok d' v:=by
 refine ⟨_,rfl,fun w ok v hv => ?_⟩
 rcases h with ⟨z,rfl,rfl⟩|⟨F,rfl,rfl⟩|⟨z,rfl,rfl⟩ <;> cases hv with
 | t hl hd =>
  refine .t hl fun j d u a b => ?_
  match j,a with
  | 0,a=>cases a; first|exact hd 0 _ u rfl b|exact Fr.rep_frD (.inr ⟨rfl,rfl⟩) (.inr ⟨rfl,rfl⟩) (hd 0 _ u rfl b)
  | 1,a =>
   cases a
   have h1:=hd 1 _ u rfl b
   first
   | exact h1
   | (cases h1; exact .e0)
   | (cases h1 with|i h1=>exact .e1 h1)
  | j+2,a=>exact absurd a (by simp)
theorem read_pc0 (e:Nat→Addr) (x:List UInt8) (hx:x.length≤1000000) (hx1:1≤x.length):PC Tryz.prog (errG4 e) 92 [bytesD x] (RdR e (Fr.readX x)):=by
 refine PC.of (N:=39) Tryz.func92 rfl rfl (Nat.le_of_ble_eq_true rfl) ?_
 have hS0:SO e x (.ok 0) (rmem e x 0 false none):=⟨0,false,none,rfl,Nat.zero_le _,rfl,fun _=>rfl⟩
 refine PW.a [0,2] 1 (PW.w 1 [0,2,6] 1 (PL.ci (G:=(errG4 e)) (PI.more (wrNew_pi x hx)) ?_))
 rintro _ _ ⟨rfl,rfl⟩
 refine PL.sl [0,2,7] 2 (PL.sl [0,2,7] 2 (PL.build (cs:=[D.p 1 0 0 0,D.v (.nilIface)]) rfl kR kR kR (PL.n 2 [0,2,4] 3 (PW.w 1 [0,2,4,10] 3 (PL.ci (frame_pi e x hx hx1 hS0) ?_)))))
 rintro _ _ ⟨F,s1,hE,rfl,hS1⟩
 obtain ⟨p1,bad1,o1,rfl,hp1,hq1,hb1⟩:=id hS1
 refine PL.sl [0,2,4,11] 3 (PL.n 2 [0,2,4,5] 4 (PW.seq (PW.w 4 [0,2,4,5,15] 4 (PL.bo (G:=(errG4 e)) (ps:=[]) trivial (PC.more (wrAt_pc x p1 bad1)) (PL.n 3 [2,4,5,19] 4 (PW.cd (decide ((p1:Int)<(x.length:Int))) (fun hz0 => ?_) (fun hz0 => ?_)))))))
 ·try simp only [boolS] at hz0
  refine PW.open [0,1,2,3] kR ?_
  refine PO.a [0,1,2,3,4] 8 [2,4,5,20,21,24] 3 (PO.one (n:=2) 5 kR (PO1.val [2,4,5,20,21,25] 4 (s':={ tab:=[⟨2,[],D.p 0 0 0 0⟩,⟨4,[],D.p 2 0 0 0⟩,⟨5,[],D.p 3 0 0 0⟩,⟨20,[],D.p 2 0 0 0⟩,⟨21,[],sentD e 11⟩,⟨25,[],D.p 1 0 0 0⟩],mem:=(rmem e x p1 bad1 o1++[Obj.var 25 [I F.kind,I F.part,I F.node,I F.wait,I F.mask,I F.link,D.v (.bool F.flag),I F.cycle,I F.offset,sl' 1 (fun x=>[I x]) F.ages,I F.frm,I F.to,I F.seq,bytesD F.body]]),gl:=(errG4 e) }) (p:=True) rfl kR kR kR kR kR kR kR kR (by trivial) (PO.one (n:=1) 6 kR ?_)))
  refine PO1.bo (G:=(errG4 e)) (ps:=[]) _ trivial (PC.more (wrAt_pc x p1 bad1)) ?_ rfl
  refine PO.one (n:=0) 7 kR ?_
  refine PO1.ci _ (G:=(errG4 e)) (PI.more (PI.frame [Obj.var 25 [I F.kind,I F.part,I F.node,I F.wait,I F.mask,I F.link,D.v (.bool F.flag),I F.cycle,I F.offset,sl' 1 (fun x=>[I x]) F.ages,I F.frm,I F.to,I F.seq,bytesD F.body]] (fail_pj e x p1 bad1 o1 (by first|omega|exact atN_le oM) hx 3 p1 11 (by decide) (p1:Int) rfl) (fun _ _ h=>by rw [h.2]; rfl))) ?_ rfl
  rintro _ _ ⟨_,rfl,rfl,rfl⟩
  refine PO.sel [2,4,5] 4 rfl kR (PO.done kR ?_)
  show PW _ _ _ _ _
  refine PW.seq (PW.w 4 [2,4,5,31] 4 (PL.en (A:=[]) ((first o1 (3,p1)).isSome) 139 (D.q [sentD e (erO (first o1 (3,p1))),I (erA (first o1 (3,p1)):Int)] 0) ((first o1 (3,p1)).isSome) (by first|exact .inl ⟨rfl,rfl⟩|exact .inr ⟨rfl,rfl⟩) rfl rfl kR (PL.nl (PW.cd ((first o1 (3,p1)).isSome) (fun hz1 => ?_) (fun hz1 => ?_)))))
  ·try simp only [boolS] at hz1
   refine PW.seq (PW.open [0] kR ?_)
   refine PO.a [0,1,2,3,4] 7 [2,33,37] 2 (PO.one (n:=1) 5 kR (PO1.a [2,37] 4 ?_))
   refine PO.a [6] 1 [2,3] 0 (PO.done kR ?_)
   show PW _ _ _ _ _
   refine PW.ret (retQ_ret (d:=D.t [D.r [I 0,I 0,I 0,I 0,I 0,I 0,D.v (.bool false),I 0,I 0,D.v (.slice none 0 0),I 0,I 0,I 0,D.v (.slice none 0 0)],D.e ((first o1 (3,p1)).isSome) 139 (D.q [sentD e (erO (first o1 (3,p1))),I (erA (first o1 (3,p1)):Int)] 0)]) (ps:=[]) kR trivial ?_)
   obtain ⟨z,hz⟩:=isSome_some hz1
   have hr:=read_end hx1 hE hq1
   rw [hz]
   refine .inl ⟨z,?_,rfl⟩
   rw [hr]
   cases o1 with
   | some y=>injection hz with hz; subst hz; rfl
   | none=>injection hz with hz; subst hz; exact if_pos oM
  ·try simp only [boolS] at hz1
   refine PW.k (PW.t [2,3] 4 (retQ_ret (d:=D.t [D.r [I F.kind,I F.part,I F.node,I F.wait,I F.mask,I F.link,D.v (.bool F.flag),I F.cycle,I F.offset,sl' 1 (fun x=>[I x]) F.ages,I F.frm,I F.to,I F.seq,bytesD F.body],D.v (.nilIface)]) (ps:=[]) kR trivial ?_))
   exfalso
   cases o1 <;> simp [first] at hz1
 ·try simp only [boolS] at hz0
  refine PW.k (PW.seq (PW.w 4 [2,4,5,31] 4 (PL.en (A:=[]) o1.isSome 139 (D.q [sentD e (erO o1),I (erA o1:Int)] 0) o1.isSome (by first|exact .inl ⟨rfl,rfl⟩|exact .inr ⟨rfl,rfl⟩) rfl rfl kR (PL.nl (PW.cd o1.isSome (fun hz2 => ?_) (fun hz2 => ?_))))))
  ·try simp only [boolS] at hz2
   refine PW.seq (PW.open [0] kR ?_)
   refine PO.a [0,1,2,3,4] 7 [2,33,37] 2 (PO.one (n:=1) 5 kR (PO1.a [2,37] 4 ?_))
   refine PO.a [6] 1 [2,3] 0 (PO.done kR ?_)
   show PW _ _ _ _ _
   refine PW.ret (retQ_ret (d:=D.t [D.r [I 0,I 0,I 0,I 0,I 0,I 0,D.v (.bool false),I 0,I 0,D.v (.slice none 0 0),I 0,I 0,I 0,D.v (.slice none 0 0)],D.e o1.isSome 139 (D.q [sentD e (erO o1),I (erA o1:Int)] 0)]) (ps:=[]) kR trivial ?_)
   obtain ⟨z,rfl⟩:=isSome_some hz2
   exact .inl ⟨z,read_end hx1 hE hq1,rfl⟩
  ·try simp only [boolS] at hz2
   refine PW.k (PW.t [2,3] 4 (retQ_ret (d:=D.t [D.r [I F.kind,I F.part,I F.node,I F.wait,I F.mask,I F.link,D.v (.bool F.flag),I F.cycle,I F.offset,sl' 1 (fun x=>[I x]) F.ages,I F.frm,I F.to,I F.seq,bytesD F.body],D.v (.nilIface)]) (ps:=[]) kR trivial ?_))
   obtain rfl:=isSome_none hz2
   exact .inr (.inl ⟨F,(read_end hx1 hE hq1).trans (if_neg oM),rfl⟩)
theorem read_pc (e:Nat→Addr) (x:List UInt8) (hx:x.length≤1000000) (hx1:1≤x.length):PC Tryz.prog (errG4 e) 92 [bytesD x] (· = D.t [D.r (Fr.frD (Fr.frOf (Fr.readX x))),erD e (Fr.errOf (Fr.readX x))]):=(read_pc0 e x hx hx1).coarse fun d h=>h.coarse
theorem sopen_pc (l:List UInt8) (hs:l.length≤1000000):PC Tryz.prog [] 91 [bytesD l] (· = .t [bytesD (inner l),.v (.bool (isSealed l))]):=by
 intro κ w vs hκ _ hl hd
 match vs,hl with
 | [v],_ =>
  obtain ⟨a,c,rfl,hr⟩:=rep_bytes (hd 0 _ _ rfl rfl) hκ
  refine Calls.mono (open_calls a _ c l w hr hs) fun e w' ⟨v,h1,h2⟩=>⟨_,_,h1,rfl,.t (vs:=[v,.bool (isSealed l)]) rfl fun j d u k1 k2 => ?_,h2.2⟩
  match j,k1,k2 with
  | 0,k1,k2 =>
   cases k1
   cases k2
   exact (made_rep h2).mono fun b hb=>⟨⟨.inr hb.1,hb.2⟩,rfl⟩
  | 1,k1,k2=>cases k1; cases k2; exact .v _
theorem open_pc0 (e:Nat→Addr) (b:List UInt8) (hb:b.length≤1000000):PC Tryz.prog (errG4 e) 61 [bytesD b] (fun d=>RdR e (Fr.decX b) d∨d=D.t [D.r (Fr.frD (Fr.frOf (Fr.decX b))),erD e (Fr.errOf (Fr.decX b))]):=by
 refine PC.of (N:=33) Tryz.func61 rfl rfl (Nat.le_of_ble_eq_true rfl) ?_
 refine PW.a [0,2] 1 (PW.q [0,2,8] 1 (PW.cd (decide ((b.length:Int)<(7:Int))) (fun hz0 => ?_) (fun hz0 => ?_)))
 ·try simp only [boolS] at hz0
  refine PW.oj ({ tab:=[⟨2,[],D.p 0 0 0 0⟩,⟨3,[],D.i 139 (D.q [sentD e 8,I 0] 0)⟩],mem:=[fr0,Obj.dead],gl:=(errG4 e) }) ?_ ?_
  ·show PW _ _ _ _ _
   refine PW.ret (retQ_ret (d:=D.t [D.r [I 0,I 0,I 0,I 0,I 0,I 0,D.v (.bool false),I 0,I 0,D.v (.slice none 0 0),I 0,I 0,I 0,D.v (.slice none 0 0)],D.i 139 (D.q [sentD e 8,I 0] 0)]) (ps:=[]) kR trivial ?_)
   exact .inl (.inr (.inr ⟨(2,0),if_pos oM,rfl⟩))
  ·skip
   refine PW.open [0] kR ?_
   refine PO.a [0,1,2] 7 [2,9,11] 4 (PO.next (n:=3) [3,5] kR (by simp) ?_)
   intro i hi
   simp only [List.mem_cons,List.not_mem_nil,or_false] at hi
   rcases hi with rfl|rfl
   ·skip
    refine PO1.a [2,9,12] 2 (PO.fz 1 (t:=141) [sentD e 8,I 0] ?_)
    refine PO.a [4] 3 [2,9,13] 2 (PO.one (n:=1) 5 kR (PO1.a [2,13] 2 ?_))
    refine PO.a [6] 1 [2,3] 0 (PO.done kR ?_)
    exact (show _=_ from by kernel_rfl)
   ·skip
    refine PO1.a [2,11] 1 (PO.one (n:=2) 3 kR (PO1.a [2,12] 2 (PO.fz 1 (t:=141) [sentD e 8,I 0] ?_)))
    refine PO.a [4,6] 2 [2,3] 0 (PO.done kR ?_)
    exact (show _=_ from by kernel_rfl)
 ·try simp only [boolS] at hz0
  refine PW.k (PW.w 1 [0,2,15] 1 (PL.gc (G:=(errG4 e)) (A:=[]) (fun _=>PC.more (sopen_pc b hb)) (PL.n 5 [0,2,4,5] 1 (PW.q [0,2,4,20] 1 (PW.cd (!(isSealed b)) (fun hz1 => ?_) (fun hz1 => ?_))))))
  ·try simp only [boolS] at hz1
   refine PW.oj ({ tab:=[⟨2,[],D.p 0 0 0 0⟩,⟨3,[],D.i 139 (D.q [sentD e 9,I (IntKind.i64.wrap ((b.length:Int)-4))] 0)⟩],mem:=[fr0,Obj.dead],gl:=(errG4 e) }) ?_ ?_
   ·show PW _ _ _ _ _
    refine PW.ret (retQ_ret (d:=D.t [D.r [I 0,I 0,I 0,I 0,I 0,I 0,D.v (.bool false),I 0,I 0,D.v (.slice none 0 0),I 0,I 0,I 0,D.v (.slice none 0 0)],D.i 139 (D.q [sentD e 9,I (IntKind.i64.wrap ((b.length:Int)-4))] 0)]) (ps:=[]) kR trivial ?_)
    refine .inl (.inr (.inr ⟨(4,b.length-4),?_,?_⟩))
    · unfold Fr.decX
      rw [if_neg oM,if_neg (by rw [hz1]; decide)]
    · rw [show IntKind.i64.wrap ((b.length:Int)-4)=((b.length-4:Nat):Int) by rw [Ev.wrap_i64 oM oM]; omega]
      rfl
   ·skip
    refine PW.open [0] kR ?_
    refine PO.a [0,1,2,3,4,5] 10 [2,21,26] 4 (PO.next (n:=3) [6,8] kR (by simp) ?_)
    intro i hi
    simp only [List.mem_cons,List.not_mem_nil,or_false] at hi
    rcases hi with rfl|rfl
    ·skip
     refine PO1.a [2,21,27] 2 (PO.fz 1 (t:=141) [sentD e 9,I (IntKind.i64.wrap ((b.length:Int)-4))] ?_)
     refine PO.a [7] 3 [2,21,28] 2 (PO.one (n:=1) 8 kR (PO1.a [2,28] 2 ?_))
     refine PO.a [9] 1 [2,3] 0 (PO.done kR ?_)
     exact (show _=_ from by kernel_rfl)
    ·skip
     refine PO1.a [2,26] 1 (PO.one (n:=2) 6 kR (PO1.a [2,27] 2 (PO.fz 1 (t:=141) [sentD e 9,I (IntKind.i64.wrap ((b.length:Int)-4))] ?_)))
     refine PO.a [7,9] 2 [2,3] 0 (PO.done kR ?_)
     exact (show _=_ from by kernel_rfl)
  ·try simp only [boolS] at hz1
   refine PW.k (PW.w 1 [2,29] 1 (PL.gc (A:=[]) (fun _=>read_pc e (inner b) (by rw [inner_yes hz1,List.length_take]; omega) (by rw [inner_yes hz1,List.length_take]; omega)) (PL.n 4 [2,3] 1 (PW.ret (retQ_ret (d:=D.t [D.r [I ((Fr.frOf (Fr.readX (inner b))).kind),I ((Fr.frOf (Fr.readX (inner b))).part),I ((Fr.frOf (Fr.readX (inner b))).node),I ((Fr.frOf (Fr.readX (inner b))).wait),I ((Fr.frOf (Fr.readX (inner b))).mask),I ((Fr.frOf (Fr.readX (inner b))).link),D.v (.bool ((Fr.frOf (Fr.readX (inner b))).flag)),I ((Fr.frOf (Fr.readX (inner b))).cycle),I ((Fr.frOf (Fr.readX (inner b))).offset),sl' 1 (fun x=>[I x]) ((Fr.frOf (Fr.readX (inner b))).ages),I ((Fr.frOf (Fr.readX (inner b))).frm),I ((Fr.frOf (Fr.readX (inner b))).to),I ((Fr.frOf (Fr.readX (inner b))).seq),bytesD ((Fr.frOf (Fr.readX (inner b))).body)],D.e ((Fr.errOf (Fr.readX (inner b))).isSome) 139 (D.q [sentD e (erO (Fr.errOf (Fr.readX (inner b)))),I (erA (Fr.errOf (Fr.readX (inner b))):Int)] 0)]) (ps:=[]) kR trivial ?_)))))
   refine .inr ?_
   have hd:Fr.decX b=Fr.readX (inner b):=by
     unfold Fr.decX
     rw [if_neg oM,if_pos hz1,inner_yes hz1]
   rw [hd]
   rfl
theorem open_pc (e:Nat→Addr) (b:List UInt8) (hb:b.length≤1000000):PC Tryz.prog (errG4 e) 61 [bytesD b] (· = D.t [D.r (Fr.frD (Fr.frOf (Fr.decX b))),erD e (Fr.errOf (Fr.decX b))]):=(open_pc0 e b hb).coarse fun d h=>h.elim RdR.coarse fun h=>⟨d,h,fun w ok v hv=>hv⟩
end Go.Proofs.YtdomlccfjnkbjaaGreatDoor.Pl
