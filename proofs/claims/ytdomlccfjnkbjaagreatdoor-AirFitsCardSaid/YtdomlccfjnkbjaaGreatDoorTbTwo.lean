/- Package table's Slots. -/
import Derived.Test.YtdomlccfjnkbjaaGreatDoorBdFive
import Derived.Test.YtdomlccfjnkbjaaGreatDoorDpC
import Derived.Test.YtdomlccfjnkbjaaGreatDoorAiDef
import Derived.Test.YtdomlccfjnkbjaaGreatDoorPlS
namespace Go.Proofs.YtdomlccfjnkbjaaGreatDoor.Pl
open Go.RowKit Go.Proofs.YtdomlccfjnkbjaaGreatDoor.Sm Go.Proofs.YtdomlccfjnkbjaaGreatDoor.Dp
set_option maxHeartbeats 4000000
set_option maxRecDepth 100000
set_option linter.unusedVariables false
set_option linter.unusedSimpArgs false
theorem fitsP_zero (c:Config):(fitsP c).1=0↔fitB c=true:=by
 unfold fitsP fitB
 by_cases hg:(checkP c).1=0
 ·by_cases hk:condI c=0
  ·simp [hg,hk]
  ·simp [hg,hk]
 ·simp [hg]
theorem condI_fits {c:Config} (h:outI c=0):condI c=fitsI c:=by unfold condI fitsI; rw [if_neg (fun x=>x h)]
theorem condI_out {c:Config} (h:¬ outI c=0):condI c=outI c:=if_pos h
theorem fitsP_check {c:Config} (h:¬ (checkP c).1=0):fitsP c=checkP c:=if_neg h
theorem fitsP_bad {c:Config} (hg:(checkP c).1=0) (h:¬ condI c=0):fitsP c=(14,condI c):=by unfold fitsP; rw [if_pos hg,if_neg h]
theorem fitsP_good {c:Config} (hg:(checkP c).1=0) (h:condI c=0):fitsP c=(0,0):=by unfold fitsP; rw [if_pos hg,if_pos h]
theorem drumlineref5_Fits_pc (c:Config) (hp0:c.parts.length<1000000) (hl0:c.links.length<1000000):PC Tryz.prog [] 66 [D.r (Config.d c)] (· = D.t [I (fitsP c).1,I (fitsP c).2]):=by
 refine PC.of (N:=24) Tryz.func66 rfl rfl (Nat.le_of_ble_eq_true rfl) ?_
 refine PW.a [1] 1 (PW.w 1 [1,7] 1 (PL.gc (A:=[]) (fun _=>drumlineref5_Check_pc c hp0 hl0) (PL.n 5 [1,4,5] 1 (PW.q [1,4,5,12] 1 (PW.cd (((checkR c).1) != (0:Int)) ?_ ?_))))) <;> intro hz0 <;> try simp only [boolS,isB_true,isB_false] at hz0
 ·refine PW.t [2,3] 1 (rq (D.t [I ((checkR c).1),I ((checkR c).2)]) ?_)
  rw [fitsP_check (by rw [check_same]; omega),check_same]
 ·have hg:(checkP c).1=0:=by rw [check_same]; omega
  refine PW.k (PW.w 1 [1,15] 1 (PL.gc (A:=[]) (fun _=>drumlineref5_out_pc c) (PL.n 1 [1,5] 1 (PW.q [1,5,18] 1 (PW.cd ((outI c) == (0:Int)) ?_ ?_))))) <;> intro hz1 <;> try simp only [boolS,isB_true,isB_false] at hz1
  ·have hg:(checkP c).1=0:=by rw [check_same]; omega
   have h:outI c=0:=by omega
   refine PW.region (PL.a 1 [19] 1 (PL.gc (A:=[]) (fun _=>drumlineref5_fits_pc c hg h hp0 hl0) (PL.a 1 [5] 1 (PL.nil ?_))))
   show PW _ _ _ _ _
   refine PW.q [5,22] 1 (PW.cd ((fitsI c) != (0:Int)) ?_ ?_) <;> intro hz2 <;> try simp only [boolS,isB_true,isB_false] at hz2
   ·have hg:(checkP c).1=0:=by rw [check_same]; omega
    have h:outI c=0:=by omega
    refine PW.t [2,3] 1 (rq (D.t [I 14,I (fitsI c)]) ?_)
    rw [fitsP_bad hg (by rw [condI_fits h]; omega),condI_fits h]
   ·have hg:(checkP c).1=0:=by rw [check_same]; omega
    have h:outI c=0:=by omega
    refine PW.k (PW.t [2,3] 1 (rq (D.t [I 0,I 0]) ?_))
    rw [fitsP_good hg (by rw [condI_fits h]; omega)]
  ·have hg:(checkP c).1=0:=by rw [check_same]; omega
   refine PW.k (PW.q [5,22] 1 (PW.cd ((outI c) != (0:Int)) ?_ ?_)) <;> intro hz3 <;> try simp only [boolS,isB_true,isB_false] at hz3
   ·have hg:(checkP c).1=0:=by rw [check_same]; omega
    refine PW.t [2,3] 1 (rq (D.t [I 14,I (outI c)]) ?_)
    rw [fitsP_bad hg (by rw [condI_out oM]; omega),condI_out oM]
   ·have hg:(checkP c).1=0:=by rw [check_same]; omega
    have h:outI c=0:=by omega
    refine PW.k (PW.t [2,3] 1 (rq (D.t [I 0,I 0]) ?_))
    exfalso
    omega
theorem drumlineref5_Fit_pc (c:Config) (part:Int) (hp0:c.parts.length<1000000) (hl0:c.links.length<1000000):PC Tryz.prog [] 38 [D.r (Config.d c),I part] (· = D.v (.bool (((fitsP c).1 == (0:Int))&&isB part c.parts.length))):=by
 refine PC.of (N:=21) Tryz.func38 rfl rfl (Nat.le_of_ble_eq_true rfl) ?_
 refine PW.a [1,2] 1 (PW.w 1 [1,2,8] 1 (PL.gc (A:=[]) (fun _=>drumlineref5_Fits_pc c hp0 hl0) (PL.n 5 [1,2,5] 1 (PW.w 7 [14,15,18] 1 (PL.gc (A:=[(14,true)]) (fun _=>drumlineref5_is_pc part (c.parts.length:Int)) (PL.n 2 [4] 1 (PW.ret ?_)))))))
 refine rq (D.v (.bool ((((fitsP c).1) == (0:Int))&&(isB part (c.parts.length:Int))))) ?_
 rfl
theorem fits_beq (c:Config):((fitsP c).1 == (0:Int))=fitB c:=by
 rw [Bool.eq_iff_iff,beq_iff_eq]
 exact fitsP_zero c
theorem table_fits_pc (e:Nat→Addr) (hA:Apart e) (c:Config) (hp0:c.parts.length<1000000) (hl0:c.links.length<1000000):PC Tryz.prog (errG3 e) 77 [D.r (Config.d c)] (· = D.v (.bool (fitB c))):=by
 refine PC.of (N:=12) Tryz.func77 rfl rfl (Nat.le_of_ble_eq_true rfl) ?_
 refine PW.a [1] 1 (PW.w 1 [6] 1 (PL.gc (A:=[]) (fun _=>bounds_Fits_pc e hA c hp0 hl0) (PL.n 5 [3] 1 (PW.t [2] 1 (rq (D.v (.bool (((fitsP c).1) == (0:Int)))) ?_)))))
 rw [fits_beq]
theorem table_add_pk (c:Config) (kd n:Int) (xs:List Slot) (hx:xs.length<1000):PK Tryz.prog [] 78 [I kd,I n,D.p 1 0 0 0,D.q (Config.d c) 0] [Obj.dead,Obj.var 50 [D.h 2 xs.length],Obj.row 73 3 xs.length (fun j=>Slot.d (xs.getD j default))] 2 (fun d m=>d=D.t []∧m=[Obj.dead,Obj.var 50 [D.h 2 ((xs++[slotK c (kd,n) xs.length]).length)],Obj.row 73 3 ((xs++[slotK c (kd,n) xs.length]).length) (fun j=>Slot.d ((xs++[slotK c (kd,n) xs.length]).getD j default)),Obj.row 73 3 1 (fun k=>([[I kd,I n,I (IntKind.i64.wrap (c.lead+(IntKind.i64.wrap ((xs.length:Int)*c.slot))))]][k]?).getD [])]):=by
 refine PK.of (N:=20) Tryz.func78 rfl rfl (Nat.le_of_ble_eq_true rfl) 2 ?_
 refine PW.region (PL.rw 14 [2,19] 4 (p:=((xs.length=xs.length∧1≤1)∧(xs.length+1)*24≤140737488355328∧xs.length+1≤9223372036854775807)) oM (PL.ap 2 Slot.d xs ((⟨kd,n,IntKind.i64.wrap (c.lead+(IntKind.i64.wrap ((xs.length:Int)*c.slot)))⟩:Slot)) (PL.a 1 [] 4 (PL.nil ?_))))
 refine retI_n (d:=D.t []) (ps:=[]) (mem:=[Obj.dead,Obj.var 50 [D.h 2 (xs.length+1)],Obj.row 73 3 (xs.length+1) (fun j=>Slot.d ((xs++[(⟨kd,n,IntKind.i64.wrap (c.lead+(IntKind.i64.wrap ((xs.length:Int)*c.slot)))⟩:Slot)]).getD j default)),Obj.row 73 3 1 (fun k=>([[I kd,I n,I (IntKind.i64.wrap (c.lead+(IntKind.i64.wrap ((xs.length:Int)*c.slot))))]][k]?).getD [])]) trivial ?_
 exact ⟨rfl,by simp only [List.length_append,List.length_singleton]; rfl⟩
theorem table_Slots_pc0 (e:Nat→Addr) (hA:Apart e) (c:Config) (part:Int) (hp0:c.parts.length<1000000) (hl0:c.links.length<1000000):PC Tryz.prog (errG3 e) 50 [D.r (Config.d c),I part] (fun d=>d=sl' 3 Slot.d (slotsOf c part)∨(d=D.v (.slice none 0 0)∧slotsOf c part=[])):=by
 refine PC.of (N:=71) Tryz.func50 rfl rfl (Nat.le_of_ble_eq_true rfl) ?_
 have hpl:=portsOf_len c part
 refine PW.a [1,2] 1 (PW.seq (PW.w 11 [1,2,22,23] 1 (PL.gc (A:=[(22,false)]) (fun _=>table_fits_pc e hA c hp0 hl0) (PL.n 2 [1,2,26] 1 (PW.cd (((decide (part<(0:Int)))||(decide (part≥(c.parts.length:Int))))||(!(fitB c))) ?_ ?_))))) <;> intro hz0 <;> try simp only [boolS,isB_true,isB_false] at hz0
 ·have hni:nodesI c part=(c.parts.getD part.toNat default).nodes:=rfl
  refine PW.t [4] 1 (rq (D.v (.slice none 0 0)) ?_)
  refine .inr ⟨rfl,if_neg fun h => ?_⟩
  have h2:=h.2
  rw [isB_true] at h2
  have h3:=h.1
  simp [h3] at hz0
  omega
 ·have hfB:fitB c=true∧isB part c.parts.length=true:=⟨hz0.2,by rw [isB_true]; omega⟩
  have hnn:1≤nodesI c part∧nodesI c part≤12:=tnodes_in hfB.1 hfB.2
  have hni:nodesI c part=(c.parts.getD part.toNat default).nodes:=rfl
  refine PW.k (PW.a [1,2,5] 2 (PW.sg (PL.sl [1,2,5] 2 (PL.fz 0 (t:=30) (Config.d c) (PL.mkK (f:=78) (cap := #[.tmp 5,.tmp 2]) [D.p 1 0 0 0,D.q (Config.d c) 0] (PL.n 1 [1,2,5,6] 2 (PW.w 2 [1,2,5,6,28,29] 2 ?_)))))))
  refine PL.gc (A:=[]) (fun _=>(plan_Ports_pc0 e c part hp0 hl0).list.weak (errG3_sub e)) (PL.n 1 [1,2,5,6,7] 2 (PW.q [1,2,5,6,7,31,32,33] 2 (PW.block (PW.bornC 1 0 73 3 (t0:=50) (cs:=[D.v (.slice none 0 0)]) (s':={ tab:=[⟨1,[],I part⟩,⟨2,[],D.q (Config.d c) 0⟩,⟨5,[],D.p 1 0 0 0⟩,⟨6,[],D.k 78 [D.p 1 0 0 0,D.q (Config.d c) 0]⟩,⟨7,[],sl' 4 Port.d (portsOf c part)⟩,⟨31,[],sl' 4 Port.d (portsOf c part)⟩,⟨32,[],I ((portsOf c part).length:Int)⟩,⟨33,[],I 0⟩],mem:=[Obj.dead,Obj.var 50 [D.h 2 0],Obj.row 73 3 0 (fun _=>[])],gl:=(errG3 e) }) kR kR kR (PW.loopR (α := Nat×List Slot) (fun (i,xs)=>{ tab:=[⟨1,[],I part⟩,⟨2,[],D.q (Config.d c) 0⟩,⟨5,[],D.p 1 0 0 0⟩,⟨6,[],D.k 78 [D.p 1 0 0 0,D.q (Config.d c) 0]⟩,⟨7,[],sl' 4 Port.d (portsOf c part)⟩,⟨31,[],sl' 4 Port.d (portsOf c part)⟩,⟨32,[],I ((portsOf c part).length:Int)⟩,⟨33,[],I (i:Int)⟩],mem:=[Obj.dead,Obj.var 50 [D.h 2 xs.length],Obj.row 73 3 xs.length (fun j=>Slot.d (xs.getD j default))],gl:=(errG3 e) }) (fun (i,xs)=>i≤(portsOf c part).length∧xs=slN c 0 (gates ((portsOf c part).take i))) (fun (i,xs)=>(portsOf c part).length-i) [1,2,5,6,7,31,32,33] 3 (0,[]) (s1:={ tab:=[⟨1,[],I part⟩,⟨2,[],D.q (Config.d c) 0⟩,⟨5,[],D.p 1 0 0 0⟩,⟨6,[],D.k 78 [D.p 1 0 0 0,D.q (Config.d c) 0]⟩,⟨7,[],sl' 4 Port.d (portsOf c part)⟩,⟨31,[],sl' 4 Port.d (portsOf c part)⟩,⟨32,[],I ((portsOf c part).length:Int)⟩,⟨33,[],I 0⟩],mem:=[Obj.dead,Obj.var 50 [D.h 2 0],Obj.row 73 3 0 (fun _=>[])],gl:=(errG3 e) }) kR kR ?_ ?_ ?_)))))
  ·dsimp only
   exact ⟨rfl,rfl,rfl,(.same (.same (.row rfl (fun j hj=>absurd hj (Nat.not_lt_zero _)) .nil)))⟩
  ·dsimp only
   exact ⟨Nat.zero_le _,rfl⟩
  rintro ⟨i,xs⟩ hinv
  dsimp only at hinv
  have hxl:xs.length=2*i:=by rw [hinv.2]; simp only [slN_len,gates_len,List.length_take]; omega
  show PW _ _ _ _ _
  refine PW.a [1,2,5,6,7,31,32,33,34] 3 (PW.seq (PW.cd (decide ((i:Int)<((portsOf c part).length:Int))) ?_ ?_)) <;> intro hz1 <;> try simp only [boolS,isB_true,isB_false] at hz1
  ·have hfB:fitB c=true∧isB part c.parts.length=true:=⟨hz0.2,by rw [isB_true]; omega⟩
   have hnn:1≤nodesI c part∧nodesI c part≤12:=tnodes_in hfB.1 hfB.2
   have hni:nodesI c part=(c.parts.getD part.toNat default).nodes:=rfl
   refine PW.k (PW.seq (PW.block (PW.sg (PL.rw 4 [1,2,5,6,7,9,31,32,33] 4 (p:=(0≤(i:Int)∧(i:Int)<((portsOf c part).length:Int))) oM (PL.fz 3 (t:=76) [I (((portsOf c part).getD i default).node),I (((portsOf c part).getD i default).link),I (((portsOf c part).getD i default).gate),I (((portsOf c part).getD i default).side)] (PL.sl [1,2,5,6,7,9,31,32,33] 3 (PL.nl ?_)))))))
   refine PW.w 3 [1,2,5,6,7,9,31,32,33,37,39] 3 (PL.ck (G:=(errG3 e)) (PK.more (table_add_pk c 3 (((portsOf c part).getD i default).node) xs (by (try simp only [List.length_append,List.length_singleton]) <;> omega))) ?_)
   rintro _ _ ⟨rfl,rfl⟩
   refine PL.sl [1,2,5,6,7,9,31,32,33] 3 (PL.nl (PW.region (PL.a 3 [1,2,5,6,7,31,32,33,41,43] 3 (PL.ck (G:=(errG3 e)) (PK.more (table_add_pk c 4 (((portsOf c part).getD i default).node) (xs++[slotK c (3,(((portsOf c part).getD i default).node)) xs.length]) (by (try simp only [List.length_append,List.length_singleton]) <;> omega))) ?_))))
   rintro _ _ ⟨rfl,rfl⟩
   refine PL.sl [1,2,5,6,7,31,32,33] 3 (PL.nil ?_)
   show PW _ _ _ _ _
   refine PW.b [1,2,5,6,7,31,32,33] 3 ?_
   refine BackR.of (s1:={ tab:=[⟨1,[],I part⟩,⟨2,[],D.q (Config.d c) 0⟩,⟨5,[],D.p 1 0 0 0⟩,⟨6,[],D.k 78 [D.p 1 0 0 0,D.q (Config.d c) 0]⟩,⟨7,[],sl' 4 Port.d (portsOf c part)⟩,⟨31,[],sl' 4 Port.d (portsOf c part)⟩,⟨32,[],I ((portsOf c part).length:Int)⟩,⟨33,[],I (IntKind.i64.wrap ((i:Int)+1))⟩],mem:=[Obj.dead,Obj.var 50 [D.h 2 (((xs++[slotK c (3,(((portsOf c part).getD i default).node)) xs.length])++[slotK c (4,(((portsOf c part).getD i default).node)) (xs++[slotK c (3,(((portsOf c part).getD i default).node)) xs.length]).length]).length)],Obj.row 73 3 (((xs++[slotK c (3,(((portsOf c part).getD i default).node)) xs.length])++[slotK c (4,(((portsOf c part).getD i default).node)) (xs++[slotK c (3,(((portsOf c part).getD i default).node)) xs.length]).length]).length) (fun j=>Slot.d (((xs++[slotK c (3,(((portsOf c part).getD i default).node)) xs.length])++[slotK c (4,(((portsOf c part).getD i default).node)) (xs++[slotK c (3,(((portsOf c part).getD i default).node)) xs.length]).length]).getD j default))],gl:=(errG3 e) }) (i+1,((xs++[slotK c (3,(((portsOf c part).getD i default).node)) xs.length])++[slotK c (4,(((portsOf c part).getD i default).node)) (xs++[slotK c (3,(((portsOf c part).getD i default).node)) xs.length]).length])) kR kR ?_ ?_ ?_
   ·dsimp only
    rw [wrap1 i oM]
    try simp only [List.length_append,List.length_singleton]
    exact Rem.refl _
   ·dsimp only
    exact ⟨by omega,by rw [gates_one _ oM]; exact slN_push (slN_push hinv.2 _) _⟩
   ·dsimp only
    exact nD
  ·have hfB:fitB c=true∧isB part c.parts.length=true:=⟨hz0.2,by rw [isB_true]; omega⟩
   have hnn:1≤nodesI c part∧nodesI c part≤12:=tnodes_in hfB.1 hfB.2
   have hni:nodesI c part=(c.parts.getD part.toNat default).nodes:=rfl
   refine PW.e (PW.seq (PW.sr [5,6,7,51,52] 3 (p:=(0≤part∧part<(c.parts.length:Int))) oM (PW.block (PW.lp (α := Nat×List Slot) (fun (i,xs)=>{ tab:=[⟨5,[],D.p 1 0 0 0⟩,⟨6,[],D.k 78 [D.p 1 0 0 0,D.q (Config.d c) 0]⟩,⟨7,[],sl' 4 Port.d (portsOf c part)⟩,⟨51,[],I ((c.parts.getD part.toNat default).nodes)⟩,⟨52,[],I (i:Int)⟩],mem:=[Obj.dead,Obj.var 50 [D.h 2 xs.length],Obj.row 73 3 xs.length (fun j=>Slot.d (xs.getD j default))],gl:=(errG3 e) }) (fun (i,xs)=>i≤(nodesI c part).toNat∧xs=slN c 0 (gates (portsOf c part)++syncs i)) (fun (i,xs)=>(nodesI c part).toNat-i) [5,6,7,51,52] 3 (0,xs) ?_ ?_))))
   ·dsimp only
    exact ⟨Nat.zero_le _,by rw [hinv.2,show i=(portsOf c part).length by omega,List.take_length]; simp [syncs]⟩
   rintro ⟨i,xs⟩ hinv
   dsimp only at hinv
   have hxl:xs.length=2*(portsOf c part).length+i:=by rw [hinv.2]; simp only [slN_len,List.length_append,gates_len,syncs_len]
   show PW _ _ _ _ _
   refine PW.a [5,6,7,51,52,53] 3 (PW.seq (PW.cd (decide ((i:Int)<((c.parts.getD part.toNat default).nodes))) ?_ ?_)) <;> intro hz2 <;> try simp only [boolS,isB_true,isB_false] at hz2
   ·have hfB:fitB c=true∧isB part c.parts.length=true:=⟨hz0.2,by rw [isB_true]; omega⟩
    have hnn:1≤nodesI c part∧nodesI c part≤12:=tnodes_in hfB.1 hfB.2
    have hni:nodesI c part=(c.parts.getD part.toNat default).nodes:=rfl
    refine PW.k (PW.seq (PW.block (PW.a [5,6,7,10,51,52] 3 (PW.region (PL.a 2 [5,6,7,51,52,55,56] 3 (PL.ck (G:=(errG3 e)) (PK.more (table_add_pk c 2 (i:Int) xs (by (try simp only [List.length_append,List.length_singleton]) <;> omega))) ?_))))))
    rintro _ _ ⟨rfl,rfl⟩
    refine PL.sl [5,6,7,51,52] 3 (PL.nil ?_)
    show PW _ _ _ _ _
    refine PW.b [5,6,7,51,52] 3 ?_
    refine BackR.of (s1:={ tab:=[⟨5,[],D.p 1 0 0 0⟩,⟨6,[],D.k 78 [D.p 1 0 0 0,D.q (Config.d c) 0]⟩,⟨7,[],sl' 4 Port.d (portsOf c part)⟩,⟨51,[],I ((c.parts.getD part.toNat default).nodes)⟩,⟨52,[],I (IntKind.i64.wrap ((i:Int)+1))⟩],mem:=[Obj.dead,Obj.var 50 [D.h 2 ((xs++[slotK c (2,(i:Int)) xs.length]).length)],Obj.row 73 3 ((xs++[slotK c (2,(i:Int)) xs.length]).length) (fun j=>Slot.d ((xs++[slotK c (2,(i:Int)) xs.length]).getD j default))],gl:=(errG3 e) }) (i+1,(xs++[slotK c (2,(i:Int)) xs.length])) kR kR ?_ ?_ ?_
    ·dsimp only
     rw [wrap1 i oM]
     try simp only [List.length_append,List.length_singleton]
     exact Rem.refl _
    ·dsimp only
     exact ⟨by omega,by rw [syncs_one,← List.append_assoc]; exact slN_push hinv.2 _⟩
    ·dsimp only
     exact nD
   ·have hfB:fitB c=true∧isB part c.parts.length=true:=⟨hz0.2,by rw [isB_true]; omega⟩
    have hnn:1≤nodesI c part∧nodesI c part≤12:=tnodes_in hfB.1 hfB.2
    have hni:nodesI c part=(c.parts.getD part.toNat default).nodes:=rfl
    refine PW.e (PW.q [5,6,59,60,61] 3 (PW.block (PW.lp (α := Nat×List Slot) (fun (i,xs)=>{ tab:=[⟨5,[],D.p 1 0 0 0⟩,⟨6,[],D.k 78 [D.p 1 0 0 0,D.q (Config.d c) 0]⟩,⟨59,[],sl' 4 Port.d (portsOf c part)⟩,⟨60,[],I ((portsOf c part).length:Int)⟩,⟨61,[],I (i:Int)⟩],mem:=[Obj.dead,Obj.var 50 [D.h 2 xs.length],Obj.row 73 3 xs.length (fun j=>Slot.d (xs.getD j default))],gl:=(errG3 e) }) (fun (i,xs)=>i≤(portsOf c part).length∧xs=slN c 0 (gates (portsOf c part)++syncs (nodesI c part).toNat++datas ((portsOf c part).take i))) (fun (i,xs)=>(portsOf c part).length-i) [5,6,59,60,61] 3 (0,xs) ?_ ?_)))
    ·dsimp only
     exact ⟨Nat.zero_le _,by rw [hinv.2,show i=(nodesI c part).toNat by omega]; simp [datas]⟩
    rintro ⟨i,xs⟩ hinv
    dsimp only at hinv
    have hxl:xs.length=2*(portsOf c part).length+(nodesI c part).toNat+i:=by rw [hinv.2]; simp only [slN_len,List.length_append,gates_len,syncs_len,datas_len,List.length_take]; omega
    show PW _ _ _ _ _
    refine PW.a [5,6,59,60,61,62] 3 (PW.seq (PW.cd (decide ((i:Int)<((portsOf c part).length:Int))) ?_ ?_)) <;> intro hz3 <;> try simp only [boolS,isB_true,isB_false] at hz3
    ·have hfB:fitB c=true∧isB part c.parts.length=true:=⟨hz0.2,by rw [isB_true]; omega⟩
     have hnn:1≤nodesI c part∧nodesI c part≤12:=tnodes_in hfB.1 hfB.2
     have hni:nodesI c part=(c.parts.getD part.toNat default).nodes:=rfl
     refine PW.k (PW.seq (PW.block (PW.sg (PL.rw 4 [5,6,12,59,60,61] 4 (p:=(0≤(i:Int)∧(i:Int)<((portsOf c part).length:Int))) oM (PL.fz 3 (t:=76) [I (((portsOf c part).getD i default).node),I (((portsOf c part).getD i default).link),I (((portsOf c part).getD i default).gate),I (((portsOf c part).getD i default).side)] (PL.sl [5,6,12,59,60,61] 3 (PL.nl ?_)))))))
     refine PW.region (PL.a 3 [5,6,59,60,61,65,67] 3 (PL.ck (G:=(errG3 e)) (PK.more (table_add_pk c 5 (((portsOf c part).getD i default).node) xs (by (try simp only [List.length_append,List.length_singleton]) <;> omega))) ?_))
     rintro _ _ ⟨rfl,rfl⟩
     refine PL.sl [5,6,59,60,61] 3 (PL.nil ?_)
     show PW _ _ _ _ _
     refine PW.b [5,6,59,60,61] 3 ?_
     refine BackR.of (s1:={ tab:=[⟨5,[],D.p 1 0 0 0⟩,⟨6,[],D.k 78 [D.p 1 0 0 0,D.q (Config.d c) 0]⟩,⟨59,[],sl' 4 Port.d (portsOf c part)⟩,⟨60,[],I ((portsOf c part).length:Int)⟩,⟨61,[],I (IntKind.i64.wrap ((i:Int)+1))⟩],mem:=[Obj.dead,Obj.var 50 [D.h 2 ((xs++[slotK c (5,(((portsOf c part).getD i default).node)) xs.length]).length)],Obj.row 73 3 ((xs++[slotK c (5,(((portsOf c part).getD i default).node)) xs.length]).length) (fun j=>Slot.d ((xs++[slotK c (5,(((portsOf c part).getD i default).node)) xs.length]).getD j default))],gl:=(errG3 e) }) (i+1,(xs++[slotK c (5,(((portsOf c part).getD i default).node)) xs.length])) kR kR ?_ ?_ ?_
     ·dsimp only
      rw [wrap1 i oM]
      try simp only [List.length_append,List.length_singleton]
      exact Rem.refl _
     ·dsimp only
      exact ⟨by omega,by rw [datas_one _ oM,← List.append_assoc]; exact slN_push hinv.2 _⟩
     ·dsimp only
      exact nD
    ·have hfB:fitB c=true∧isB part c.parts.length=true:=⟨hz0.2,by rw [isB_true]; omega⟩
     have hnn:1≤nodesI c part∧nodesI c part≤12:=tnodes_in hfB.1 hfB.2
     have hni:nodesI c part=(c.parts.getD part.toNat default).nodes:=rfl
     refine PW.e (PW.t [4] 3 (retQ_ret (d:=D.s xs.length 3 (fun j=>Slot.d (xs.getD j default))) (ps:=[xs.length≤xs.length]) kR (show (xs.length≤xs.length) from by exact nD) ?_))
     left
     have e9:xs=slotsOf c part:=by
       unfold slotsOf
       rw [if_pos hfB,hinv.2,show i=(portsOf c part).length by omega,List.take_length]
       rfl
     rw [← e9]
     rfl
end Go.Proofs.YtdomlccfjnkbjaaGreatDoor.Pl
