/- Package table's Find, Which; the document's own Slots, Find, Which. -/
import Derived.Test.YtdomlccfjnkbjaaGreatDoorTbTwo
import Derived.Test.YtdomlccfjnkbjaaGreatDoorPlRef
import Derived.Test.YtdomlccfjnkbjaaGreatDoorDpC
namespace Go.Proofs.YtdomlccfjnkbjaaGreatDoor.Pl
open Go.RowKit Go.Proofs.YtdomlccfjnkbjaaGreatDoor.Sm Go.Proofs.YtdomlccfjnkbjaaGreatDoor.Dp
set_option maxHeartbeats 4000000
set_option maxRecDepth 100000
set_option linter.unusedVariables false
set_option linter.unusedSimpArgs false
theorem zL_push' {xs:List Slot} {ks:List (Int×Int)} (h:xs=zL ks) (k:Int×Int):xs++[⟨k.1,k.2,0⟩]=zL (ks++[k]):=by rw [h]; exact zL_push ks k
theorem zL_push2 {xs:List Slot} {ks:List (Int×Int)} (h:xs=zL ks) (k q:Int×Int):xs++[⟨k.1,k.2,0⟩,⟨q.1,q.2,0⟩]=zL (ks++[k]++[q]):=by
 rw [← zL_push' (zL_push' h k) q,List.append_assoc]
 rfl
theorem drumlineref5_Slots_pc0 (c:Config) (part:Int) (hp0:c.parts.length<1000000) (hl0:c.links.length<1000000):PC Tryz.prog [] 19 [D.r (Config.d c),I part] (fun d=>d=sl' 3 Slot.d (slotsOf c part)∨(d=D.v (.slice none 0 0)∧slotsOf c part=[])):=by
 refine PC.of (N:=87) Tryz.func19 rfl rfl (Nat.le_of_ble_eq_true rfl) ?_
 have hpl:=portsOf_len c part
 refine PW.a [1,2] 1 (PW.seq (PW.w 2 [1,2,11,12] 1 (PL.gc (d:=D.v (.bool (fitB c&&isB part c.parts.length))) (A:=[]) (fun _=>(drumlineref5_Fit_pc c part hp0 hl0).eq (by rw [fits_beq])) (PL.n 1 [1,2,14] 1 (PW.cd (!(fitB c&&isB part c.parts.length)) ?_ ?_))))) <;> intro hz0 <;> try simp only [boolS,isB_true,isB_false] at hz0
 ·have hni:nodesI c part=(c.parts.getD part.toNat default).nodes:=rfl
  refine PW.t [4] 1 (rq (D.v (.slice none 0 0)) ?_)
  refine .inr ⟨rfl,if_neg fun h => ?_⟩
  have h2:=h.2
  rw [isB_true] at h2
  have h3:=h.1
  simp [h3] at hz0
  omega
 ·have hfB:fitB c=true∧isB part c.parts.length=true:=⟨hz0.1,by rw [isB_true]; omega⟩
  have hnn:1≤nodesI c part∧nodesI c part≤12:=tnodes_in hfB.1 hfB.2
  have hni:nodesI c part=(c.parts.getD part.toNat default).nodes:=rfl
  refine PW.k (PW.a [1,2,5] 1 (PW.w 2 [1,2,5,15,16] 1 (PL.gc (A:=[]) (fun _=>(drumlineref5_Ports_pc0 c part hp0 hl0).list) (PL.n 1 [1,2,5,6] 1 (PW.q [1,2,5,6,7] 1 (PW.block (PW.born 5 73 3 kR ?_)))))))
  refine PW.loopR (α := Nat×List Slot) (fun (i,xs)=>{ tab:=[⟨1,[],I part⟩,⟨2,[],D.p 0 0 0 0⟩,⟨5,[],D.h 1 xs.length⟩,⟨6,[],sl' 4 Port.d (portsOf c part)⟩,⟨7,[],I (i:Int)⟩],mem:=[Obj.var 30 (Config.d c),Obj.row 73 3 xs.length (fun j=>Slot.d (xs.getD j default))] }) (fun (i,xs)=>i≤(portsOf c part).length∧xs=zL (gates ((portsOf c part).take i))) (fun (i,xs)=>(portsOf c part).length-i) [1,2,5,6,7] 2 (0,[]) (s1:={ tab:=[⟨1,[],I part⟩,⟨2,[],D.p 0 0 0 0⟩,⟨5,[],D.h 1 0⟩,⟨6,[],sl' 4 Port.d (portsOf c part)⟩,⟨7,[],I 0⟩],mem:=[Obj.var 30 (Config.d c),Obj.row 73 3 0 (fun _=>[])] }) kR kR ?_ ?_ ?_
  ·dsimp only
   exact ⟨rfl,rfl,rfl,(.same (.row rfl (fun j hj=>absurd hj (Nat.not_lt_zero _)) .nil))⟩
  ·dsimp only
   exact ⟨Nat.zero_le _,rfl⟩
  rintro ⟨i,xs⟩ hinv
  dsimp only at hinv
  have hxl:xs.length=2*i:=by rw [hinv.2]; simp only [zL_len,gates_len,List.length_take]; omega
  show PW _ _ _ _ _
  refine PW.q [1,2,5,6,7,21] 2 (PW.cd (decide ((i:Int)<((portsOf c part).length:Int))) ?_ ?_) <;> intro hz1 <;> try simp only [boolS,isB_true,isB_false] at hz1
  ·have hfB:fitB c=true∧isB part c.parts.length=true:=⟨hz0.1,by rw [isB_true]; omega⟩
   have hnn:1≤nodesI c part∧nodesI c part≤12:=tnodes_in hfB.1 hfB.2
   have hni:nodesI c part=(c.parts.getD part.toNat default).nodes:=rfl
   refine PW.k (PW.seq (PW.block (PW.open [1] kR (PO.tk [0,1,2,3,4,5,6,7,8,9,10,11,12] 16 [1,2,5,6,7,24,30,36] 3 (p:=(0≤(i:Int)∧(i:Int)<((portsOf c part).length:Int))∧(0≤(i:Int)∧(i:Int)<((portsOf c part).length:Int))) oM (fun _ _ h=>h) (PO.one (n:=2) 13 kR ?_)))))
   refine PO1.a [1,2,5,6,7,24,37] 3 (PO.one (n:=1) 14 kR (PO1.mm rfl [1,2,5,6,7,38] 3 (p:=((xs.length=xs.length∧2≤2)∧(xs.length+2)*24≤140737488355328∧xs.length+2≤9223372036854775807)) oM (PO.rm 1 (t:=73) (z:=3) (n:=(xs.length+2)) (fun j=>if j<xs.length then (fun j=>Slot.d (xs.getD j default)) j else (fun k=>([[I 3,I (((portsOf c part).getD i default).node),I 0],[I 4,I (((portsOf c part).getD i default).node),I 0]][k]?).getD []) (j-xs.length)) (fun j=>Slot.d ((xs++[(⟨3,((portsOf c part).getD i default).node,0⟩:Slot),(⟨4,((portsOf c part).getD i default).node,0⟩:Slot)]).getD j default)) (fun j hj=>by (try dsimp only); rw [getD_app xs [(⟨3,((portsOf c part).getD i default).node,0⟩:Slot),(⟨4,((portsOf c part).getD i default).node,0⟩:Slot)] j default,show xs.length=xs.length from (by (try simp only [List.length_set,List.length_replicate,List.length_append,List.length_cons,List.length_nil]) <;> omega)]; split <;> first|rfl|(rename_i hjn; have hjk:j-xs.length=0∨j-xs.length=1:=oM; rcases hjk with hjk|hjk <;> rw [hjk] <;> rfl)) ?_)))
   refine PO.a [15] 1 [1,2,5,6,7] 0 (PO.done kR ?_)
   show PW _ _ _ _ _
   refine PW.b [1,2,5,6,7] 3 ?_
   refine BackR.of (s1:={ tab:=[⟨1,[],I part⟩,⟨2,[],D.p 0 0 0 0⟩,⟨5,[],D.h 1 (xs.length+2)⟩,⟨6,[],sl' 4 Port.d (portsOf c part)⟩,⟨7,[],I (IntKind.i64.wrap ((i:Int)+1))⟩],mem:=[Obj.var 30 (Config.d c),Obj.row 73 3 (xs.length+2) (fun j=>Slot.d ((xs++[(⟨3,((portsOf c part).getD i default).node,0⟩:Slot),(⟨4,((portsOf c part).getD i default).node,0⟩:Slot)]).getD j default))] }) (i+1,xs++[(⟨3,((portsOf c part).getD i default).node,0⟩:Slot),(⟨4,((portsOf c part).getD i default).node,0⟩:Slot)]) kR kR ?_ ?_ ?_
   ·dsimp only
    rw [wrap1 i oM]
    try simp only [List.length_append,List.length_singleton,List.length_cons,List.length_nil,List.length_set]
    exact Rem.refl _
   ·dsimp only
    exact ⟨by omega,by rw [gates_one _ oM]; exact zL_push2 hinv.2 (3,_) (4,_)⟩
   ·dsimp only
    exact nD
  ·have hfB:fitB c=true∧isB part c.parts.length=true:=⟨hz0.1,by rw [isB_true]; omega⟩
   have hnn:1≤nodesI c part∧nodesI c part≤12:=tnodes_in hfB.1 hfB.2
   have hni:nodesI c part=(c.parts.getD part.toNat default).nodes:=rfl
   refine PW.e (PW.q [1,2,5,6,8] 2 (PW.block (PW.lp (α := Nat×List Slot) (fun (i,xs)=>{ tab:=[⟨1,[],I part⟩,⟨2,[],D.p 0 0 0 0⟩,⟨5,[],D.h 1 xs.length⟩,⟨6,[],sl' 4 Port.d (portsOf c part)⟩,⟨8,[],I (i:Int)⟩],mem:=[Obj.var 30 (Config.d c),Obj.row 73 3 xs.length (fun j=>Slot.d (xs.getD j default))] }) (fun (i,xs)=>i≤(nodesI c part).toNat∧xs=zL (gates (portsOf c part)++syncs i)) (fun (i,xs)=>(nodesI c part).toNat-i) [1,2,5,6,8] 2 (0,xs) ?_ ?_)))
   ·dsimp only
    exact ⟨Nat.zero_le _,by rw [hinv.2,show i=(portsOf c part).length by omega,List.take_length]; simp [syncs]⟩
   rintro ⟨i,xs⟩ hinv
   dsimp only at hinv
   have hxl:xs.length=2*(portsOf c part).length+i:=by rw [hinv.2]; simp only [zL_len,List.length_append,gates_len,syncs_len]
   show PW _ _ _ _ _
   refine PW.seq (PW.sr [1,2,5,6,8,46] 2 (p:=(0≤part∧part<(c.parts.length:Int))) oM (PW.cd (decide ((i:Int)<((c.parts.getD part.toNat default).nodes))) ?_ ?_)) <;> intro hz2 <;> try simp only [boolS,isB_true,isB_false] at hz2
   ·have hfB:fitB c=true∧isB part c.parts.length=true:=⟨hz0.1,by rw [isB_true]; omega⟩
    have hnn:1≤nodesI c part∧nodesI c part≤12:=tnodes_in hfB.1 hfB.2
    have hni:nodesI c part=(c.parts.getD part.toNat default).nodes:=rfl
    refine PW.k (PW.seq (PW.block (PW.region (PL.rw 5 [1,2,6,8,53] 3 (p:=((xs.length=xs.length∧1≤1)∧(xs.length+1)*24≤140737488355328∧xs.length+1≤9223372036854775807)) oM (PL.ap 1 Slot.d xs ((⟨2,(i:Int),0⟩:Slot)) (PL.a 1 [1,2,5,6,8] 3 (PL.nil ?_)))))))
    show PW _ _ _ _ _
    refine PW.b [1,2,5,6,8] 3 ?_
    refine BackR.of (s1:={ tab:=[⟨1,[],I part⟩,⟨2,[],D.p 0 0 0 0⟩,⟨5,[],D.h 1 (xs.length+1)⟩,⟨6,[],sl' 4 Port.d (portsOf c part)⟩,⟨8,[],I (IntKind.i64.wrap ((i:Int)+1))⟩],mem:=[Obj.var 30 (Config.d c),Obj.row 73 3 (xs.length+1) (fun j=>Slot.d ((xs++[(⟨2,(i:Int),0⟩:Slot)]).getD j default))] }) (i+1,xs++[(⟨2,(i:Int),0⟩:Slot)]) kR kR ?_ ?_ ?_
    ·dsimp only
     rw [wrap1 i oM]
     try simp only [List.length_append,List.length_singleton,List.length_cons,List.length_nil,List.length_set]
     exact Rem.refl _
    ·dsimp only
     exact ⟨by omega,by rw [syncs_one,← List.append_assoc]; exact zL_push' hinv.2 (2,_)⟩
    ·dsimp only
     exact nD
   ·have hfB:fitB c=true∧isB part c.parts.length=true:=⟨hz0.1,by rw [isB_true]; omega⟩
    have hnn:1≤nodesI c part∧nodesI c part≤12:=tnodes_in hfB.1 hfB.2
    have hni:nodesI c part=(c.parts.getD part.toNat default).nodes:=rfl
    refine PW.e (PW.q [2,5,6,9] 2 (PW.block (PW.lp (α := Nat×List Slot) (fun (i,xs)=>{ tab:=[⟨2,[],D.p 0 0 0 0⟩,⟨5,[],D.h 1 xs.length⟩,⟨6,[],sl' 4 Port.d (portsOf c part)⟩,⟨9,[],I (i:Int)⟩],mem:=[Obj.var 30 (Config.d c),Obj.row 73 3 xs.length (fun j=>Slot.d (xs.getD j default))] }) (fun (i,xs)=>i≤(portsOf c part).length∧xs=zL (gates (portsOf c part)++syncs (nodesI c part).toNat++datas ((portsOf c part).take i))) (fun (i,xs)=>(portsOf c part).length-i) [2,5,6,9] 2 (0,xs) ?_ ?_)))
    ·dsimp only
     exact ⟨Nat.zero_le _,by rw [hinv.2,show i=(nodesI c part).toNat by omega]; (try simp [datas])⟩
    rintro ⟨i,xs⟩ hinv
    dsimp only at hinv
    have hxl:xs.length=2*(portsOf c part).length+(nodesI c part).toNat+i:=by rw [hinv.2]; simp only [zL_len,List.length_append,gates_len,syncs_len,datas_len,List.length_take]; omega
    show PW _ _ _ _ _
    refine PW.q [2,5,6,9,57] 2 (PW.cd (decide ((i:Int)<((portsOf c part).length:Int))) ?_ ?_) <;> intro hz3 <;> try simp only [boolS,isB_true,isB_false] at hz3
    ·have hfB:fitB c=true∧isB part c.parts.length=true:=⟨hz0.1,by rw [isB_true]; omega⟩
     have hnn:1≤nodesI c part∧nodesI c part≤12:=tnodes_in hfB.1 hfB.2
     have hni:nodesI c part=(c.parts.getD part.toNat default).nodes:=rfl
     refine PW.k (PW.seq (PW.block (PW.region (PL.rw 9 [2,6,9,68] 3 (p:=(0≤(i:Int)∧(i:Int)<((portsOf c part).length:Int))∧((xs.length=xs.length∧1≤1)∧(xs.length+1)*24≤140737488355328∧xs.length+1≤9223372036854775807)) oM (PL.ap 1 Slot.d xs ((⟨5,((portsOf c part).getD i default).node,0⟩:Slot)) (PL.a 1 [2,5,6,9] 3 (PL.nil ?_)))))))
     show PW _ _ _ _ _
     refine PW.b [2,5,6,9] 3 ?_
     refine BackR.of (s1:={ tab:=[⟨2,[],D.p 0 0 0 0⟩,⟨5,[],D.h 1 (xs.length+1)⟩,⟨6,[],sl' 4 Port.d (portsOf c part)⟩,⟨9,[],I (IntKind.i64.wrap ((i:Int)+1))⟩],mem:=[Obj.var 30 (Config.d c),Obj.row 73 3 (xs.length+1) (fun j=>Slot.d ((xs++[(⟨5,((portsOf c part).getD i default).node,0⟩:Slot)]).getD j default))] }) (i+1,xs++[(⟨5,((portsOf c part).getD i default).node,0⟩:Slot)]) kR kR ?_ ?_ ?_
     ·dsimp only
      rw [wrap1 i oM]
      try simp only [List.length_append,List.length_singleton,List.length_cons,List.length_nil,List.length_set]
      exact Rem.refl _
     ·dsimp only
      exact ⟨by omega,by rw [datas_one _ oM,← List.append_assoc]; exact zL_push' hinv.2 (5,_)⟩
     ·dsimp only
      exact nD
    ·have hfB:fitB c=true∧isB part c.parts.length=true:=⟨hz0.1,by rw [isB_true]; omega⟩
     have hnn:1≤nodesI c part∧nodesI c part≤12:=tnodes_in hfB.1 hfB.2
     have hni:nodesI c part=(c.parts.getD part.toNat default).nodes:=rfl
     refine PW.e (PW.q [2,5,10] 2 (PW.block (PW.lp (α := Nat×List Slot) (fun (i,xs)=>{ tab:=[⟨2,[],D.p 0 0 0 0⟩,⟨5,[],D.h 1 xs.length⟩,⟨10,[],I (i:Int)⟩],mem:=[Obj.var 30 (Config.d c),Obj.row 73 3 xs.length (fun j=>Slot.d (xs.getD j default))] }) (fun (i,xs)=>i≤xs.length∧xs=paL c (keysOf (portsOf c part) (nodesI c part).toNat) i) (fun (i,xs)=>xs.length-i) [2,5,10] 2 (0,xs) ?_ ?_)))
     ·dsimp only
      exact ⟨Nat.zero_le _,by rw [← paL_zero,hinv.2,show i=(portsOf c part).length by omega,List.take_length]; rfl⟩
     rintro ⟨i,xs⟩ hinv
     dsimp only at hinv
     have hxl:xs.length=(keysOf (portsOf c part) (nodesI c part).toNat).length:=by rw [hinv.2,paL_len]
     have hkl:=keysOf_len (portsOf c part) (nodesI c part).toNat
     show PW _ _ _ _ _
     refine PW.q [2,5,10,72] 2 (PW.cd (decide ((i:Int)<(xs.length:Int))) ?_ ?_) <;> intro hz4 <;> try simp only [boolS,isB_true,isB_false] at hz4
     ·have hfB:fitB c=true∧isB part c.parts.length=true:=⟨hz0.1,by rw [isB_true]; omega⟩
      have hnn:1≤nodesI c part∧nodesI c part≤12:=tnodes_in hfB.1 hfB.2
      have hni:nodesI c part=(c.parts.getD part.toNat default).nodes:=rfl
      refine PW.k (PW.seq (PW.block (PW.region (PL.rw 12 [2,5,10] 2 (p:=(0≤(i:Int)∧(i:Int)<(xs.length:Int))∧(i<xs.length)) oM (PL.st 1 Slot.d xs i (⟨(xs.getD i default).kind,(xs.getD i default).node,IntKind.i64.wrap (c.lead+(IntKind.i64.wrap ((i:Int)*c.slot)))⟩:Slot) (PL.nil ?_))))))
      show PW _ _ _ _ _
      refine PW.b [2,5,10] 2 ?_
      refine BackR.of (s1:={ tab:=[⟨2,[],D.p 0 0 0 0⟩,⟨5,[],D.h 1 xs.length⟩,⟨10,[],I (IntKind.i64.wrap ((i:Int)+1))⟩],mem:=[Obj.var 30 (Config.d c),Obj.row 73 3 xs.length (fun j=>Slot.d ((xs.set i (⟨(xs.getD i default).kind,(xs.getD i default).node,IntKind.i64.wrap (c.lead+(IntKind.i64.wrap ((i:Int)*c.slot)))⟩:Slot)).getD j default))] }) (i+1,xs.set i (⟨(xs.getD i default).kind,(xs.getD i default).node,IntKind.i64.wrap (c.lead+(IntKind.i64.wrap ((i:Int)*c.slot)))⟩:Slot)) kR kR ?_ ?_ ?_
      ·dsimp only
       rw [wrap1 i oM]
       try simp only [List.length_append,List.length_singleton,List.length_cons,List.length_nil,List.length_set]
       exact Rem.refl _
      ·dsimp only
       refine ⟨by (try simp only [List.length_set]) <;> omega,?_⟩
       have hps:=paL_step c (keysOf (portsOf c part) (nodesI c part).toNat) (i:=i) oM
       rw [← hinv.2] at hps
       exact hps
      ·dsimp only
       (try simp only [List.length_set])
       omega
     ·have hfB:fitB c=true∧isB part c.parts.length=true:=⟨hz0.1,by rw [isB_true]; omega⟩
      have hnn:1≤nodesI c part∧nodesI c part≤12:=tnodes_in hfB.1 hfB.2
      have hni:nodesI c part=(c.parts.getD part.toNat default).nodes:=rfl
      refine PW.e (PW.t [4] 2 (retQ_ret (d:=D.s xs.length 3 (fun j=>Slot.d (xs.getD j default))) (ps:=[xs.length≤xs.length]) kR (show (xs.length≤xs.length) from by exact nD) ?_))
      left
      have e9:xs=slotsOf c part:=by
        unfold slotsOf
        rw [if_pos hfB,← paL_all]
        rw [hinv.2]
        congr 1
        omega
      rw [← e9]
      rfl
theorem drumlineref5_Find_pc (c:Config) (part kd nd:Int) (hp0:c.parts.length<1000000) (hl0:c.links.length<1000000):PC Tryz.prog [] 21 [D.r (Config.d c),I part,I kd,I nd] (· = I (findI c part kd nd)):=by
 refine PC.of (N:=37) Tryz.func21 rfl rfl (Nat.le_of_ble_eq_true rfl) ?_
 have hsl:=slotsOf_len c part
 refine PW.a [1,2,3,4] 1 (PW.w 2 [2,3,11,12] 1 (PL.gc (A:=[]) (fun _=>(drumlineref5_Slots_pc0 c part hp0 hl0).list) (PL.n 1 [2,3,9] 1 (PW.q [2,3,9,10] 1 (PW.block (PW.lp (α := Nat) (fun i=>{ tab:=[⟨2,[],I kd⟩,⟨3,[],I nd⟩,⟨9,[],sl' 3 Slot.d (slotsOf c part)⟩,⟨10,[],I (i:Int)⟩],mem:=[Obj.var 30 (Config.d c)] }) (fun i=>i≤(slotsOf c part).length∧seekI (fun i=>atB kd nd ((slotsOf c part).getD i default)) (slotsOf c part).length 0=seekI (fun i=>atB kd nd ((slotsOf c part).getD i default)) ((slotsOf c part).length-i) i) (fun i=>(slotsOf c part).length-i) [2,3,9,10] 1 (0) ?_ ?_))))))
 ·exact ⟨Nat.zero_le _,rfl⟩
 rintro i hinv
 show PW _ _ _ _ _
 refine PW.q [2,3,9,10,17] 1 (PW.cd (decide ((i:Int)<((slotsOf c part).length:Int))) ?_ ?_) <;> intro hz0 <;> try simp only [boolS,isB_true,isB_false] at hz0
 ·refine PW.k (PW.seq (PW.block (PW.sr [2,3,9,10,35] 1 (p:=(0≤(i:Int)∧(i:Int)<((slotsOf c part).length:Int))∧((((((slotsOf c part).getD i default).kind) == kd)=true∧True→0≤(i:Int)∧(i:Int)<((slotsOf c part).length:Int)))) nD (PW.cd (((((slotsOf c part).getD i default).kind) == kd)&&((((slotsOf c part).getD i default).node) == nd)) ?_ ?_)))) <;> intro hz1 <;> try simp only [boolS,isB_true,isB_false] at hz1
  ·refine PW.t [8] 1 (rq (I (i:Int)) ?_)
   show I _=I _
   unfold findI
   rw [hinv.2,show (slotsOf c part).length-i=((slotsOf c part).length-i-1)+1 by omega,seekI,if_pos (by simp [atB]; exact hz1)]
  ·refine PW.k (PW.b [2,3,9,10] 1 ?_)
   refine BackR.of (s1:={ tab:=[⟨2,[],I kd⟩,⟨3,[],I nd⟩,⟨9,[],sl' 3 Slot.d (slotsOf c part)⟩,⟨10,[],I (IntKind.i64.wrap ((i:Int)+1))⟩],mem:=[Obj.var 30 (Config.d c)] }) (i+1) kR kR ?_ ?_ ?_
   ·rw [wrap1 i oM]
    exact Rem.refl _
   ·refine ⟨by omega,?_⟩
    rw [hinv.2,show (slotsOf c part).length-i=((slotsOf c part).length-(i+1))+1 by omega,seekI,if_neg (by simp [atB]; simp at hz1; grind)]
   ·exact nD
 ·refine PW.e (PW.t [8] 1 (rq (I (-1)) ?_))
  show I _=I _
  unfold findI
  rw [hinv.2,show (slotsOf c part).length-i=0 by omega,seekI]
end Go.Proofs.YtdomlccfjnkbjaaGreatDoor.Pl
