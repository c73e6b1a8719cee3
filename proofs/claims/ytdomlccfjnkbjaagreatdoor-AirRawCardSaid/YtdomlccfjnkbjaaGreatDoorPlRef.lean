/- The document's own Port, Ports and Far. -/
import Derived.Test.YtdomlccfjnkbjaaGreatDoorFrEncM
namespace Go.Proofs.YtdomlccfjnkbjaaGreatDoor.Pl
open Go.RowKit Go.Proofs.YtdomlccfjnkbjaaGreatDoor.Sm Go.Proofs.YtdomlccfjnkbjaaGreatDoor.Dp
set_option maxHeartbeats 4000000
set_option maxRecDepth 100000
set_option linter.unusedVariables false
set_option linter.unusedSimpArgs false
theorem goodB_iff (c:Config) (part:Int):goodB c part=true↔(checkP c).1=0∧isB part c.parts.length=true:=by
 unfold goodB
 rw [check_same]
 simp
theorem portQ_good {c:Config} {part:Int} (h:goodB c part=true) (node:Int):portQ c part node=portP c.links part node c.links.length:=if_pos ((goodB_iff c part).1 h)
theorem portQ_bad {c:Config} {part:Int} (h:goodB c part=false) (node:Int):portQ c part node=none:=if_neg fun hh=>by rw [(goodB_iff c part).2 hh] at h; cases h
theorem portsOf_bad {c:Config} {part:Int} (h:goodB c part=false):portsOf c part=[]:=if_neg fun hh=>by rw [(goodB_iff c part).2 hh] at h; cases h
theorem portsOf_good {c:Config} {part:Int} (h:goodB c part=true):portsOf c part=portsL c part:=if_pos ((goodB_iff c part).1 h)
theorem good_in {c:Config} {part:Int} (h:goodB c part=true):(0≤part∧part<(c.parts.length:Int))∧1≤(c.parts.getD part.toNat default).nodes∧(c.parts.getD part.toNat default).nodes≤12:=by
 obtain ⟨h1,h2⟩:=(goodB_iff c part).1 h
 rw [isB_true] at h2
 exact ⟨h2,good_nodes (good_of h1) h2⟩
def portsN (c:Config) (part:Int) (n:Nat):List Port:=(List.range n).filterMap fun (k:Nat)=>portP c.links part (k:Int) c.links.length
theorem portsN_some {c:Config} {part:Int} {n:Nat} (h:(portP c.links part (n:Int) c.links.length).isSome=true):portsN c part (n+1)=portsN c part n++[(portP c.links part (n:Int) c.links.length).getD ⟨0,0,0,0⟩]:=by
 obtain ⟨p,hp⟩:=Option.isSome_iff_exists.1 h
 unfold portsN
 rw [List.range_succ,List.filterMap_append]
 simp [hp]
theorem portsN_none {c:Config} {part:Int} {n:Nat} (h:(portP c.links part (n:Int) c.links.length).isSome=false):portsN c part (n+1)=portsN c part n:=by
 have hp:portP c.links part (n:Int) c.links.length=none:=by simpa using h
 unfold portsN
 rw [List.range_succ,List.filterMap_append]
 simp [hp]
theorem portsN_len (c:Config) (part:Int) (n:Nat):(portsN c part n).length≤n:=Nat.le_trans (List.length_filterMap_le _ _) (by simp)
theorem drumlineref5_Port_pc (c:Config) (part node:Int) (hp0:c.parts.length<1000000) (hl0:c.links.length<1000000):PC Tryz.prog [] 27 [D.r (Config.d c),I part,I node] (· = portD (portQ c part node)):=by
 refine PC.of (N:=22) Tryz.func27 rfl rfl (Nat.le_of_ble_eq_true rfl) ?_
 refine PW.seq (PW.region (PL.rowK 3 [1,2,3,6] 2 (s':={ tab:=[⟨1,[],I part⟩,⟨2,[],I node⟩,⟨3,[],D.p 0 0 0 0⟩,⟨6,[],D.p 1 0 0 0⟩],mem:=[Obj.var 30 (Config.d c),Obj.var 76 [I 0,I 0,I 0,I 0]] }) (p:=True) kR (by trivial) (PL.nil ?_)))
 show PW _ _ _ _ _
 refine PW.seq (PW.seq (PW.region (PL.rowK 2 [1,2,3,6,8,9] 2 (s':={ tab:=[⟨1,[],I part⟩,⟨2,[],I node⟩,⟨3,[],D.p 0 0 0 0⟩,⟨6,[],D.p 1 0 0 0⟩,⟨8,[],D.r (Config.d c)⟩,⟨9,[],I part⟩],mem:=[Obj.var 30 (Config.d c),Obj.var 76 [I 0,I 0,I 0,I 0]] }) (p:=True) kR (by trivial) (PL.gcall (A:=[]) (f:=57) (ds:=[D.r (Config.d c),I part]) kR kR kR kR kR rfl (D.v (.bool (goodB c part))) (fun _=>drumlineref5_Good_pc c part oM oM) (PL.rowK 1 [1,2,3,6,11] 2 (s':={ tab:=[⟨1,[],I part⟩,⟨2,[],I node⟩,⟨3,[],D.p 0 0 0 0⟩,⟨6,[],D.p 1 0 0 0⟩,⟨11,[],D.v (.bool (!(goodB c part)))⟩],mem:=[Obj.var 30 (Config.d c),Obj.var 76 [I 0,I 0,I 0,I 0]] }) (p:=True) kR (by trivial) (PL.nil ?_))))))
 show PW _ _ _ _ _
 refine PW.cond (z:=(!(goodB c part))) kR (fun hz0 => ?_) (fun hz0 => ?_)
 ·skip
  try simp only [boolS,isB_true,isB_false] at hz0
  refine PW.seq (PW.region (PL.rowK 3 [6,7] 2 (s':={ tab:=[⟨6,[],D.p 1 0 0 0⟩,⟨7,[],D.v (.bool false)⟩],mem:=[Obj.var 30 (Config.d c),Obj.var 76 [I 0,I 0,I 0,I 0]] }) (p:=True) kR (by trivial) (PL.nil ?_)))
  show PW _ _ _ _ _
  refine PW.ret (rq (D.t [D.r [I 0,I 0,I 0,I 0],D.v (.bool false)]) ?_)
  rw [portQ_bad hz0]
  rfl
 ·skip
  try simp only [boolS,isB_true,isB_false] at hz0
  refine PW.k (PW.seq (PW.region (PL.rowK 6 [6,13,16,17,18] 2 (s':={ tab:=[⟨6,[],D.p 1 0 0 0⟩,⟨13,[],D.r (Config.d c)⟩,⟨16,[],I (c.links.length:Int)⟩,⟨17,[],I part⟩,⟨18,[],I node⟩],mem:=[Obj.var 30 (Config.d c),Obj.var 76 [I 0,I 0,I 0,I 0]] }) (p:=True) kR (by trivial) (PL.gcall (A:=[]) (f:=58) (ds:=[D.r (Config.d c),I (c.links.length:Int),I part,I node]) kR kR kR kR kR rfl (D.t [D.r [I (((portP c.links part node c.links.length).getD ⟨0,0,0,0⟩).node),I (((portP c.links part node c.links.length).getD ⟨0,0,0,0⟩).link),I (((portP c.links part node c.links.length).getD ⟨0,0,0,0⟩).gate),I (((portP c.links part node c.links.length).getD ⟨0,0,0,0⟩).side)],D.v (.bool ((portP c.links part node c.links.length).isSome))]) (fun _=>drumlineref5_port_pc c c.links.length part node oM oM) (PL.rowK 4 [6,7] 2 (s':={ tab:=[⟨6,[],D.p 1 0 0 0⟩,⟨7,[],D.v (.bool ((portP c.links part node c.links.length).isSome))⟩],mem:=[Obj.var 30 (Config.d c),Obj.var 76 [I (((portP c.links part node c.links.length).getD ⟨0,0,0,0⟩).node),I (((portP c.links part node c.links.length).getD ⟨0,0,0,0⟩).link),I (((portP c.links part node c.links.length).getD ⟨0,0,0,0⟩).gate),I (((portP c.links part node c.links.length).getD ⟨0,0,0,0⟩).side)]] }) (p:=True) kR (by trivial) (PL.nil ?_))))))
  show PW _ _ _ _ _
  refine PW.ret (rq (D.t [D.r [I (((portP c.links part node c.links.length).getD ⟨0,0,0,0⟩).node),I (((portP c.links part node c.links.length).getD ⟨0,0,0,0⟩).link),I (((portP c.links part node c.links.length).getD ⟨0,0,0,0⟩).gate),I (((portP c.links part node c.links.length).getD ⟨0,0,0,0⟩).side)],D.v (.bool ((portP c.links part node c.links.length).isSome))]) ?_)
  rw [portQ_good hz0]
  rfl
theorem drumlineref5_Ports_pc0 (c:Config) (part:Int) (hp0:c.parts.length<1000000) (hl0:c.links.length<1000000):PC Tryz.prog [] 39 [D.r (Config.d c),I part] (fun d=>d=sl' 4 Port.d (portsOf c part)∨(d=D.v (.slice none 0 0)∧portsOf c part=[])):=by
 refine PC.of (N:=39) Tryz.func39 rfl rfl (Nat.le_of_ble_eq_true rfl) ?_
 refine PW.seq (PW.region (PL.rowK 2 [1,2] 1 (s':={ tab:=[⟨1,[],I part⟩,⟨2,[],D.p 0 0 0 0⟩],mem:=[Obj.var 30 (Config.d c)] }) (p:=True) kR (by trivial) (PL.nil ?_)))
 show PW _ _ _ _ _
 refine PW.seq (PW.region (PL.rowK 1 [1,2,5] 1 (s':={ tab:=[⟨1,[],I part⟩,⟨2,[],D.p 0 0 0 0⟩,⟨5,[],D.v (.slice none 0 0)⟩],mem:=[Obj.var 30 (Config.d c)] }) (p:=True) kR (by trivial) (PL.nil ?_)))
 show PW _ _ _ _ _
 refine PW.seq (PW.seq (PW.region (PL.rowK 2 [1,2,5,9,10] 1 (s':={ tab:=[⟨1,[],I part⟩,⟨2,[],D.p 0 0 0 0⟩,⟨5,[],D.v (.slice none 0 0)⟩,⟨9,[],D.r (Config.d c)⟩,⟨10,[],I part⟩],mem:=[Obj.var 30 (Config.d c)] }) (p:=True) kR (by trivial) (PL.gcall (A:=[]) (f:=57) (ds:=[D.r (Config.d c),I part]) kR kR kR kR kR rfl (D.v (.bool (goodB c part))) (fun _=>drumlineref5_Good_pc c part oM oM) (PL.rowK 1 [1,2,5,12] 1 (s':={ tab:=[⟨1,[],I part⟩,⟨2,[],D.p 0 0 0 0⟩,⟨5,[],D.v (.slice none 0 0)⟩,⟨12,[],D.v (.bool (!(goodB c part)))⟩],mem:=[Obj.var 30 (Config.d c)] }) (p:=True) kR (by trivial) (PL.nil ?_))))))
 show PW _ _ _ _ _
 refine PW.cond (z:=(!(goodB c part))) kR (fun hz0 => ?_) (fun hz0 => ?_)
 ·skip
  try simp only [boolS,isB_true,isB_false] at hz0
  refine PW.seq (PW.region (PL.rowK 1 [4] 1 (s':={ tab:=[⟨4,[],D.v (.slice none 0 0)⟩],mem:=[Obj.var 30 (Config.d c)] }) (p:=True) kR (by trivial) (PL.nil ?_)))
  show PW _ _ _ _ _
  refine PW.ret (rq (D.v (.slice none 0 0)) ?_)
  exact .inr ⟨rfl,portsOf_bad hz0⟩
 ·skip
  try simp only [boolS,isB_true,isB_false] at hz0
  refine PW.k (PW.seq (PW.seq (PW.region (PL.rowK 1 [1,2,5,6] 1 (s':={ tab:=[⟨1,[],I part⟩,⟨2,[],D.p 0 0 0 0⟩,⟨5,[],D.v (.slice none 0 0)⟩,⟨6,[],I 0⟩],mem:=[Obj.var 30 (Config.d c)] }) (p:=True) kR (by trivial) (PL.nil ?_)))))
  show PW _ _ _ _ _
  refine PW.block (PW.born 5 76 4 kR (PW.loopR (α := Nat×List Port) (fun (i,xs)=>{ tab:=[⟨1,[],I part⟩,⟨2,[],D.p 0 0 0 0⟩,⟨5,[],D.h 1 xs.length⟩,⟨6,[],I (i:Int)⟩],mem:=[Obj.var 30 (Config.d c),Obj.row 76 4 xs.length (fun j=>[I ((xs.getD j default).node),I ((xs.getD j default).link),I ((xs.getD j default).gate),I ((xs.getD j default).side)])] }) (fun (i,xs)=>(i:Int)≤(c.parts.getD part.toNat default).nodes∧xs=portsN c part i) (fun (i,xs)=>(c.parts.getD part.toNat default).nodes.toNat-i) [1,2,5,6] 2 (0,[]) (s1:={ tab:=[⟨1,[],I part⟩,⟨2,[],D.p 0 0 0 0⟩,⟨5,[],D.h 1 0⟩,⟨6,[],I 0⟩],mem:=[Obj.var 30 (Config.d c),Obj.row 76 4 0 (fun _=>[])] }) kR kR ?_ ?_ ?_))
  ·dsimp only
   exact ⟨rfl,rfl,rfl,(.same (.row rfl (fun j hj=>absurd hj (Nat.not_lt_zero _)) .nil))⟩
  ·dsimp only
   have hgd:=good_in hz0
   exact ⟨by omega,rfl⟩
  rintro ⟨i,xs⟩ hinv
  dsimp only at hinv
  have hgd:=good_in hz0
  have hxl:xs.length≤i:=by rw [hinv.2]; exact portsN_len _ _ _
  show PW _ _ _ _ _
  refine PW.seq (PW.seq (PW.region (PL.rowK 8 [1,2,5,6,20] 2 (s':={ tab:=[⟨1,[],I part⟩,⟨2,[],D.p 0 0 0 0⟩,⟨5,[],D.h 1 xs.length⟩,⟨6,[],I (i:Int)⟩,⟨20,[],D.v (.bool (decide ((i:Int)<((c.parts.getD part.toNat default).nodes))))⟩],mem:=[Obj.var 30 (Config.d c),Obj.row 76 4 xs.length (fun j=>[I ((xs.getD j default).node),I ((xs.getD j default).link),I ((xs.getD j default).gate),I ((xs.getD j default).side)])] }) (p:=(0≤part∧part<(c.parts.length:Int))) kR nD (PL.nil ?_))))
  show PW _ _ _ _ _
  refine PW.cond (z:=(decide ((i:Int)<((c.parts.getD part.toNat default).nodes)))) kR (fun hz1 => ?_) (fun hz1 => ?_)
  ·skip
   try simp only [boolS,isB_true,isB_false] at hz1
   refine PW.k (PW.seq (PW.block (PW.seq (PW.region (PL.rowK 6 [1,2,5,6,24,27,28,29] 2 (s':={ tab:=[⟨1,[],I part⟩,⟨2,[],D.p 0 0 0 0⟩,⟨5,[],D.h 1 xs.length⟩,⟨6,[],I (i:Int)⟩,⟨24,[],D.r (Config.d c)⟩,⟨27,[],I (c.links.length:Int)⟩,⟨28,[],I part⟩,⟨29,[],I (i:Int)⟩],mem:=[Obj.var 30 (Config.d c),Obj.row 76 4 xs.length (fun j=>[I ((xs.getD j default).node),I ((xs.getD j default).link),I ((xs.getD j default).gate),I ((xs.getD j default).side)])] }) (p:=True) kR (by trivial) (PL.gcall (A:=[]) (f:=58) (ds:=[D.r (Config.d c),I (c.links.length:Int),I part,I (i:Int)]) kR kR kR kR kR rfl (D.t [D.r [I (((portP c.links part (i:Int) c.links.length).getD ⟨0,0,0,0⟩).node),I (((portP c.links part (i:Int) c.links.length).getD ⟨0,0,0,0⟩).link),I (((portP c.links part (i:Int) c.links.length).getD ⟨0,0,0,0⟩).gate),I (((portP c.links part (i:Int) c.links.length).getD ⟨0,0,0,0⟩).side)],D.v (.bool ((portP c.links part (i:Int) c.links.length).isSome))]) (fun _=>drumlineref5_port_pc c c.links.length part (i:Int) oM oM) (PL.rowK 6 [1,2,5,6,7,8] 3 (s':={ tab:=[⟨1,[],I part⟩,⟨2,[],D.p 0 0 0 0⟩,⟨5,[],D.h 1 xs.length⟩,⟨6,[],I (i:Int)⟩,⟨7,[],D.p 2 0 0 0⟩,⟨8,[],D.v (.bool ((portP c.links part (i:Int) c.links.length).isSome))⟩],mem:=[Obj.var 30 (Config.d c),Obj.row 76 4 xs.length (fun j=>[I ((xs.getD j default).node),I ((xs.getD j default).link),I ((xs.getD j default).gate),I ((xs.getD j default).side)]),Obj.var 76 [I (((portP c.links part (i:Int) c.links.length).getD ⟨0,0,0,0⟩).node),I (((portP c.links part (i:Int) c.links.length).getD ⟨0,0,0,0⟩).link),I (((portP c.links part (i:Int) c.links.length).getD ⟨0,0,0,0⟩).gate),I (((portP c.links part (i:Int) c.links.length).getD ⟨0,0,0,0⟩).side)]] }) (p:=True) kR (by trivial) ?_)))))))
   refine PL.nil ?_
   show PW _ _ _ _ _
   refine PW.seq (PW.region (PL.rowK 1 [1,2,5,6,7,33] 3 (s':={ tab:=[⟨1,[],I part⟩,⟨2,[],D.p 0 0 0 0⟩,⟨5,[],D.h 1 xs.length⟩,⟨6,[],I (i:Int)⟩,⟨7,[],D.p 2 0 0 0⟩,⟨33,[],D.v (.bool ((portP c.links part (i:Int) c.links.length).isSome))⟩],mem:=[Obj.var 30 (Config.d c),Obj.row 76 4 xs.length (fun j=>[I ((xs.getD j default).node),I ((xs.getD j default).link),I ((xs.getD j default).gate),I ((xs.getD j default).side)]),Obj.var 76 [I (((portP c.links part (i:Int) c.links.length).getD ⟨0,0,0,0⟩).node),I (((portP c.links part (i:Int) c.links.length).getD ⟨0,0,0,0⟩).link),I (((portP c.links part (i:Int) c.links.length).getD ⟨0,0,0,0⟩).gate),I (((portP c.links part (i:Int) c.links.length).getD ⟨0,0,0,0⟩).side)]] }) (p:=True) kR (by trivial) (PL.nil ?_)))
   show PW _ _ _ _ _
   refine PW.cond (z:=((portP c.links part (i:Int) c.links.length).isSome)) kR (fun hz2 => ?_) (fun hz2 => ?_)
   ·skip
    try simp only [boolS,isB_true,isB_false] at hz2
    refine PW.region (PL.rowK 4 [1,2,6,37] 4 (s':={ tab:=[⟨1,[],I part⟩,⟨2,[],D.p 0 0 0 0⟩,⟨6,[],I (i:Int)⟩,⟨37,[],D.h 1 (xs.length+1)⟩],mem:=[Obj.var 30 (Config.d c),Obj.row 76 4 (xs.length+1) (fun j=>if j<xs.length then (fun j=>[I ((xs.getD j default).node),I ((xs.getD j default).link),I ((xs.getD j default).gate),I ((xs.getD j default).side)]) j else (fun k=>([[I (((portP c.links part (i:Int) c.links.length).getD ⟨0,0,0,0⟩).node),I (((portP c.links part (i:Int) c.links.length).getD ⟨0,0,0,0⟩).link),I (((portP c.links part (i:Int) c.links.length).getD ⟨0,0,0,0⟩).gate),I (((portP c.links part (i:Int) c.links.length).getD ⟨0,0,0,0⟩).side)]][k]?).getD []) (j-xs.length)),Obj.var 76 [I (((portP c.links part (i:Int) c.links.length).getD ⟨0,0,0,0⟩).node),I (((portP c.links part (i:Int) c.links.length).getD ⟨0,0,0,0⟩).link),I (((portP c.links part (i:Int) c.links.length).getD ⟨0,0,0,0⟩).gate),I (((portP c.links part (i:Int) c.links.length).getD ⟨0,0,0,0⟩).side)],Obj.row 76 4 1 (fun k=>([[I (((portP c.links part (i:Int) c.links.length).getD ⟨0,0,0,0⟩).node),I (((portP c.links part (i:Int) c.links.length).getD ⟨0,0,0,0⟩).link),I (((portP c.links part (i:Int) c.links.length).getD ⟨0,0,0,0⟩).gate),I (((portP c.links part (i:Int) c.links.length).getD ⟨0,0,0,0⟩).side)]][k]?).getD [])] }) (p:=((xs.length=xs.length∧1≤1)∧(xs.length+1)*32≤140737488355328∧xs.length+1≤9223372036854775807)) kR nD (PL.rem (s':={ tab:=[⟨1,[],I part⟩,⟨2,[],D.p 0 0 0 0⟩,⟨6,[],I (i:Int)⟩,⟨37,[],D.h 1 (xs.length+1)⟩],mem:=[Obj.var 30 (Config.d c),Obj.row 76 4 (xs.length+1) (fun j=>[I (((xs++[((portP c.links part (i:Int) c.links.length).getD ⟨0,0,0,0⟩)]).getD j default).node),I (((xs++[((portP c.links part (i:Int) c.links.length).getD ⟨0,0,0,0⟩)]).getD j default).link),I (((xs++[((portP c.links part (i:Int) c.links.length).getD ⟨0,0,0,0⟩)]).getD j default).gate),I (((xs++[((portP c.links part (i:Int) c.links.length).getD ⟨0,0,0,0⟩)]).getD j default).side)]),Obj.var 76 [I (((portP c.links part (i:Int) c.links.length).getD ⟨0,0,0,0⟩).node),I (((portP c.links part (i:Int) c.links.length).getD ⟨0,0,0,0⟩).link),I (((portP c.links part (i:Int) c.links.length).getD ⟨0,0,0,0⟩).gate),I (((portP c.links part (i:Int) c.links.length).getD ⟨0,0,0,0⟩).side)],Obj.row 76 4 1 (fun k=>([[I (((portP c.links part (i:Int) c.links.length).getD ⟨0,0,0,0⟩).node),I (((portP c.links part (i:Int) c.links.length).getD ⟨0,0,0,0⟩).link),I (((portP c.links part (i:Int) c.links.length).getD ⟨0,0,0,0⟩).gate),I (((portP c.links part (i:Int) c.links.length).getD ⟨0,0,0,0⟩).side)]][k]?).getD [])] }) ⟨rfl,rfl,rfl,(.same (.row rfl (fun j hj=>by (try dsimp only); rw [getD_app xs [((portP c.links part (i:Int) c.links.length).getD ⟨0,0,0,0⟩)] j default,show xs.length=xs.length from (by (try simp only [List.length_set,List.length_replicate,List.length_append,List.length_cons,List.length_nil]) <;> omega)]; split <;> first|rfl|(rename_i hjn; rw [show j-xs.length=0 by omega]; rfl)) (.same (.same .nil))))⟩ (PL.rowK 1 [1,2,5,6] 4 (s':={ tab:=[⟨1,[],I part⟩,⟨2,[],D.p 0 0 0 0⟩,⟨5,[],D.h 1 (xs.length+1)⟩,⟨6,[],I (i:Int)⟩],mem:=[Obj.var 30 (Config.d c),Obj.row 76 4 (xs.length+1) (fun j=>[I (((xs++[((portP c.links part (i:Int) c.links.length).getD ⟨0,0,0,0⟩)]).getD j default).node),I (((xs++[((portP c.links part (i:Int) c.links.length).getD ⟨0,0,0,0⟩)]).getD j default).link),I (((xs++[((portP c.links part (i:Int) c.links.length).getD ⟨0,0,0,0⟩)]).getD j default).gate),I (((xs++[((portP c.links part (i:Int) c.links.length).getD ⟨0,0,0,0⟩)]).getD j default).side)]),Obj.var 76 [I (((portP c.links part (i:Int) c.links.length).getD ⟨0,0,0,0⟩).node),I (((portP c.links part (i:Int) c.links.length).getD ⟨0,0,0,0⟩).link),I (((portP c.links part (i:Int) c.links.length).getD ⟨0,0,0,0⟩).gate),I (((portP c.links part (i:Int) c.links.length).getD ⟨0,0,0,0⟩).side)],Obj.row 76 4 1 (fun k=>([[I (((portP c.links part (i:Int) c.links.length).getD ⟨0,0,0,0⟩).node),I (((portP c.links part (i:Int) c.links.length).getD ⟨0,0,0,0⟩).link),I (((portP c.links part (i:Int) c.links.length).getD ⟨0,0,0,0⟩).gate),I (((portP c.links part (i:Int) c.links.length).getD ⟨0,0,0,0⟩).side)]][k]?).getD [])] }) (p:=True) kR (by trivial) (PL.nil ?_))))
    show PW _ _ _ _ _
    refine PW.region (PL.rowK 3 [1,2,5,6] 4 (s':={ tab:=[⟨1,[],I part⟩,⟨2,[],D.p 0 0 0 0⟩,⟨5,[],D.h 1 (xs.length+1)⟩,⟨6,[],I (IntKind.i64.wrap ((i:Int)+1))⟩],mem:=[Obj.var 30 (Config.d c),Obj.row 76 4 (xs.length+1) (fun j=>[I (((xs++[((portP c.links part (i:Int) c.links.length).getD ⟨0,0,0,0⟩)]).getD j default).node),I (((xs++[((portP c.links part (i:Int) c.links.length).getD ⟨0,0,0,0⟩)]).getD j default).link),I (((xs++[((portP c.links part (i:Int) c.links.length).getD ⟨0,0,0,0⟩)]).getD j default).gate),I (((xs++[((portP c.links part (i:Int) c.links.length).getD ⟨0,0,0,0⟩)]).getD j default).side)]),Obj.var 76 [I (((portP c.links part (i:Int) c.links.length).getD ⟨0,0,0,0⟩).node),I (((portP c.links part (i:Int) c.links.length).getD ⟨0,0,0,0⟩).link),I (((portP c.links part (i:Int) c.links.length).getD ⟨0,0,0,0⟩).gate),I (((portP c.links part (i:Int) c.links.length).getD ⟨0,0,0,0⟩).side)],Obj.row 76 4 1 (fun k=>([[I (((portP c.links part (i:Int) c.links.length).getD ⟨0,0,0,0⟩).node),I (((portP c.links part (i:Int) c.links.length).getD ⟨0,0,0,0⟩).link),I (((portP c.links part (i:Int) c.links.length).getD ⟨0,0,0,0⟩).gate),I (((portP c.links part (i:Int) c.links.length).getD ⟨0,0,0,0⟩).side)]][k]?).getD [])] }) (p:=True) kR (by trivial) (PL.nil ?_))
    refine BackR.of (s1:={ tab:=[⟨1,[],I part⟩,⟨2,[],D.p 0 0 0 0⟩,⟨5,[],D.h 1 (xs.length+1)⟩,⟨6,[],I (IntKind.i64.wrap ((i:Int)+1))⟩],mem:=[Obj.var 30 (Config.d c),Obj.row 76 4 (xs.length+1) (fun j=>[I (((xs++[((portP c.links part (i:Int) c.links.length).getD ⟨0,0,0,0⟩)]).getD j default).node),I (((xs++[((portP c.links part (i:Int) c.links.length).getD ⟨0,0,0,0⟩)]).getD j default).link),I (((xs++[((portP c.links part (i:Int) c.links.length).getD ⟨0,0,0,0⟩)]).getD j default).gate),I (((xs++[((portP c.links part (i:Int) c.links.length).getD ⟨0,0,0,0⟩)]).getD j default).side)])] }) (i+1,xs++[((portP c.links part (i:Int) c.links.length).getD ⟨0,0,0,0⟩)]) kR kR ?_ ?_ ?_
    ·dsimp only
     rw [wrap1 i oM]
     try simp only [List.length_append,List.length_singleton]
     exact Rem.refl _
    ·dsimp only
     refine ⟨by omega,?_⟩
     first|(rw [portsN_some (by assumption),← hinv.2])|(rw [portsN_none (by assumption),← hinv.2])
    ·dsimp only
     exact nD
   ·skip
    try simp only [boolS,isB_true,isB_false] at hz2
    refine PW.k (PW.region (PL.rowK 3 [1,2,5,6] 3 (s':={ tab:=[⟨1,[],I part⟩,⟨2,[],D.p 0 0 0 0⟩,⟨5,[],D.h 1 xs.length⟩,⟨6,[],I (IntKind.i64.wrap ((i:Int)+1))⟩],mem:=[Obj.var 30 (Config.d c),Obj.row 76 4 xs.length (fun j=>[I ((xs.getD j default).node),I ((xs.getD j default).link),I ((xs.getD j default).gate),I ((xs.getD j default).side)]),Obj.var 76 [I (((portP c.links part (i:Int) c.links.length).getD ⟨0,0,0,0⟩).node),I (((portP c.links part (i:Int) c.links.length).getD ⟨0,0,0,0⟩).link),I (((portP c.links part (i:Int) c.links.length).getD ⟨0,0,0,0⟩).gate),I (((portP c.links part (i:Int) c.links.length).getD ⟨0,0,0,0⟩).side)]] }) (p:=True) kR (by trivial) (PL.nil ?_)))
    refine BackR.of (s1:={ tab:=[⟨1,[],I part⟩,⟨2,[],D.p 0 0 0 0⟩,⟨5,[],D.h 1 xs.length⟩,⟨6,[],I (IntKind.i64.wrap ((i:Int)+1))⟩],mem:=[Obj.var 30 (Config.d c),Obj.row 76 4 xs.length (fun j=>[I ((xs.getD j default).node),I ((xs.getD j default).link),I ((xs.getD j default).gate),I ((xs.getD j default).side)])] }) (i+1,xs) kR kR ?_ ?_ ?_
    ·dsimp only
     rw [wrap1 i oM]
     try simp only [List.length_append,List.length_singleton]
     exact Rem.refl _
    ·dsimp only
     refine ⟨by omega,?_⟩
     first|(rw [portsN_some (by assumption),← hinv.2])|(rw [portsN_none (by assumption),← hinv.2])
    ·dsimp only
     exact nD
  ·skip
   try simp only [boolS,isB_true,isB_false] at hz1
   refine PW.e (PW.seq (PW.region (PL.rowK 2 [4] 2 (s':={ tab:=[⟨4,[],D.h 1 xs.length⟩],mem:=[Obj.var 30 (Config.d c),Obj.row 76 4 xs.length (fun j=>[I ((xs.getD j default).node),I ((xs.getD j default).link),I ((xs.getD j default).gate),I ((xs.getD j default).side)])] }) (p:=True) kR (by trivial) (PL.nil ?_))))
   show PW _ _ _ _ _
   refine PW.ret (retQ_ret (d:=D.s xs.length 4 (fun j=>[I ((xs.getD j default).node),I ((xs.getD j default).link),I ((xs.getD j default).gate),I ((xs.getD j default).side)])) (ps:=[xs.length≤xs.length]) kR (show (xs.length≤xs.length) from by exact nD) ?_)
   left
   have hxs:xs=portsOf c part:=by
    rw [portsOf_good hz0,hinv.2,show i=(c.parts.getD part.toNat default).nodes.toNat by omega]
    rfl
   rw [← hxs]
   rfl
end Go.Proofs.YtdomlccfjnkbjaaGreatDoor.Pl
