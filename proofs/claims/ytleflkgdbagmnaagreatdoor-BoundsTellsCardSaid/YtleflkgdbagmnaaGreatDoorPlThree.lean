/- The document's own ends of chapter 5. -/
import Derived.Test.YtleflkgdbagmnaaGreatDoorPlOne
namespace Go.Proofs.YtleflkgdbagmnaaGreatDoor.Pl
open Go.RowKit Go.Proofs.YtleflkgdbagmnaaGreatDoor.Sm Go.Proofs.YtleflkgdbagmnaaGreatDoor.Dp
set_option maxHeartbeats 4000000
set_option maxRecDepth 100000
set_option linter.unusedVariables false
set_option linter.unusedSimpArgs false
/-- are the ports at one end wrong? -/
def endsB (c : Config) (i : Nat) (part p0 p1 : Int) : Bool :=
  (p0 == p1) || (!isB p0 (c.parts.getD part.toNat default).nodes || (portP c.links part p0 i).isSome) || (!isB p1 (c.parts.getD part.toNat default).nodes || (portP c.links part p1 i).isSome)
theorem drumlineref5_ends_pc (c : Config) (i : Nat) (part p0 p1 : Int) (hi : i ≤ c.links.length) (hs : c.links.length < 1000000) (hq : 0 ≤ part ∧ part < (c.parts.length : Int)) : PC Tryz.prog [] 76 [D.r (Config.d c), I (i : Int), I part, D.r [I p0, I p1]] (· = D.v (.bool (endsB c i part p0 p1))) := by
  refine PC.of (N := 45) Tryz.func76 rfl rfl (Nat.le_of_ble_eq_true rfl) ?_
  refine PW.seq ?_
  refine PW.region ?_
  refine PL.rowK 3 [1, 2, 4, 7] 2 (s' := { tab := [⟨1, [], I (i : Int)⟩, ⟨2, [], I part⟩, ⟨4, [], D.p 0 0 0 0⟩, ⟨7, [], D.p 1 0 0 0⟩], mem := [Obj.var 25 (Config.d c), Obj.var 39 [I p0, I p1]] }) (p := True) (by kernel_rfl) (by trivial) ?_
  refine PL.nil ?_
  show PW _ _ _ _ _
  refine PW.seq ?_
  refine PW.seq ?_
  refine PW.region ?_
  refine PL.rowK 5 [1, 2, 4, 7, 16] 2 (s' := { tab := [⟨1, [], I (i : Int)⟩, ⟨2, [], I part⟩, ⟨4, [], D.p 0 0 0 0⟩, ⟨7, [], D.p 1 0 0 0⟩, ⟨16, [], D.v (.bool (p0 == p1))⟩], mem := [Obj.var 25 (Config.d c), Obj.var 39 [I p0, I p1]] }) (p := (0 ≤ (0 : Int) ∧ (0 : Int) < ((2 : Nat) : Int)) ∧ (0 ≤ (1 : Int) ∧ (1 : Int) < ((2 : Nat) : Int))) (by kernel_rfl) (by ((repeat' (first | intro _ | refine And.intro ?_ ?_)) <;> first | omega | trivial | assumption)) ?_
  refine PL.nil ?_
  show PW _ _ _ _ _
  refine PW.cond (z := (p0 == p1)) (by kernel_rfl) (fun hz0 => ?_) (fun hz0 => ?_)
  · skip
    try simp only [boolS, isB_true, isB_false] at hz0
    refine PW.seq ?_
    refine PW.region ?_
    refine PL.rowK 1 [8] 2 (s' := { tab := [⟨8, [], D.v (.bool true)⟩], mem := [Obj.var 25 (Config.d c), Obj.var 39 [I p0, I p1]] }) (p := True) (by kernel_rfl) (by trivial) ?_
    refine PL.nil ?_
    show PW _ _ _ _ _
    refine PW.ret ?_
    refine retQ_ret (d := D.v (.bool true)) (ps := []) (by kernel_rfl) trivial ?_
    refine congrArg (fun b => D.v (.bool b)) ?_
    unfold endsB isB
    grind
  · skip
    try simp only [boolS, isB_true, isB_false] at hz0
    refine PW.skip ?_
    show PW _ _ _ _ _
    refine PW.seq ?_
    refine PW.seq ?_
    refine PW.region ?_
    refine PL.rowK 1 [1, 2, 4, 7, 9] 2 (s' := { tab := [⟨1, [], I (i : Int)⟩, ⟨2, [], I part⟩, ⟨4, [], D.p 0 0 0 0⟩, ⟨7, [], D.p 1 0 0 0⟩, ⟨9, [], I 0⟩], mem := [Obj.var 25 (Config.d c), Obj.var 39 [I p0, I p1]] }) (p := True) (by kernel_rfl) (by trivial) ?_
    refine PL.nil ?_
    show PW _ _ _ _ _
    refine PW.block ?_
    refine PW.rounds 3 ?_
    refine PR.succ ?_
    refine PW.seq ?_
    refine PW.seq ?_
    refine PW.region ?_
    refine PL.rowK 2 [1, 2, 4, 7, 9, 18] 2 (s' := { tab := [⟨1, [], I (i : Int)⟩, ⟨2, [], I part⟩, ⟨4, [], D.p 0 0 0 0⟩, ⟨7, [], D.p 1 0 0 0⟩, ⟨9, [], I 0⟩, ⟨18, [], D.v (.bool true)⟩], mem := [Obj.var 25 (Config.d c), Obj.var 39 [I p0, I p1]] }) (p := True) (by kernel_rfl) (by trivial) ?_
    refine PL.nil ?_
    show PW _ _ _ _ _
    refine PW.cond (z := true) (by kernel_rfl) (fun hz1 => ?_) (fun hz1 => by cases hz1)
    refine PW.skip ?_
    show PW _ _ _ _ _
    refine PW.seq ?_
    refine PW.block ?_
    refine PW.seq ?_
    refine PW.open [2] (by kernel_rfl) ?_
    refine PO.takes [0, 1, 2, 3, 4, 5] 13 [1, 2, 4, 7, 9, 22, 23, 24, 27] 2 (n := 7) (s' := { tab := [⟨1, [], I (i : Int)⟩, ⟨2, [], I part⟩, ⟨4, [], D.p 0 0 0 0⟩, ⟨7, [], D.p 1 0 0 0⟩, ⟨9, [], I 0⟩, ⟨22, [], D.r (Config.d c)⟩, ⟨23, [], I (i : Int)⟩, ⟨24, [], I part⟩, ⟨27, [], I p0⟩], mem := [Obj.var 25 (Config.d c), Obj.var 39 [I p0, I p1]] }) (p := (0 ≤ (0 : Int) ∧ (0 : Int) < ((2 : Nat) : Int))) (by kernel_rfl) (fun _ _ h => h) (by kernel_rfl) (by kernel_rfl) (by kernel_rfl) (by kernel_rfl) (by kernel_rfl) (by kernel_rfl) (by kernel_rfl) (by kernel_rfl) (by ((repeat' (first | intro _ | refine And.intro ?_ ?_)) <;> first | omega | trivial | assumption)) ?_
    refine PO.next (n := 6) [6, 10] (by kernel_rfl) (by simp) ?_
    intro i hi
    simp only [List.mem_cons, List.not_mem_nil, or_false] at hi
    rcases hi with rfl | rfl
    · skip
      refine PO1.gcall (A := []) (f := 83) (ds := [D.r (Config.d c), I (i : Int), I part, I p0]) rfl (by kernel_rfl) (by kernel_rfl) (by kernel_rfl) (by kernel_rfl) (by kernel_rfl) rfl (D.t [D.r [I (((portP c.links part p0 i).getD ⟨0, 0, 0, 0⟩).node), I (((portP c.links part p0 i).getD ⟨0, 0, 0, 0⟩).link), I (((portP c.links part p0 i).getD ⟨0, 0, 0, 0⟩).gate), I (((portP c.links part p0 i).getD ⟨0, 0, 0, 0⟩).side)], D.v (.bool ((portP c.links part p0 i).isSome))]) (fun _ => drumlineref5_port_pc c i part p0 (by omega) (by omega)) ?_
      refine PO.takes [7, 8, 9] 6 [1, 2, 4, 7, 9, 29, 30] 2 (n := 3) (s' := { tab := [⟨1, [], I (i : Int)⟩, ⟨2, [], I part⟩, ⟨4, [], D.p 0 0 0 0⟩, ⟨7, [], D.p 1 0 0 0⟩, ⟨9, [], I 0⟩, ⟨29, [], D.r [I (((portP c.links part p0 i).getD ⟨0, 0, 0, 0⟩).node), I (((portP c.links part p0 i).getD ⟨0, 0, 0, 0⟩).link), I (((portP c.links part p0 i).getD ⟨0, 0, 0, 0⟩).gate), I (((portP c.links part p0 i).getD ⟨0, 0, 0, 0⟩).side)]⟩, ⟨30, [], D.v (.bool ((portP c.links part p0 i).isSome))⟩], mem := [Obj.var 25 (Config.d c), Obj.var 39 [I p0, I p1]] }) (p := True) (by kernel_rfl) (fun _ _ h => h) (by kernel_rfl) (by kernel_rfl) (by kernel_rfl) (by kernel_rfl) (by kernel_rfl) (by kernel_rfl) (by kernel_rfl) (by kernel_rfl) (by trivial) ?_
      refine PO.one (n := 2) 10 (by kernel_rfl) ?_
      refine PO1.mem [1, 2, 4, 7, 9, 10, 29, 30] 3 (s' := { tab := [⟨1, [], I (i : Int)⟩, ⟨2, [], I part⟩, ⟨4, [], D.p 0 0 0 0⟩, ⟨7, [], D.p 1 0 0 0⟩, ⟨9, [], I 0⟩, ⟨10, [], D.p 2 0 0 0⟩, ⟨29, [], D.r [I (((portP c.links part p0 i).getD ⟨0, 0, 0, 0⟩).node), I (((portP c.links part p0 i).getD ⟨0, 0, 0, 0⟩).link), I (((portP c.links part p0 i).getD ⟨0, 0, 0, 0⟩).gate), I (((portP c.links part p0 i).getD ⟨0, 0, 0, 0⟩).side)]⟩, ⟨30, [], D.v (.bool ((portP c.links part p0 i).isSome))⟩], mem := [Obj.var 25 (Config.d c), Obj.var 39 [I p0, I p1], Obj.var 117 [I 0, I 0, I 0, I 0]] }) (p := True) rfl (by kernel_rfl) (by kernel_rfl) (by kernel_rfl) (by kernel_rfl) (by kernel_rfl) (by kernel_rfl) (by kernel_rfl) (by kernel_rfl) (by kernel_rfl) (by trivial) ?_
      refine PO.one (n := 1) 11 (by kernel_rfl) ?_
      refine PO1.mem [1, 2, 4, 7, 9, 30] 3 (s' := { tab := [⟨1, [], I (i : Int)⟩, ⟨2, [], I part⟩, ⟨4, [], D.p 0 0 0 0⟩, ⟨7, [], D.p 1 0 0 0⟩, ⟨9, [], I 0⟩, ⟨30, [], D.v (.bool ((portP c.links part p0 i).isSome))⟩], mem := [Obj.var 25 (Config.d c), Obj.var 39 [I p0, I p1], Obj.var 117 [I (((portP c.links part p0 i).getD ⟨0, 0, 0, 0⟩).node), I (((portP c.links part p0 i).getD ⟨0, 0, 0, 0⟩).link), I (((portP c.links part p0 i).getD ⟨0, 0, 0, 0⟩).gate), I (((portP c.links part p0 i).getD ⟨0, 0, 0, 0⟩).side)]] }) (p := True) rfl (by kernel_rfl) (by kernel_rfl) (by kernel_rfl) (by kernel_rfl) (by kernel_rfl) (by kernel_rfl) (by kernel_rfl) (by kernel_rfl) (by kernel_rfl) (by trivial) ?_
      refine PO.takes [12] 1 [1, 2, 4, 7, 9, 11] 3 (n := 0) (s' := { tab := [⟨1, [], I (i : Int)⟩, ⟨2, [], I part⟩, ⟨4, [], D.p 0 0 0 0⟩, ⟨7, [], D.p 1 0 0 0⟩, ⟨9, [], I 0⟩, ⟨11, [], D.v (.bool ((portP c.links part p0 i).isSome))⟩], mem := [Obj.var 25 (Config.d c), Obj.var 39 [I p0, I p1], Obj.var 117 [I (((portP c.links part p0 i).getD ⟨0, 0, 0, 0⟩).node), I (((portP c.links part p0 i).getD ⟨0, 0, 0, 0⟩).link), I (((portP c.links part p0 i).getD ⟨0, 0, 0, 0⟩).gate), I (((portP c.links part p0 i).getD ⟨0, 0, 0, 0⟩).side)]] }) (p := True) (by kernel_rfl) (fun _ _ h => h) (by kernel_rfl) (by kernel_rfl) (by kernel_rfl) (by kernel_rfl) (by kernel_rfl) (by kernel_rfl) (by kernel_rfl) (by kernel_rfl) (by trivial) ?_
      refine PO.done (by kernel_rfl) ?_
      show PW _ _ _ _ _
      refine PW.seq ?_
      refine PW.open [] (by kernel_rfl) ?_
      refine PO.takes [0, 1, 2, 3, 4, 5, 6, 7, 8] 14 [1, 2, 4, 7, 9, 11, 33, 39] 3 (n := 5) (s' := { tab := [⟨1, [], I (i : Int)⟩, ⟨2, [], I part⟩, ⟨4, [], D.p 0 0 0 0⟩, ⟨7, [], D.p 1 0 0 0⟩, ⟨9, [], I 0⟩, ⟨11, [], D.v (.bool ((portP c.links part p0 i).isSome))⟩, ⟨33, [], I p0⟩, ⟨39, [], I ((c.parts.getD part.toNat default).nodes)⟩], mem := [Obj.var 25 (Config.d c), Obj.var 39 [I p0, I p1], Obj.var 117 [I (((portP c.links part p0 i).getD ⟨0, 0, 0, 0⟩).node), I (((portP c.links part p0 i).getD ⟨0, 0, 0, 0⟩).link), I (((portP c.links part p0 i).getD ⟨0, 0, 0, 0⟩).gate), I (((portP c.links part p0 i).getD ⟨0, 0, 0, 0⟩).side)]] }) (p := (0 ≤ (0 : Int) ∧ (0 : Int) < ((2 : Nat) : Int)) ∧ (0 ≤ part ∧ part < (c.parts.length : Int))) (by kernel_rfl) (fun _ _ h => h) (by kernel_rfl) (by kernel_rfl) (by kernel_rfl) (by kernel_rfl) (by kernel_rfl) (by kernel_rfl) (by kernel_rfl) (by kernel_rfl) (by ((repeat' (first | intro _ | refine And.intro ?_ ?_)) <;> first | omega | trivial | assumption)) ?_
      refine PO.one (n := 4) 9 (by kernel_rfl) ?_
      refine PO1.gcall (A := []) (f := 58) (ds := [I p0, I ((c.parts.getD part.toNat default).nodes)]) rfl (by kernel_rfl) (by kernel_rfl) (by kernel_rfl) (by kernel_rfl) (by kernel_rfl) rfl (D.v (.bool (isB p0 ((c.parts.getD part.toNat default).nodes)))) (fun _ => drumlineref5_is_pc p0 ((c.parts.getD part.toNat default).nodes)) ?_
      refine PO.takes [10, 11, 12, 13] 4 [1, 2, 4, 7, 9, 44] 3 (n := 0) (s' := { tab := [⟨1, [], I (i : Int)⟩, ⟨2, [], I part⟩, ⟨4, [], D.p 0 0 0 0⟩, ⟨7, [], D.p 1 0 0 0⟩, ⟨9, [], I 0⟩, ⟨44, [], D.v (.bool ((!(isB p0 ((c.parts.getD part.toNat default).nodes))) || ((portP c.links part p0 i).isSome)))⟩], mem := [Obj.var 25 (Config.d c), Obj.var 39 [I p0, I p1], Obj.var 117 [I (((portP c.links part p0 i).getD ⟨0, 0, 0, 0⟩).node), I (((portP c.links part p0 i).getD ⟨0, 0, 0, 0⟩).link), I (((portP c.links part p0 i).getD ⟨0, 0, 0, 0⟩).gate), I (((portP c.links part p0 i).getD ⟨0, 0, 0, 0⟩).side)]] }) (p := True) (by kernel_rfl) (fun _ _ h => h) (by kernel_rfl) (by kernel_rfl) (by kernel_rfl) (by kernel_rfl) (by kernel_rfl) (by kernel_rfl) (by kernel_rfl) (by kernel_rfl) (by trivial) ?_
      refine PO.done (by kernel_rfl) ?_
      show PW _ _ _ _ _
      refine PW.cond (z := ((!(isB p0 ((c.parts.getD part.toNat default).nodes))) || ((portP c.links part p0 i).isSome))) (by kernel_rfl) (fun hz2 => ?_) (fun hz2 => ?_)
      · skip
        try simp only [boolS, isB_true, isB_false] at hz2
        refine PW.seq ?_
        refine PW.region ?_
        refine PL.rowK 1 [8] 3 (s' := { tab := [⟨8, [], D.v (.bool true)⟩], mem := [Obj.var 25 (Config.d c), Obj.var 39 [I p0, I p1], Obj.var 117 [I (((portP c.links part p0 i).getD ⟨0, 0, 0, 0⟩).node), I (((portP c.links part p0 i).getD ⟨0, 0, 0, 0⟩).link), I (((portP c.links part p0 i).getD ⟨0, 0, 0, 0⟩).gate), I (((portP c.links part p0 i).getD ⟨0, 0, 0, 0⟩).side)]] }) (p := True) (by kernel_rfl) (by trivial) ?_
        refine PL.nil ?_
        show PW _ _ _ _ _
        refine PW.ret ?_
        refine retQ_ret (d := D.v (.bool true)) (ps := []) (by kernel_rfl) trivial ?_
        refine congrArg (fun b => D.v (.bool b)) ?_
        unfold endsB isB
        grind
      · skip
        try simp only [boolS, isB_true, isB_false] at hz2
        refine PW.skip ?_
        show PW _ _ _ _ _
        refine PW.region ?_
        refine PL.rowK 3 [1, 2, 4, 7, 9] 3 (s' := { tab := [⟨1, [], I (i : Int)⟩, ⟨2, [], I part⟩, ⟨4, [], D.p 0 0 0 0⟩, ⟨7, [], D.p 1 0 0 0⟩, ⟨9, [], I 1⟩], mem := [Obj.var 25 (Config.d c), Obj.var 39 [I p0, I p1], Obj.var 117 [I (((portP c.links part p0 i).getD ⟨0, 0, 0, 0⟩).node), I (((portP c.links part p0 i).getD ⟨0, 0, 0, 0⟩).link), I (((portP c.links part p0 i).getD ⟨0, 0, 0, 0⟩).gate), I (((portP c.links part p0 i).getD ⟨0, 0, 0, 0⟩).side)]] }) (p := True) (by kernel_rfl) (by trivial) ?_
        refine PL.nil ?_
        show PR _ _ _ _ _ _
        refine PR.succ ?_
        refine PW.seq ?_
        refine PW.seq ?_
        refine PW.region ?_
        refine PL.rowK 2 [1, 2, 4, 7, 9, 18] 3 (s' := { tab := [⟨1, [], I (i : Int)⟩, ⟨2, [], I part⟩, ⟨4, [], D.p 0 0 0 0⟩, ⟨7, [], D.p 1 0 0 0⟩, ⟨9, [], I 1⟩, ⟨18, [], D.v (.bool true)⟩], mem := [Obj.var 25 (Config.d c), Obj.var 39 [I p0, I p1], Obj.var 117 [I (((portP c.links part p0 i).getD ⟨0, 0, 0, 0⟩).node), I (((portP c.links part p0 i).getD ⟨0, 0, 0, 0⟩).link), I (((portP c.links part p0 i).getD ⟨0, 0, 0, 0⟩).gate), I (((portP c.links part p0 i).getD ⟨0, 0, 0, 0⟩).side)]] }) (p := True) (by kernel_rfl) (by trivial) ?_
        refine PL.nil ?_
        show PW _ _ _ _ _
        refine PW.cond (z := true) (by kernel_rfl) (fun hz3 => ?_) (fun hz3 => by cases hz3)
        refine PW.skip ?_
        show PW _ _ _ _ _
        refine PW.seq ?_
        refine PW.block ?_
        refine PW.seq ?_
        refine PW.open [3] (by kernel_rfl) ?_
        refine PO.takes [0, 1, 2, 3, 4, 5] 13 [1, 2, 4, 7, 9, 22, 23, 24, 27] 3 (n := 7) (s' := { tab := [⟨1, [], I (i : Int)⟩, ⟨2, [], I part⟩, ⟨4, [], D.p 0 0 0 0⟩, ⟨7, [], D.p 1 0 0 0⟩, ⟨9, [], I 1⟩, ⟨22, [], D.r (Config.d c)⟩, ⟨23, [], I (i : Int)⟩, ⟨24, [], I part⟩, ⟨27, [], I p1⟩], mem := [Obj.var 25 (Config.d c), Obj.var 39 [I p0, I p1], Obj.var 117 [I (((portP c.links part p0 i).getD ⟨0, 0, 0, 0⟩).node), I (((portP c.links part p0 i).getD ⟨0, 0, 0, 0⟩).link), I (((portP c.links part p0 i).getD ⟨0, 0, 0, 0⟩).gate), I (((portP c.links part p0 i).getD ⟨0, 0, 0, 0⟩).side)]] }) (p := (0 ≤ (1 : Int) ∧ (1 : Int) < ((2 : Nat) : Int))) (by kernel_rfl) (fun _ _ h => h) (by kernel_rfl) (by kernel_rfl) (by kernel_rfl) (by kernel_rfl) (by kernel_rfl) (by kernel_rfl) (by kernel_rfl) (by kernel_rfl) (by ((repeat' (first | intro _ | refine And.intro ?_ ?_)) <;> first | omega | trivial | assumption)) ?_
        refine PO.next (n := 6) [6, 10] (by kernel_rfl) (by simp) ?_
        intro i hi
        simp only [List.mem_cons, List.not_mem_nil, or_false] at hi
        rcases hi with rfl | rfl
        · skip
          refine PO1.gcall (A := []) (f := 83) (ds := [D.r (Config.d c), I (i : Int), I part, I p1]) rfl (by kernel_rfl) (by kernel_rfl) (by kernel_rfl) (by kernel_rfl) (by kernel_rfl) rfl (D.t [D.r [I (((portP c.links part p1 i).getD ⟨0, 0, 0, 0⟩).node), I (((portP c.links part p1 i).getD ⟨0, 0, 0, 0⟩).link), I (((portP c.links part p1 i).getD ⟨0, 0, 0, 0⟩).gate), I (((portP c.links part p1 i).getD ⟨0, 0, 0, 0⟩).side)], D.v (.bool ((portP c.links part p1 i).isSome))]) (fun _ => drumlineref5_port_pc c i part p1 (by omega) (by omega)) ?_
          refine PO.takes [7, 8, 9] 6 [1, 2, 4, 7, 9, 29, 30] 3 (n := 3) (s' := { tab := [⟨1, [], I (i : Int)⟩, ⟨2, [], I part⟩, ⟨4, [], D.p 0 0 0 0⟩, ⟨7, [], D.p 1 0 0 0⟩, ⟨9, [], I 1⟩, ⟨29, [], D.r [I (((portP c.links part p1 i).getD ⟨0, 0, 0, 0⟩).node), I (((portP c.links part p1 i).getD ⟨0, 0, 0, 0⟩).link), I (((portP c.links part p1 i).getD ⟨0, 0, 0, 0⟩).gate), I (((portP c.links part p1 i).getD ⟨0, 0, 0, 0⟩).side)]⟩, ⟨30, [], D.v (.bool ((portP c.links part p1 i).isSome))⟩], mem := [Obj.var 25 (Config.d c), Obj.var 39 [I p0, I p1], Obj.var 117 [I (((portP c.links part p0 i).getD ⟨0, 0, 0, 0⟩).node), I (((portP c.links part p0 i).getD ⟨0, 0, 0, 0⟩).link), I (((portP c.links part p0 i).getD ⟨0, 0, 0, 0⟩).gate), I (((portP c.links part p0 i).getD ⟨0, 0, 0, 0⟩).side)]] }) (p := True) (by kernel_rfl) (fun _ _ h => h) (by kernel_rfl) (by kernel_rfl) (by kernel_rfl) (by kernel_rfl) (by kernel_rfl) (by kernel_rfl) (by kernel_rfl) (by kernel_rfl) (by trivial) ?_
          refine PO.one (n := 2) 10 (by kernel_rfl) ?_
          refine PO1.mem [1, 2, 4, 7, 9, 10, 29, 30] 4 (s' := { tab := [⟨1, [], I (i : Int)⟩, ⟨2, [], I part⟩, ⟨4, [], D.p 0 0 0 0⟩, ⟨7, [], D.p 1 0 0 0⟩, ⟨9, [], I 1⟩, ⟨10, [], D.p 3 0 0 0⟩, ⟨29, [], D.r [I (((portP c.links part p1 i).getD ⟨0, 0, 0, 0⟩).node), I (((portP c.links part p1 i).getD ⟨0, 0, 0, 0⟩).link), I (((portP c.links part p1 i).getD ⟨0, 0, 0, 0⟩).gate), I (((portP c.links part p1 i).getD ⟨0, 0, 0, 0⟩).side)]⟩, ⟨30, [], D.v (.bool ((portP c.links part p1 i).isSome))⟩], mem := [Obj.var 25 (Config.d c), Obj.var 39 [I p0, I p1], Obj.var 117 [I (((portP c.links part p0 i).getD ⟨0, 0, 0, 0⟩).node), I (((portP c.links part p0 i).getD ⟨0, 0, 0, 0⟩).link), I (((portP c.links part p0 i).getD ⟨0, 0, 0, 0⟩).gate), I (((portP c.links part p0 i).getD ⟨0, 0, 0, 0⟩).side)], Obj.var 117 [I 0, I 0, I 0, I 0]] }) (p := True) rfl (by kernel_rfl) (by kernel_rfl) (by kernel_rfl) (by kernel_rfl) (by kernel_rfl) (by kernel_rfl) (by kernel_rfl) (by kernel_rfl) (by kernel_rfl) (by trivial) ?_
          refine PO.one (n := 1) 11 (by kernel_rfl) ?_
          refine PO1.mem [1, 2, 4, 7, 9, 30] 4 (s' := { tab := [⟨1, [], I (i : Int)⟩, ⟨2, [], I part⟩, ⟨4, [], D.p 0 0 0 0⟩, ⟨7, [], D.p 1 0 0 0⟩, ⟨9, [], I 1⟩, ⟨30, [], D.v (.bool ((portP c.links part p1 i).isSome))⟩], mem := [Obj.var 25 (Config.d c), Obj.var 39 [I p0, I p1], Obj.var 117 [I (((portP c.links part p0 i).getD ⟨0, 0, 0, 0⟩).node), I (((portP c.links part p0 i).getD ⟨0, 0, 0, 0⟩).link), I (((portP c.links part p0 i).getD ⟨0, 0, 0, 0⟩).gate), I (((portP c.links part p0 i).getD ⟨0, 0, 0, 0⟩).side)], Obj.var 117 [I (((portP c.links part p1 i).getD ⟨0, 0, 0, 0⟩).node), I (((portP c.links part p1 i).getD ⟨0, 0, 0, 0⟩).link), I (((portP c.links part p1 i).getD ⟨0, 0, 0, 0⟩).gate), I (((portP c.links part p1 i).getD ⟨0, 0, 0, 0⟩).side)]] }) (p := True) rfl (by kernel_rfl) (by kernel_rfl) (by kernel_rfl) (by kernel_rfl) (by kernel_rfl) (by kernel_rfl) (by kernel_rfl) (by kernel_rfl) (by kernel_rfl) (by trivial) ?_
          refine PO.takes [12] 1 [1, 2, 4, 7, 9, 11] 4 (n := 0) (s' := { tab := [⟨1, [], I (i : Int)⟩, ⟨2, [], I part⟩, ⟨4, [], D.p 0 0 0 0⟩, ⟨7, [], D.p 1 0 0 0⟩, ⟨9, [], I 1⟩, ⟨11, [], D.v (.bool ((portP c.links part p1 i).isSome))⟩], mem := [Obj.var 25 (Config.d c), Obj.var 39 [I p0, I p1], Obj.var 117 [I (((portP c.links part p0 i).getD ⟨0, 0, 0, 0⟩).node), I (((portP c.links part p0 i).getD ⟨0, 0, 0, 0⟩).link), I (((portP c.links part p0 i).getD ⟨0, 0, 0, 0⟩).gate), I (((portP c.links part p0 i).getD ⟨0, 0, 0, 0⟩).side)], Obj.var 117 [I (((portP c.links part p1 i).getD ⟨0, 0, 0, 0⟩).node), I (((portP c.links part p1 i).getD ⟨0, 0, 0, 0⟩).link), I (((portP c.links part p1 i).getD ⟨0, 0, 0, 0⟩).gate), I (((portP c.links part p1 i).getD ⟨0, 0, 0, 0⟩).side)]] }) (p := True) (by kernel_rfl) (fun _ _ h => h) (by kernel_rfl) (by kernel_rfl) (by kernel_rfl) (by kernel_rfl) (by kernel_rfl) (by kernel_rfl) (by kernel_rfl) (by kernel_rfl) (by trivial) ?_
          refine PO.done (by kernel_rfl) ?_
          show PW _ _ _ _ _
          refine PW.seq ?_
          refine PW.open [] (by kernel_rfl) ?_
          refine PO.takes [0, 1, 2, 3, 4, 5, 6, 7, 8] 14 [1, 2, 4, 7, 9, 11, 33, 39] 4 (n := 5) (s' := { tab := [⟨1, [], I (i : Int)⟩, ⟨2, [], I part⟩, ⟨4, [], D.p 0 0 0 0⟩, ⟨7, [], D.p 1 0 0 0⟩, ⟨9, [], I 1⟩, ⟨11, [], D.v (.bool ((portP c.links part p1 i).isSome))⟩, ⟨33, [], I p1⟩, ⟨39, [], I ((c.parts.getD part.toNat default).nodes)⟩], mem := [Obj.var 25 (Config.d c), Obj.var 39 [I p0, I p1], Obj.var 117 [I (((portP c.links part p0 i).getD ⟨0, 0, 0, 0⟩).node), I (((portP c.links part p0 i).getD ⟨0, 0, 0, 0⟩).link), I (((portP c.links part p0 i).getD ⟨0, 0, 0, 0⟩).gate), I (((portP c.links part p0 i).getD ⟨0, 0, 0, 0⟩).side)], Obj.var 117 [I (((portP c.links part p1 i).getD ⟨0, 0, 0, 0⟩).node), I (((portP c.links part p1 i).getD ⟨0, 0, 0, 0⟩).link), I (((portP c.links part p1 i).getD ⟨0, 0, 0, 0⟩).gate), I (((portP c.links part p1 i).getD ⟨0, 0, 0, 0⟩).side)]] }) (p := (0 ≤ (1 : Int) ∧ (1 : Int) < ((2 : Nat) : Int)) ∧ (0 ≤ part ∧ part < (c.parts.length : Int))) (by kernel_rfl) (fun _ _ h => h) (by kernel_rfl) (by kernel_rfl) (by kernel_rfl) (by kernel_rfl) (by kernel_rfl) (by kernel_rfl) (by kernel_rfl) (by kernel_rfl) (by ((repeat' (first | intro _ | refine And.intro ?_ ?_)) <;> first | omega | trivial | assumption)) ?_
          refine PO.one (n := 4) 9 (by kernel_rfl) ?_
          refine PO1.gcall (A := []) (f := 58) (ds := [I p1, I ((c.parts.getD part.toNat default).nodes)]) rfl (by kernel_rfl) (by kernel_rfl) (by kernel_rfl) (by kernel_rfl) (by kernel_rfl) rfl (D.v (.bool (isB p1 ((c.parts.getD part.toNat default).nodes)))) (fun _ => drumlineref5_is_pc p1 ((c.parts.getD part.toNat default).nodes)) ?_
          refine PO.takes [10, 11, 12, 13] 4 [1, 2, 4, 7, 9, 44] 4 (n := 0) (s' := { tab := [⟨1, [], I (i : Int)⟩, ⟨2, [], I part⟩, ⟨4, [], D.p 0 0 0 0⟩, ⟨7, [], D.p 1 0 0 0⟩, ⟨9, [], I 1⟩, ⟨44, [], D.v (.bool ((!(isB p1 ((c.parts.getD part.toNat default).nodes))) || ((portP c.links part p1 i).isSome)))⟩], mem := [Obj.var 25 (Config.d c), Obj.var 39 [I p0, I p1], Obj.var 117 [I (((portP c.links part p0 i).getD ⟨0, 0, 0, 0⟩).node), I (((portP c.links part p0 i).getD ⟨0, 0, 0, 0⟩).link), I (((portP c.links part p0 i).getD ⟨0, 0, 0, 0⟩).gate), I (((portP c.links part p0 i).getD ⟨0, 0, 0, 0⟩).side)], Obj.var 117 [I (((portP c.links part p1 i).getD ⟨0, 0, 0, 0⟩).node), I (((portP c.links part p1 i).getD ⟨0, 0, 0, 0⟩).link), I (((portP c.links part p1 i).getD ⟨0, 0, 0, 0⟩).gate), I (((portP c.links part p1 i).getD ⟨0, 0, 0, 0⟩).side)]] }) (p := True) (by kernel_rfl) (fun _ _ h => h) (by kernel_rfl) (by kernel_rfl) (by kernel_rfl) (by kernel_rfl) (by kernel_rfl) (by kernel_rfl) (by kernel_rfl) (by kernel_rfl) (by trivial) ?_
          refine PO.done (by kernel_rfl) ?_
          show PW _ _ _ _ _
          refine PW.cond (z := ((!(isB p1 ((c.parts.getD part.toNat default).nodes))) || ((portP c.links part p1 i).isSome))) (by kernel_rfl) (fun hz4 => ?_) (fun hz4 => ?_)
          · skip
            try simp only [boolS, isB_true, isB_false] at hz4
            refine PW.seq ?_
            refine PW.region ?_
            refine PL.rowK 1 [8] 4 (s' := { tab := [⟨8, [], D.v (.bool true)⟩], mem := [Obj.var 25 (Config.d c), Obj.var 39 [I p0, I p1], Obj.var 117 [I (((portP c.links part p0 i).getD ⟨0, 0, 0, 0⟩).node), I (((portP c.links part p0 i).getD ⟨0, 0, 0, 0⟩).link), I (((portP c.links part p0 i).getD ⟨0, 0, 0, 0⟩).gate), I (((portP c.links part p0 i).getD ⟨0, 0, 0, 0⟩).side)], Obj.var 117 [I (((portP c.links part p1 i).getD ⟨0, 0, 0, 0⟩).node), I (((portP c.links part p1 i).getD ⟨0, 0, 0, 0⟩).link), I (((portP c.links part p1 i).getD ⟨0, 0, 0, 0⟩).gate), I (((portP c.links part p1 i).getD ⟨0, 0, 0, 0⟩).side)]] }) (p := True) (by kernel_rfl) (by trivial) ?_
            refine PL.nil ?_
            show PW _ _ _ _ _
            refine PW.ret ?_
            refine retQ_ret (d := D.v (.bool true)) (ps := []) (by kernel_rfl) trivial ?_
            refine congrArg (fun b => D.v (.bool b)) ?_
            unfold endsB isB
            grind
          · skip
            try simp only [boolS, isB_true, isB_false] at hz4
            refine PW.skip ?_
            show PW _ _ _ _ _
            refine PW.region ?_
            refine PL.rowK 3 [1, 2, 4, 7, 9] 4 (s' := { tab := [⟨1, [], I (i : Int)⟩, ⟨2, [], I part⟩, ⟨4, [], D.p 0 0 0 0⟩, ⟨7, [], D.p 1 0 0 0⟩, ⟨9, [], I 2⟩], mem := [Obj.var 25 (Config.d c), Obj.var 39 [I p0, I p1], Obj.var 117 [I (((portP c.links part p0 i).getD ⟨0, 0, 0, 0⟩).node), I (((portP c.links part p0 i).getD ⟨0, 0, 0, 0⟩).link), I (((portP c.links part p0 i).getD ⟨0, 0, 0, 0⟩).gate), I (((portP c.links part p0 i).getD ⟨0, 0, 0, 0⟩).side)], Obj.var 117 [I (((portP c.links part p1 i).getD ⟨0, 0, 0, 0⟩).node), I (((portP c.links part p1 i).getD ⟨0, 0, 0, 0⟩).link), I (((portP c.links part p1 i).getD ⟨0, 0, 0, 0⟩).gate), I (((portP c.links part p1 i).getD ⟨0, 0, 0, 0⟩).side)]] }) (p := True) (by kernel_rfl) (by trivial) ?_
            refine PL.nil ?_
            show PR _ _ _ _ _ _
            refine PR.succ ?_
            refine PW.seq ?_
            refine PW.seq ?_
            refine PW.region ?_
            refine PL.rowK 2 [1, 2, 4, 7, 9, 18] 4 (s' := { tab := [⟨1, [], I (i : Int)⟩, ⟨2, [], I part⟩, ⟨4, [], D.p 0 0 0 0⟩, ⟨7, [], D.p 1 0 0 0⟩, ⟨9, [], I 2⟩, ⟨18, [], D.v (.bool false)⟩], mem := [Obj.var 25 (Config.d c), Obj.var 39 [I p0, I p1], Obj.var 117 [I (((portP c.links part p0 i).getD ⟨0, 0, 0, 0⟩).node), I (((portP c.links part p0 i).getD ⟨0, 0, 0, 0⟩).link), I (((portP c.links part p0 i).getD ⟨0, 0, 0, 0⟩).gate), I (((portP c.links part p0 i).getD ⟨0, 0, 0, 0⟩).side)], Obj.var 117 [I (((portP c.links part p1 i).getD ⟨0, 0, 0, 0⟩).node), I (((portP c.links part p1 i).getD ⟨0, 0, 0, 0⟩).link), I (((portP c.links part p1 i).getD ⟨0, 0, 0, 0⟩).gate), I (((portP c.links part p1 i).getD ⟨0, 0, 0, 0⟩).side)]] }) (p := True) (by kernel_rfl) (by trivial) ?_
            refine PL.nil ?_
            show PW _ _ _ _ _
            refine PW.cond (z := false) (by kernel_rfl) (fun hz5 => by cases hz5) (fun hz5 => ?_)
            refine PW.exit ?_
            show PW _ _ _ _ _
            refine PW.seq ?_
            refine PW.region ?_
            refine PL.rowK 1 [8] 4 (s' := { tab := [⟨8, [], D.v (.bool false)⟩], mem := [Obj.var 25 (Config.d c), Obj.var 39 [I p0, I p1], Obj.var 117 [I (((portP c.links part p0 i).getD ⟨0, 0, 0, 0⟩).node), I (((portP c.links part p0 i).getD ⟨0, 0, 0, 0⟩).link), I (((portP c.links part p0 i).getD ⟨0, 0, 0, 0⟩).gate), I (((portP c.links part p0 i).getD ⟨0, 0, 0, 0⟩).side)], Obj.var 117 [I (((portP c.links part p1 i).getD ⟨0, 0, 0, 0⟩).node), I (((portP c.links part p1 i).getD ⟨0, 0, 0, 0⟩).link), I (((portP c.links part p1 i).getD ⟨0, 0, 0, 0⟩).gate), I (((portP c.links part p1 i).getD ⟨0, 0, 0, 0⟩).side)]] }) (p := True) (by kernel_rfl) (by trivial) ?_
            refine PL.nil ?_
            show PW _ _ _ _ _
            refine PW.ret ?_
            refine retQ_ret (d := D.v (.bool false)) (ps := []) (by kernel_rfl) trivial ?_
            refine congrArg (fun b => D.v (.bool b)) ?_
            unfold endsB isB
            grind
        · skip
          refine PO1.mem [1, 2, 4, 7, 9, 10, 22, 23, 24, 27] 4 (s' := { tab := [⟨1, [], I (i : Int)⟩, ⟨2, [], I part⟩, ⟨4, [], D.p 0 0 0 0⟩, ⟨7, [], D.p 1 0 0 0⟩, ⟨9, [], I 1⟩, ⟨10, [], D.p 3 0 0 0⟩, ⟨22, [], D.r (Config.d c)⟩, ⟨23, [], I (i : Int)⟩, ⟨24, [], I part⟩, ⟨27, [], I p1⟩], mem := [Obj.var 25 (Config.d c), Obj.var 39 [I p0, I p1], Obj.var 117 [I (((portP c.links part p0 i).getD ⟨0, 0, 0, 0⟩).node), I (((portP c.links part p0 i).getD ⟨0, 0, 0, 0⟩).link), I (((portP c.links part p0 i).getD ⟨0, 0, 0, 0⟩).gate), I (((portP c.links part p0 i).getD ⟨0, 0, 0, 0⟩).side)], Obj.var 117 [I 0, I 0, I 0, I 0]] }) (p := True) rfl (by kernel_rfl) (by kernel_rfl) (by kernel_rfl) (by kernel_rfl) (by kernel_rfl) (by kernel_rfl) (by kernel_rfl) (by kernel_rfl) (by kernel_rfl) (by trivial) ?_
          refine PO.one (n := 5) 6 (by kernel_rfl) ?_
          refine PO1.gcall (A := []) (f := 83) (ds := [D.r (Config.d c), I (i : Int), I part, I p1]) rfl (by kernel_rfl) (by kernel_rfl) (by kernel_rfl) (by kernel_rfl) (by kernel_rfl) rfl (D.t [D.r [I (((portP c.links part p1 i).getD ⟨0, 0, 0, 0⟩).node), I (((portP c.links part p1 i).getD ⟨0, 0, 0, 0⟩).link), I (((portP c.links part p1 i).getD ⟨0, 0, 0, 0⟩).gate), I (((portP c.links part p1 i).getD ⟨0, 0, 0, 0⟩).side)], D.v (.bool ((portP c.links part p1 i).isSome))]) (fun _ => drumlineref5_port_pc c i part p1 (by omega) (by omega)) ?_
          refine PO.takes [7, 8, 9] 5 [1, 2, 4, 7, 9, 10, 29, 30] 4 (n := 2) (s' := { tab := [⟨1, [], I (i : Int)⟩, ⟨2, [], I part⟩, ⟨4, [], D.p 0 0 0 0⟩, ⟨7, [], D.p 1 0 0 0⟩, ⟨9, [], I 1⟩, ⟨10, [], D.p 3 0 0 0⟩, ⟨29, [], D.r [I (((portP c.links part p1 i).getD ⟨0, 0, 0, 0⟩).node), I (((portP c.links part p1 i).getD ⟨0, 0, 0, 0⟩).link), I (((portP c.links part p1 i).getD ⟨0, 0, 0, 0⟩).gate), I (((portP c.links part p1 i).getD ⟨0, 0, 0, 0⟩).side)]⟩, ⟨30, [], D.v (.bool ((portP c.links part p1 i).isSome))⟩], mem := [Obj.var 25 (Config.d c), Obj.var 39 [I p0, I p1], Obj.var 117 [I (((portP c.links part p0 i).getD ⟨0, 0, 0, 0⟩).node), I (((portP c.links part p0 i).getD ⟨0, 0, 0, 0⟩).link), I (((portP c.links part p0 i).getD ⟨0, 0, 0, 0⟩).gate), I (((portP c.links part p0 i).getD ⟨0, 0, 0, 0⟩).side)], Obj.var 117 [I 0, I 0, I 0, I 0]] }) (p := True) (by kernel_rfl) (fun _ _ h => h) (by kernel_rfl) (by kernel_rfl) (by kernel_rfl) (by kernel_rfl) (by kernel_rfl) (by kernel_rfl) (by kernel_rfl) (by kernel_rfl) (by trivial) ?_
          refine PO.one (n := 1) 11 (by kernel_rfl) ?_
          refine PO1.mem [1, 2, 4, 7, 9, 30] 4 (s' := { tab := [⟨1, [], I (i : Int)⟩, ⟨2, [], I part⟩, ⟨4, [], D.p 0 0 0 0⟩, ⟨7, [], D.p 1 0 0 0⟩, ⟨9, [], I 1⟩, ⟨30, [], D.v (.bool ((portP c.links part p1 i).isSome))⟩], mem := [Obj.var 25 (Config.d c), Obj.var 39 [I p0, I p1], Obj.var 117 [I (((portP c.links part p0 i).getD ⟨0, 0, 0, 0⟩).node), I (((portP c.links part p0 i).getD ⟨0, 0, 0, 0⟩).link), I (((portP c.links part p0 i).getD ⟨0, 0, 0, 0⟩).gate), I (((portP c.links part p0 i).getD ⟨0, 0, 0, 0⟩).side)], Obj.var 117 [I (((portP c.links part p1 i).getD ⟨0, 0, 0, 0⟩).node), I (((portP c.links part p1 i).getD ⟨0, 0, 0, 0⟩).link), I (((portP c.links part p1 i).getD ⟨0, 0, 0, 0⟩).gate), I (((portP c.links part p1 i).getD ⟨0, 0, 0, 0⟩).side)]] }) (p := True) rfl (by kernel_rfl) (by kernel_rfl) (by kernel_rfl) (by kernel_rfl) (by kernel_rfl) (by kernel_rfl) (by kernel_rfl) (by kernel_rfl) (by kernel_rfl) (by trivial) ?_
          refine PO.takes [12] 1 [1, 2, 4, 7, 9, 11] 4 (n := 0) (s' := { tab := [⟨1, [], I (i : Int)⟩, ⟨2, [], I part⟩, ⟨4, [], D.p 0 0 0 0⟩, ⟨7, [], D.p 1 0 0 0⟩, ⟨9, [], I 1⟩, ⟨11, [], D.v (.bool ((portP c.links part p1 i).isSome))⟩], mem := [Obj.var 25 (Config.d c), Obj.var 39 [I p0, I p1], Obj.var 117 [I (((portP c.links part p0 i).getD ⟨0, 0, 0, 0⟩).node), I (((portP c.links part p0 i).getD ⟨0, 0, 0, 0⟩).link), I (((portP c.links part p0 i).getD ⟨0, 0, 0, 0⟩).gate), I (((portP c.links part p0 i).getD ⟨0, 0, 0, 0⟩).side)], Obj.var 117 [I (((portP c.links part p1 i).getD ⟨0, 0, 0, 0⟩).node), I (((portP c.links part p1 i).getD ⟨0, 0, 0, 0⟩).link), I (((portP c.links part p1 i).getD ⟨0, 0, 0, 0⟩).gate), I (((portP c.links part p1 i).getD ⟨0, 0, 0, 0⟩).side)]] }) (p := True) (by kernel_rfl) (fun _ _ h => h) (by kernel_rfl) (by kernel_rfl) (by kernel_rfl) (by kernel_rfl) (by kernel_rfl) (by kernel_rfl) (by kernel_rfl) (by kernel_rfl) (by trivial) ?_
          refine PO.done (by kernel_rfl) ?_
          show PW _ _ _ _ _
          refine PW.seq ?_
          refine PW.open [] (by kernel_rfl) ?_
          refine PO.takes [0, 1, 2, 3, 4, 5, 6, 7, 8] 14 [1, 2, 4, 7, 9, 11, 33, 39] 4 (n := 5) (s' := { tab := [⟨1, [], I (i : Int)⟩, ⟨2, [], I part⟩, ⟨4, [], D.p 0 0 0 0⟩, ⟨7, [], D.p 1 0 0 0⟩, ⟨9, [], I 1⟩, ⟨11, [], D.v (.bool ((portP c.links part p1 i).isSome))⟩, ⟨33, [], I p1⟩, ⟨39, [], I ((c.parts.getD part.toNat default).nodes)⟩], mem := [Obj.var 25 (Config.d c), Obj.var 39 [I p0, I p1], Obj.var 117 [I (((portP c.links part p0 i).getD ⟨0, 0, 0, 0⟩).node), I (((portP c.links part p0 i).getD ⟨0, 0, 0, 0⟩).link), I (((portP c.links part p0 i).getD ⟨0, 0, 0, 0⟩).gate), I (((portP c.links part p0 i).getD ⟨0, 0, 0, 0⟩).side)], Obj.var 117 [I (((portP c.links part p1 i).getD ⟨0, 0, 0, 0⟩).node), I (((portP c.links part p1 i).getD ⟨0, 0, 0, 0⟩).link), I (((portP c.links part p1 i).getD ⟨0, 0, 0, 0⟩).gate), I (((portP c.links part p1 i).getD ⟨0, 0, 0, 0⟩).side)]] }) (p := (0 ≤ (1 : Int) ∧ (1 : Int) < ((2 : Nat) : Int)) ∧ (0 ≤ part ∧ part < (c.parts.length : Int))) (by kernel_rfl) (fun _ _ h => h) (by kernel_rfl) (by kernel_rfl) (by kernel_rfl) (by kernel_rfl) (by kernel_rfl) (by kernel_rfl) (by kernel_rfl) (by kernel_rfl) (by ((repeat' (first | intro _ | refine And.intro ?_ ?_)) <;> first | omega | trivial | assumption)) ?_
          refine PO.one (n := 4) 9 (by kernel_rfl) ?_
          refine PO1.gcall (A := []) (f := 58) (ds := [I p1, I ((c.parts.getD part.toNat default).nodes)]) rfl (by kernel_rfl) (by kernel_rfl) (by kernel_rfl) (by kernel_rfl) (by kernel_rfl) rfl (D.v (.bool (isB p1 ((c.parts.getD part.toNat default).nodes)))) (fun _ => drumlineref5_is_pc p1 ((c.parts.getD part.toNat default).nodes)) ?_
          refine PO.takes [10, 11, 12, 13] 4 [1, 2, 4, 7, 9, 44] 4 (n := 0) (s' := { tab := [⟨1, [], I (i : Int)⟩, ⟨2, [], I part⟩, ⟨4, [], D.p 0 0 0 0⟩, ⟨7, [], D.p 1 0 0 0⟩, ⟨9, [], I 1⟩, ⟨44, [], D.v (.bool ((!(isB p1 ((c.parts.getD part.toNat default).nodes))) || ((portP c.links part p1 i).isSome)))⟩], mem := [Obj.var 25 (Config.d c), Obj.var 39 [I p0, I p1], Obj.var 117 [I (((portP c.links part p0 i).getD ⟨0, 0, 0, 0⟩).node), I (((portP c.links part p0 i).getD ⟨0, 0, 0, 0⟩).link), I (((portP c.links part p0 i).getD ⟨0, 0, 0, 0⟩).gate), I (((portP c.links part p0 i).getD ⟨0, 0, 0, 0⟩).side)], Obj.var 117 [I (((portP c.links part p1 i).getD ⟨0, 0, 0, 0⟩).node), I (((portP c.links part p1 i).getD ⟨0, 0, 0, 0⟩).link), I (((portP c.links part p1 i).getD ⟨0, 0, 0, 0⟩).gate), I (((portP c.links part p1 i).getD ⟨0, 0, 0, 0⟩).side)]] }) (p := True) (by kernel_rfl) (fun _ _ h => h) (by kernel_rfl) (by kernel_rfl) (by kernel_rfl) (by kernel_rfl) (by kernel_rfl) (by kernel_rfl) (by kernel_rfl) (by kernel_rfl) (by trivial) ?_
          refine PO.done (by kernel_rfl) ?_
          show PW _ _ _ _ _
          refine PW.cond (z := ((!(isB p1 ((c.parts.getD part.toNat default).nodes))) || ((portP c.links part p1 i).isSome))) (by kernel_rfl) (fun hz6 => ?_) (fun hz6 => ?_)
          · skip
            try simp only [boolS, isB_true, isB_false] at hz6
            refine PW.seq ?_
            refine PW.region ?_
            refine PL.rowK 1 [8] 4 (s' := { tab := [⟨8, [], D.v (.bool true)⟩], mem := [Obj.var 25 (Config.d c), Obj.var 39 [I p0, I p1], Obj.var 117 [I (((portP c.links part p0 i).getD ⟨0, 0, 0, 0⟩).node), I (((portP c.links part p0 i).getD ⟨0, 0, 0, 0⟩).link), I (((portP c.links part p0 i).getD ⟨0, 0, 0, 0⟩).gate), I (((portP c.links part p0 i).getD ⟨0, 0, 0, 0⟩).side)], Obj.var 117 [I (((portP c.links part p1 i).getD ⟨0, 0, 0, 0⟩).node), I (((portP c.links part p1 i).getD ⟨0, 0, 0, 0⟩).link), I (((portP c.links part p1 i).getD ⟨0, 0, 0, 0⟩).gate), I (((portP c.links part p1 i).getD ⟨0, 0, 0, 0⟩).side)]] }) (p := True) (by kernel_rfl) (by trivial) ?_
            refine PL.nil ?_
            show PW _ _ _ _ _
            refine PW.ret ?_
            refine retQ_ret (d := D.v (.bool true)) (ps := []) (by kernel_rfl) trivial ?_
            refine congrArg (fun b => D.v (.bool b)) ?_
            unfold endsB isB
            grind
          · skip
            try simp only [boolS, isB_true, isB_false] at hz6
            refine PW.skip ?_
            show PW _ _ _ _ _
            refine PW.region ?_
            refine PL.rowK 3 [1, 2, 4, 7, 9] 4 (s' := { tab := [⟨1, [], I (i : Int)⟩, ⟨2, [], I part⟩, ⟨4, [], D.p 0 0 0 0⟩, ⟨7, [], D.p 1 0 0 0⟩, ⟨9, [], I 2⟩], mem := [Obj.var 25 (Config.d c), Obj.var 39 [I p0, I p1], Obj.var 117 [I (((portP c.links part p0 i).getD ⟨0, 0, 0, 0⟩).node), I (((portP c.links part p0 i).getD ⟨0, 0, 0, 0⟩).link), I (((portP c.links part p0 i).getD ⟨0, 0, 0, 0⟩).gate), I (((portP c.links part p0 i).getD ⟨0, 0, 0, 0⟩).side)], Obj.var 117 [I (((portP c.links part p1 i).getD ⟨0, 0, 0, 0⟩).node), I (((portP c.links part p1 i).getD ⟨0, 0, 0, 0⟩).link), I (((portP c.links part p1 i).getD ⟨0, 0, 0, 0⟩).gate), I (((portP c.links part p1 i).getD ⟨0, 0, 0, 0⟩).side)]] }) (p := True) (by kernel_rfl) (by trivial) ?_
            refine PL.nil ?_
            show PR _ _ _ _ _ _
            refine PR.succ ?_
            refine PW.seq ?_
            refine PW.seq ?_
            refine PW.region ?_
            refine PL.rowK 2 [1, 2, 4, 7, 9, 18] 4 (s' := { tab := [⟨1, [], I (i : Int)⟩, ⟨2, [], I part⟩, ⟨4, [], D.p 0 0 0 0⟩, ⟨7, [], D.p 1 0 0 0⟩, ⟨9, [], I 2⟩, ⟨18, [], D.v (.bool false)⟩], mem := [Obj.var 25 (Config.d c), Obj.var 39 [I p0, I p1], Obj.var 117 [I (((portP c.links part p0 i).getD ⟨0, 0, 0, 0⟩).node), I (((portP c.links part p0 i).getD ⟨0, 0, 0, 0⟩).link), I (((portP c.links part p0 i).getD ⟨0, 0, 0, 0⟩).gate), I (((portP c.links part p0 i).getD ⟨0, 0, 0, 0⟩).side)], Obj.var 117 [I (((portP c.links part p1 i).getD ⟨0, 0, 0, 0⟩).node), I (((portP c.links part p1 i).getD ⟨0, 0, 0, 0⟩).link), I (((portP c.links part p1 i).getD ⟨0, 0, 0, 0⟩).gate), I (((portP c.links part p1 i).getD ⟨0, 0, 0, 0⟩).side)]] }) (p := True) (by kernel_rfl) (by trivial) ?_
            refine PL.nil ?_
            show PW _ _ _ _ _
            refine PW.cond (z := false) (by kernel_rfl) (fun hz7 => by cases hz7) (fun hz7 => ?_)
            refine PW.exit ?_
            show PW _ _ _ _ _
            refine PW.seq ?_
            refine PW.region ?_
            refine PL.rowK 1 [8] 4 (s' := { tab := [⟨8, [], D.v (.bool false)⟩], mem := [Obj.var 25 (Config.d c), Obj.var 39 [I p0, I p1], Obj.var 117 [I (((portP c.links part p0 i).getD ⟨0, 0, 0, 0⟩).node), I (((portP c.links part p0 i).getD ⟨0, 0, 0, 0⟩).link), I (((portP c.links part p0 i).getD ⟨0, 0, 0, 0⟩).gate), I (((portP c.links part p0 i).getD ⟨0, 0, 0, 0⟩).side)], Obj.var 117 [I (((portP c.links part p1 i).getD ⟨0, 0, 0, 0⟩).node), I (((portP c.links part p1 i).getD ⟨0, 0, 0, 0⟩).link), I (((portP c.links part p1 i).getD ⟨0, 0, 0, 0⟩).gate), I (((portP c.links part p1 i).getD ⟨0, 0, 0, 0⟩).side)]] }) (p := True) (by kernel_rfl) (by trivial) ?_
            refine PL.nil ?_
            show PW _ _ _ _ _
            refine PW.ret ?_
            refine retQ_ret (d := D.v (.bool false)) (ps := []) (by kernel_rfl) trivial ?_
            refine congrArg (fun b => D.v (.bool b)) ?_
            unfold endsB isB
            grind
    · skip
      refine PO1.mem [1, 2, 4, 7, 9, 10, 22, 23, 24, 27] 3 (s' := { tab := [⟨1, [], I (i : Int)⟩, ⟨2, [], I part⟩, ⟨4, [], D.p 0 0 0 0⟩, ⟨7, [], D.p 1 0 0 0⟩, ⟨9, [], I 0⟩, ⟨10, [], D.p 2 0 0 0⟩, ⟨22, [], D.r (Config.d c)⟩, ⟨23, [], I (i : Int)⟩, ⟨24, [], I part⟩, ⟨27, [], I p0⟩], mem := [Obj.var 25 (Config.d c), Obj.var 39 [I p0, I p1], Obj.var 117 [I 0, I 0, I 0, I 0]] }) (p := True) rfl (by kernel_rfl) (by kernel_rfl) (by kernel_rfl) (by kernel_rfl) (by kernel_rfl) (by kernel_rfl) (by kernel_rfl) (by kernel_rfl) (by kernel_rfl) (by trivial) ?_
      refine PO.one (n := 5) 6 (by kernel_rfl) ?_
      refine PO1.gcall (A := []) (f := 83) (ds := [D.r (Config.d c), I (i : Int), I part, I p0]) rfl (by kernel_rfl) (by kernel_rfl) (by kernel_rfl) (by kernel_rfl) (by kernel_rfl) rfl (D.t [D.r [I (((portP c.links part p0 i).getD ⟨0, 0, 0, 0⟩).node), I (((portP c.links part p0 i).getD ⟨0, 0, 0, 0⟩).link), I (((portP c.links part p0 i).getD ⟨0, 0, 0, 0⟩).gate), I (((portP c.links part p0 i).getD ⟨0, 0, 0, 0⟩).side)], D.v (.bool ((portP c.links part p0 i).isSome))]) (fun _ => drumlineref5_port_pc c i part p0 (by omega) (by omega)) ?_
      refine PO.takes [7, 8, 9] 5 [1, 2, 4, 7, 9, 10, 29, 30] 3 (n := 2) (s' := { tab := [⟨1, [], I (i : Int)⟩, ⟨2, [], I part⟩, ⟨4, [], D.p 0 0 0 0⟩, ⟨7, [], D.p 1 0 0 0⟩, ⟨9, [], I 0⟩, ⟨10, [], D.p 2 0 0 0⟩, ⟨29, [], D.r [I (((portP c.links part p0 i).getD ⟨0, 0, 0, 0⟩).node), I (((portP c.links part p0 i).getD ⟨0, 0, 0, 0⟩).link), I (((portP c.links part p0 i).getD ⟨0, 0, 0, 0⟩).gate), I (((portP c.links part p0 i).getD ⟨0, 0, 0, 0⟩).side)]⟩, ⟨30, [], D.v (.bool ((portP c.links part p0 i).isSome))⟩], mem := [Obj.var 25 (Config.d c), Obj.var 39 [I p0, I p1], Obj.var 117 [I 0, I 0, I 0, I 0]] }) (p := True) (by kernel_rfl) (fun _ _ h => h) (by kernel_rfl) (by kernel_rfl) (by kernel_rfl) (by kernel_rfl) (by kernel_rfl) (by kernel_rfl) (by kernel_rfl) (by kernel_rfl) (by trivial) ?_
      refine PO.one (n := 1) 11 (by kernel_rfl) ?_
      refine PO1.mem [1, 2, 4, 7, 9, 30] 3 (s' := { tab := [⟨1, [], I (i : Int)⟩, ⟨2, [], I part⟩, ⟨4, [], D.p 0 0 0 0⟩, ⟨7, [], D.p 1 0 0 0⟩, ⟨9, [], I 0⟩, ⟨30, [], D.v (.bool ((portP c.links part p0 i).isSome))⟩], mem := [Obj.var 25 (Config.d c), Obj.var 39 [I p0, I p1], Obj.var 117 [I (((portP c.links part p0 i).getD ⟨0, 0, 0, 0⟩).node), I (((portP c.links part p0 i).getD ⟨0, 0, 0, 0⟩).link), I (((portP c.links part p0 i).getD ⟨0, 0, 0, 0⟩).gate), I (((portP c.links part p0 i).getD ⟨0, 0, 0, 0⟩).side)]] }) (p := True) rfl (by kernel_rfl) (by kernel_rfl) (by kernel_rfl) (by kernel_rfl) (by kernel_rfl) (by kernel_rfl) (by kernel_rfl) (by kernel_rfl) (by kernel_rfl) (by trivial) ?_
      refine PO.takes [12] 1 [1, 2, 4, 7, 9, 11] 3 (n := 0) (s' := { tab := [⟨1, [], I (i : Int)⟩, ⟨2, [], I part⟩, ⟨4, [], D.p 0 0 0 0⟩, ⟨7, [], D.p 1 0 0 0⟩, ⟨9, [], I 0⟩, ⟨11, [], D.v (.bool ((portP c.links part p0 i).isSome))⟩], mem := [Obj.var 25 (Config.d c), Obj.var 39 [I p0, I p1], Obj.var 117 [I (((portP c.links part p0 i).getD ⟨0, 0, 0, 0⟩).node), I (((portP c.links part p0 i).getD ⟨0, 0, 0, 0⟩).link), I (((portP c.links part p0 i).getD ⟨0, 0, 0, 0⟩).gate), I (((portP c.links part p0 i).getD ⟨0, 0, 0, 0⟩).side)]] }) (p := True) (by kernel_rfl) (fun _ _ h => h) (by kernel_rfl) (by kernel_rfl) (by kernel_rfl) (by kernel_rfl) (by kernel_rfl) (by kernel_rfl) (by kernel_rfl) (by kernel_rfl) (by trivial) ?_
      refine PO.done (by kernel_rfl) ?_
      show PW _ _ _ _ _
      refine PW.seq ?_
      refine PW.open [] (by kernel_rfl) ?_
      refine PO.takes [0, 1, 2, 3, 4, 5, 6, 7, 8] 14 [1, 2, 4, 7, 9, 11, 33, 39] 3 (n := 5) (s' := { tab := [⟨1, [], I (i : Int)⟩, ⟨2, [], I part⟩, ⟨4, [], D.p 0 0 0 0⟩, ⟨7, [], D.p 1 0 0 0⟩, ⟨9, [], I 0⟩, ⟨11, [], D.v (.bool ((portP c.links part p0 i).isSome))⟩, ⟨33, [], I p0⟩, ⟨39, [], I ((c.parts.getD part.toNat default).nodes)⟩], mem := [Obj.var 25 (Config.d c), Obj.var 39 [I p0, I p1], Obj.var 117 [I (((portP c.links part p0 i).getD ⟨0, 0, 0, 0⟩).node), I (((portP c.links part p0 i).getD ⟨0, 0, 0, 0⟩).link), I (((portP c.links part p0 i).getD ⟨0, 0, 0, 0⟩).gate), I (((portP c.links part p0 i).getD ⟨0, 0, 0, 0⟩).side)]] }) (p := (0 ≤ (0 : Int) ∧ (0 : Int) < ((2 : Nat) : Int)) ∧ (0 ≤ part ∧ part < (c.parts.length : Int))) (by kernel_rfl) (fun _ _ h => h) (by kernel_rfl) (by kernel_rfl) (by kernel_rfl) (by kernel_rfl) (by kernel_rfl) (by kernel_rfl) (by kernel_rfl) (by kernel_rfl) (by ((repeat' (first | intro _ | refine And.intro ?_ ?_)) <;> first | omega | trivial | assumption)) ?_
      refine PO.one (n := 4) 9 (by kernel_rfl) ?_
      refine PO1.gcall (A := []) (f := 58) (ds := [I p0, I ((c.parts.getD part.toNat default).nodes)]) rfl (by kernel_rfl) (by kernel_rfl) (by kernel_rfl) (by kernel_rfl) (by kernel_rfl) rfl (D.v (.bool (isB p0 ((c.parts.getD part.toNat default).nodes)))) (fun _ => drumlineref5_is_pc p0 ((c.parts.getD part.toNat default).nodes)) ?_
      refine PO.takes [10, 11, 12, 13] 4 [1, 2, 4, 7, 9, 44] 3 (n := 0) (s' := { tab := [⟨1, [], I (i : Int)⟩, ⟨2, [], I part⟩, ⟨4, [], D.p 0 0 0 0⟩, ⟨7, [], D.p 1 0 0 0⟩, ⟨9, [], I 0⟩, ⟨44, [], D.v (.bool ((!(isB p0 ((c.parts.getD part.toNat default).nodes))) || ((portP c.links part p0 i).isSome)))⟩], mem := [Obj.var 25 (Config.d c), Obj.var 39 [I p0, I p1], Obj.var 117 [I (((portP c.links part p0 i).getD ⟨0, 0, 0, 0⟩).node), I (((portP c.links part p0 i).getD ⟨0, 0, 0, 0⟩).link), I (((portP c.links part p0 i).getD ⟨0, 0, 0, 0⟩).gate), I (((portP c.links part p0 i).getD ⟨0, 0, 0, 0⟩).side)]] }) (p := True) (by kernel_rfl) (fun _ _ h => h) (by kernel_rfl) (by kernel_rfl) (by kernel_rfl) (by kernel_rfl) (by kernel_rfl) (by kernel_rfl) (by kernel_rfl) (by kernel_rfl) (by trivial) ?_
      refine PO.done (by kernel_rfl) ?_
      show PW _ _ _ _ _
      refine PW.cond (z := ((!(isB p0 ((c.parts.getD part.toNat default).nodes))) || ((portP c.links part p0 i).isSome))) (by kernel_rfl) (fun hz8 => ?_) (fun hz8 => ?_)
      · skip
        try simp only [boolS, isB_true, isB_false] at hz8
        refine PW.seq ?_
        refine PW.region ?_
        refine PL.rowK 1 [8] 3 (s' := { tab := [⟨8, [], D.v (.bool true)⟩], mem := [Obj.var 25 (Config.d c), Obj.var 39 [I p0, I p1], Obj.var 117 [I (((portP c.links part p0 i).getD ⟨0, 0, 0, 0⟩).node), I (((portP c.links part p0 i).getD ⟨0, 0, 0, 0⟩).link), I (((portP c.links part p0 i).getD ⟨0, 0, 0, 0⟩).gate), I (((portP c.links part p0 i).getD ⟨0, 0, 0, 0⟩).side)]] }) (p := True) (by kernel_rfl) (by trivial) ?_
        refine PL.nil ?_
        show PW _ _ _ _ _
        refine PW.ret ?_
        refine retQ_ret (d := D.v (.bool true)) (ps := []) (by kernel_rfl) trivial ?_
        refine congrArg (fun b => D.v (.bool b)) ?_
        unfold endsB isB
        grind
      · skip
        try simp only [boolS, isB_true, isB_false] at hz8
        refine PW.skip ?_
        show PW _ _ _ _ _
        refine PW.region ?_
        refine PL.rowK 3 [1, 2, 4, 7, 9] 3 (s' := { tab := [⟨1, [], I (i : Int)⟩, ⟨2, [], I part⟩, ⟨4, [], D.p 0 0 0 0⟩, ⟨7, [], D.p 1 0 0 0⟩, ⟨9, [], I 1⟩], mem := [Obj.var 25 (Config.d c), Obj.var 39 [I p0, I p1], Obj.var 117 [I (((portP c.links part p0 i).getD ⟨0, 0, 0, 0⟩).node), I (((portP c.links part p0 i).getD ⟨0, 0, 0, 0⟩).link), I (((portP c.links part p0 i).getD ⟨0, 0, 0, 0⟩).gate), I (((portP c.links part p0 i).getD ⟨0, 0, 0, 0⟩).side)]] }) (p := True) (by kernel_rfl) (by trivial) ?_
        refine PL.nil ?_
        show PR _ _ _ _ _ _
        refine PR.succ ?_
        refine PW.seq ?_
        refine PW.seq ?_
        refine PW.region ?_
        refine PL.rowK 2 [1, 2, 4, 7, 9, 18] 3 (s' := { tab := [⟨1, [], I (i : Int)⟩, ⟨2, [], I part⟩, ⟨4, [], D.p 0 0 0 0⟩, ⟨7, [], D.p 1 0 0 0⟩, ⟨9, [], I 1⟩, ⟨18, [], D.v (.bool true)⟩], mem := [Obj.var 25 (Config.d c), Obj.var 39 [I p0, I p1], Obj.var 117 [I (((portP c.links part p0 i).getD ⟨0, 0, 0, 0⟩).node), I (((portP c.links part p0 i).getD ⟨0, 0, 0, 0⟩).link), I (((portP c.links part p0 i).getD ⟨0, 0, 0, 0⟩).gate), I (((portP c.links part p0 i).getD ⟨0, 0, 0, 0⟩).side)]] }) (p := True) (by kernel_rfl) (by trivial) ?_
        refine PL.nil ?_
        show PW _ _ _ _ _
        refine PW.cond (z := true) (by kernel_rfl) (fun hz9 => ?_) (fun hz9 => by cases hz9)
        refine PW.skip ?_
        show PW _ _ _ _ _
        refine PW.seq ?_
        refine PW.block ?_
        refine PW.seq ?_
        refine PW.open [3] (by kernel_rfl) ?_
        refine PO.takes [0, 1, 2, 3, 4, 5] 13 [1, 2, 4, 7, 9, 22, 23, 24, 27] 3 (n := 7) (s' := { tab := [⟨1, [], I (i : Int)⟩, ⟨2, [], I part⟩, ⟨4, [], D.p 0 0 0 0⟩, ⟨7, [], D.p 1 0 0 0⟩, ⟨9, [], I 1⟩, ⟨22, [], D.r (Config.d c)⟩, ⟨23, [], I (i : Int)⟩, ⟨24, [], I part⟩, ⟨27, [], I p1⟩], mem := [Obj.var 25 (Config.d c), Obj.var 39 [I p0, I p1], Obj.var 117 [I (((portP c.links part p0 i).getD ⟨0, 0, 0, 0⟩).node), I (((portP c.links part p0 i).getD ⟨0, 0, 0, 0⟩).link), I (((portP c.links part p0 i).getD ⟨0, 0, 0, 0⟩).gate), I (((portP c.links part p0 i).getD ⟨0, 0, 0, 0⟩).side)]] }) (p := (0 ≤ (1 : Int) ∧ (1 : Int) < ((2 : Nat) : Int))) (by kernel_rfl) (fun _ _ h => h) (by kernel_rfl) (by kernel_rfl) (by kernel_rfl) (by kernel_rfl) (by kernel_rfl) (by kernel_rfl) (by kernel_rfl) (by kernel_rfl) (by ((repeat' (first | intro _ | refine And.intro ?_ ?_)) <;> first | omega | trivial | assumption)) ?_
        refine PO.next (n := 6) [6, 10] (by kernel_rfl) (by simp) ?_
        intro i hi
        simp only [List.mem_cons, List.not_mem_nil, or_false] at hi
        rcases hi with rfl | rfl
        · skip
          refine PO1.gcall (A := []) (f := 83) (ds := [D.r (Config.d c), I (i : Int), I part, I p1]) rfl (by kernel_rfl) (by kernel_rfl) (by kernel_rfl) (by kernel_rfl) (by kernel_rfl) rfl (D.t [D.r [I (((portP c.links part p1 i).getD ⟨0, 0, 0, 0⟩).node), I (((portP c.links part p1 i).getD ⟨0, 0, 0, 0⟩).link), I (((portP c.links part p1 i).getD ⟨0, 0, 0, 0⟩).gate), I (((portP c.links part p1 i).getD ⟨0, 0, 0, 0⟩).side)], D.v (.bool ((portP c.links part p1 i).isSome))]) (fun _ => drumlineref5_port_pc c i part p1 (by omega) (by omega)) ?_
          refine PO.takes [7, 8, 9] 6 [1, 2, 4, 7, 9, 29, 30] 3 (n := 3) (s' := { tab := [⟨1, [], I (i : Int)⟩, ⟨2, [], I part⟩, ⟨4, [], D.p 0 0 0 0⟩, ⟨7, [], D.p 1 0 0 0⟩, ⟨9, [], I 1⟩, ⟨29, [], D.r [I (((portP c.links part p1 i).getD ⟨0, 0, 0, 0⟩).node), I (((portP c.links part p1 i).getD ⟨0, 0, 0, 0⟩).link), I (((portP c.links part p1 i).getD ⟨0, 0, 0, 0⟩).gate), I (((portP c.links part p1 i).getD ⟨0, 0, 0, 0⟩).side)]⟩, ⟨30, [], D.v (.bool ((portP c.links part p1 i).isSome))⟩], mem := [Obj.var 25 (Config.d c), Obj.var 39 [I p0, I p1], Obj.var 117 [I (((portP c.links part p0 i).getD ⟨0, 0, 0, 0⟩).node), I (((portP c.links part p0 i).getD ⟨0, 0, 0, 0⟩).link), I (((portP c.links part p0 i).getD ⟨0, 0, 0, 0⟩).gate), I (((portP c.links part p0 i).getD ⟨0, 0, 0, 0⟩).side)]] }) (p := True) (by kernel_rfl) (fun _ _ h => h) (by kernel_rfl) (by kernel_rfl) (by kernel_rfl) (by kernel_rfl) (by kernel_rfl) (by kernel_rfl) (by kernel_rfl) (by kernel_rfl) (by trivial) ?_
          refine PO.one (n := 2) 10 (by kernel_rfl) ?_
          refine PO1.mem [1, 2, 4, 7, 9, 10, 29, 30] 4 (s' := { tab := [⟨1, [], I (i : Int)⟩, ⟨2, [], I part⟩, ⟨4, [], D.p 0 0 0 0⟩, ⟨7, [], D.p 1 0 0 0⟩, ⟨9, [], I 1⟩, ⟨10, [], D.p 3 0 0 0⟩, ⟨29, [], D.r [I (((portP c.links part p1 i).getD ⟨0, 0, 0, 0⟩).node), I (((portP c.links part p1 i).getD ⟨0, 0, 0, 0⟩).link), I (((portP c.links part p1 i).getD ⟨0, 0, 0, 0⟩).gate), I (((portP c.links part p1 i).getD ⟨0, 0, 0, 0⟩).side)]⟩, ⟨30, [], D.v (.bool ((portP c.links part p1 i).isSome))⟩], mem := [Obj.var 25 (Config.d c), Obj.var 39 [I p0, I p1], Obj.var 117 [I (((portP c.links part p0 i).getD ⟨0, 0, 0, 0⟩).node), I (((portP c.links part p0 i).getD ⟨0, 0, 0, 0⟩).link), I (((portP c.links part p0 i).getD ⟨0, 0, 0, 0⟩).gate), I (((portP c.links part p0 i).getD ⟨0, 0, 0, 0⟩).side)], Obj.var 117 [I 0, I 0, I 0, I 0]] }) (p := True) rfl (by kernel_rfl) (by kernel_rfl) (by kernel_rfl) (by kernel_rfl) (by kernel_rfl) (by kernel_rfl) (by kernel_rfl) (by kernel_rfl) (by kernel_rfl) (by trivial) ?_
          refine PO.one (n := 1) 11 (by kernel_rfl) ?_
          refine PO1.mem [1, 2, 4, 7, 9, 30] 4 (s' := { tab := [⟨1, [], I (i : Int)⟩, ⟨2, [], I part⟩, ⟨4, [], D.p 0 0 0 0⟩, ⟨7, [], D.p 1 0 0 0⟩, ⟨9, [], I 1⟩, ⟨30, [], D.v (.bool ((portP c.links part p1 i).isSome))⟩], mem := [Obj.var 25 (Config.d c), Obj.var 39 [I p0, I p1], Obj.var 117 [I (((portP c.links part p0 i).getD ⟨0, 0, 0, 0⟩).node), I (((portP c.links part p0 i).getD ⟨0, 0, 0, 0⟩).link), I (((portP c.links part p0 i).getD ⟨0, 0, 0, 0⟩).gate), I (((portP c.links part p0 i).getD ⟨0, 0, 0, 0⟩).side)], Obj.var 117 [I (((portP c.links part p1 i).getD ⟨0, 0, 0, 0⟩).node), I (((portP c.links part p1 i).getD ⟨0, 0, 0, 0⟩).link), I (((portP c.links part p1 i).getD ⟨0, 0, 0, 0⟩).gate), I (((portP c.links part p1 i).getD ⟨0, 0, 0, 0⟩).side)]] }) (p := True) rfl (by kernel_rfl) (by kernel_rfl) (by kernel_rfl) (by kernel_rfl) (by kernel_rfl) (by kernel_rfl) (by kernel_rfl) (by kernel_rfl) (by kernel_rfl) (by trivial) ?_
          refine PO.takes [12] 1 [1, 2, 4, 7, 9, 11] 4 (n := 0) (s' := { tab := [⟨1, [], I (i : Int)⟩, ⟨2, [], I part⟩, ⟨4, [], D.p 0 0 0 0⟩, ⟨7, [], D.p 1 0 0 0⟩, ⟨9, [], I 1⟩, ⟨11, [], D.v (.bool ((portP c.links part p1 i).isSome))⟩], mem := [Obj.var 25 (Config.d c), Obj.var 39 [I p0, I p1], Obj.var 117 [I (((portP c.links part p0 i).getD ⟨0, 0, 0, 0⟩).node), I (((portP c.links part p0 i).getD ⟨0, 0, 0, 0⟩).link), I (((portP c.links part p0 i).getD ⟨0, 0, 0, 0⟩).gate), I (((portP c.links part p0 i).getD ⟨0, 0, 0, 0⟩).side)], Obj.var 117 [I (((portP c.links part p1 i).getD ⟨0, 0, 0, 0⟩).node), I (((portP c.links part p1 i).getD ⟨0, 0, 0, 0⟩).link), I (((portP c.links part p1 i).getD ⟨0, 0, 0, 0⟩).gate), I (((portP c.links part p1 i).getD ⟨0, 0, 0, 0⟩).side)]] }) (p := True) (by kernel_rfl) (fun _ _ h => h) (by kernel_rfl) (by kernel_rfl) (by kernel_rfl) (by kernel_rfl) (by kernel_rfl) (by kernel_rfl) (by kernel_rfl) (by kernel_rfl) (by trivial) ?_
          refine PO.done (by kernel_rfl) ?_
          show PW _ _ _ _ _
          refine PW.seq ?_
          refine PW.open [] (by kernel_rfl) ?_
          refine PO.takes [0, 1, 2, 3, 4, 5, 6, 7, 8] 14 [1, 2, 4, 7, 9, 11, 33, 39] 4 (n := 5) (s' := { tab := [⟨1, [], I (i : Int)⟩, ⟨2, [], I part⟩, ⟨4, [], D.p 0 0 0 0⟩, ⟨7, [], D.p 1 0 0 0⟩, ⟨9, [], I 1⟩, ⟨11, [], D.v (.bool ((portP c.links part p1 i).isSome))⟩, ⟨33, [], I p1⟩, ⟨39, [], I ((c.parts.getD part.toNat default).nodes)⟩], mem := [Obj.var 25 (Config.d c), Obj.var 39 [I p0, I p1], Obj.var 117 [I (((portP c.links part p0 i).getD ⟨0, 0, 0, 0⟩).node), I (((portP c.links part p0 i).getD ⟨0, 0, 0, 0⟩).link), I (((portP c.links part p0 i).getD ⟨0, 0, 0, 0⟩).gate), I (((portP c.links part p0 i).getD ⟨0, 0, 0, 0⟩).side)], Obj.var 117 [I (((portP c.links part p1 i).getD ⟨0, 0, 0, 0⟩).node), I (((portP c.links part p1 i).getD ⟨0, 0, 0, 0⟩).link), I (((portP c.links part p1 i).getD ⟨0, 0, 0, 0⟩).gate), I (((portP c.links part p1 i).getD ⟨0, 0, 0, 0⟩).side)]] }) (p := (0 ≤ (1 : Int) ∧ (1 : Int) < ((2 : Nat) : Int)) ∧ (0 ≤ part ∧ part < (c.parts.length : Int))) (by kernel_rfl) (fun _ _ h => h) (by kernel_rfl) (by kernel_rfl) (by kernel_rfl) (by kernel_rfl) (by kernel_rfl) (by kernel_rfl) (by kernel_rfl) (by kernel_rfl) (by ((repeat' (first | intro _ | refine And.intro ?_ ?_)) <;> first | omega | trivial | assumption)) ?_
          refine PO.one (n := 4) 9 (by kernel_rfl) ?_
          refine PO1.gcall (A := []) (f := 58) (ds := [I p1, I ((c.parts.getD part.toNat default).nodes)]) rfl (by kernel_rfl) (by kernel_rfl) (by kernel_rfl) (by kernel_rfl) (by kernel_rfl) rfl (D.v (.bool (isB p1 ((c.parts.getD part.toNat default).nodes)))) (fun _ => drumlineref5_is_pc p1 ((c.parts.getD part.toNat default).nodes)) ?_
          refine PO.takes [10, 11, 12, 13] 4 [1, 2, 4, 7, 9, 44] 4 (n := 0) (s' := { tab := [⟨1, [], I (i : Int)⟩, ⟨2, [], I part⟩, ⟨4, [], D.p 0 0 0 0⟩, ⟨7, [], D.p 1 0 0 0⟩, ⟨9, [], I 1⟩, ⟨44, [], D.v (.bool ((!(isB p1 ((c.parts.getD part.toNat default).nodes))) || ((portP c.links part p1 i).isSome)))⟩], mem := [Obj.var 25 (Config.d c), Obj.var 39 [I p0, I p1], Obj.var 117 [I (((portP c.links part p0 i).getD ⟨0, 0, 0, 0⟩).node), I (((portP c.links part p0 i).getD ⟨0, 0, 0, 0⟩).link), I (((portP c.links part p0 i).getD ⟨0, 0, 0, 0⟩).gate), I (((portP c.links part p0 i).getD ⟨0, 0, 0, 0⟩).side)], Obj.var 117 [I (((portP c.links part p1 i).getD ⟨0, 0, 0, 0⟩).node), I (((portP c.links part p1 i).getD ⟨0, 0, 0, 0⟩).link), I (((portP c.links part p1 i).getD ⟨0, 0, 0, 0⟩).gate), I (((portP c.links part p1 i).getD ⟨0, 0, 0, 0⟩).side)]] }) (p := True) (by kernel_rfl) (fun _ _ h => h) (by kernel_rfl) (by kernel_rfl) (by kernel_rfl) (by kernel_rfl) (by kernel_rfl) (by kernel_rfl) (by kernel_rfl) (by kernel_rfl) (by trivial) ?_
          refine PO.done (by kernel_rfl) ?_
          show PW _ _ _ _ _
          refine PW.cond (z := ((!(isB p1 ((c.parts.getD part.toNat default).nodes))) || ((portP c.links part p1 i).isSome))) (by kernel_rfl) (fun hz10 => ?_) (fun hz10 => ?_)
          · skip
            try simp only [boolS, isB_true, isB_false] at hz10
            refine PW.seq ?_
            refine PW.region ?_
            refine PL.rowK 1 [8] 4 (s' := { tab := [⟨8, [], D.v (.bool true)⟩], mem := [Obj.var 25 (Config.d c), Obj.var 39 [I p0, I p1], Obj.var 117 [I (((portP c.links part p0 i).getD ⟨0, 0, 0, 0⟩).node), I (((portP c.links part p0 i).getD ⟨0, 0, 0, 0⟩).link), I (((portP c.links part p0 i).getD ⟨0, 0, 0, 0⟩).gate), I (((portP c.links part p0 i).getD ⟨0, 0, 0, 0⟩).side)], Obj.var 117 [I (((portP c.links part p1 i).getD ⟨0, 0, 0, 0⟩).node), I (((portP c.links part p1 i).getD ⟨0, 0, 0, 0⟩).link), I (((portP c.links part p1 i).getD ⟨0, 0, 0, 0⟩).gate), I (((portP c.links part p1 i).getD ⟨0, 0, 0, 0⟩).side)]] }) (p := True) (by kernel_rfl) (by trivial) ?_
            refine PL.nil ?_
            show PW _ _ _ _ _
            refine PW.ret ?_
            refine retQ_ret (d := D.v (.bool true)) (ps := []) (by kernel_rfl) trivial ?_
            refine congrArg (fun b => D.v (.bool b)) ?_
            unfold endsB isB
            grind
          · skip
            try simp only [boolS, isB_true, isB_false] at hz10
            refine PW.skip ?_
            show PW _ _ _ _ _
            refine PW.region ?_
            refine PL.rowK 3 [1, 2, 4, 7, 9] 4 (s' := { tab := [⟨1, [], I (i : Int)⟩, ⟨2, [], I part⟩, ⟨4, [], D.p 0 0 0 0⟩, ⟨7, [], D.p 1 0 0 0⟩, ⟨9, [], I 2⟩], mem := [Obj.var 25 (Config.d c), Obj.var 39 [I p0, I p1], Obj.var 117 [I (((portP c.links part p0 i).getD ⟨0, 0, 0, 0⟩).node), I (((portP c.links part p0 i).getD ⟨0, 0, 0, 0⟩).link), I (((portP c.links part p0 i).getD ⟨0, 0, 0, 0⟩).gate), I (((portP c.links part p0 i).getD ⟨0, 0, 0, 0⟩).side)], Obj.var 117 [I (((portP c.links part p1 i).getD ⟨0, 0, 0, 0⟩).node), I (((portP c.links part p1 i).getD ⟨0, 0, 0, 0⟩).link), I (((portP c.links part p1 i).getD ⟨0, 0, 0, 0⟩).gate), I (((portP c.links part p1 i).getD ⟨0, 0, 0, 0⟩).side)]] }) (p := True) (by kernel_rfl) (by trivial) ?_
            refine PL.nil ?_
            show PR _ _ _ _ _ _
            refine PR.succ ?_
            refine PW.seq ?_
            refine PW.seq ?_
            refine PW.region ?_
            refine PL.rowK 2 [1, 2, 4, 7, 9, 18] 4 (s' := { tab := [⟨1, [], I (i : Int)⟩, ⟨2, [], I part⟩, ⟨4, [], D.p 0 0 0 0⟩, ⟨7, [], D.p 1 0 0 0⟩, ⟨9, [], I 2⟩, ⟨18, [], D.v (.bool false)⟩], mem := [Obj.var 25 (Config.d c), Obj.var 39 [I p0, I p1], Obj.var 117 [I (((portP c.links part p0 i).getD ⟨0, 0, 0, 0⟩).node), I (((portP c.links part p0 i).getD ⟨0, 0, 0, 0⟩).link), I (((portP c.links part p0 i).getD ⟨0, 0, 0, 0⟩).gate), I (((portP c.links part p0 i).getD ⟨0, 0, 0, 0⟩).side)], Obj.var 117 [I (((portP c.links part p1 i).getD ⟨0, 0, 0, 0⟩).node), I (((portP c.links part p1 i).getD ⟨0, 0, 0, 0⟩).link), I (((portP c.links part p1 i).getD ⟨0, 0, 0, 0⟩).gate), I (((portP c.links part p1 i).getD ⟨0, 0, 0, 0⟩).side)]] }) (p := True) (by kernel_rfl) (by trivial) ?_
            refine PL.nil ?_
            show PW _ _ _ _ _
            refine PW.cond (z := false) (by kernel_rfl) (fun hz11 => by cases hz11) (fun hz11 => ?_)
            refine PW.exit ?_
            show PW _ _ _ _ _
            refine PW.seq ?_
            refine PW.region ?_
            refine PL.rowK 1 [8] 4 (s' := { tab := [⟨8, [], D.v (.bool false)⟩], mem := [Obj.var 25 (Config.d c), Obj.var 39 [I p0, I p1], Obj.var 117 [I (((portP c.links part p0 i).getD ⟨0, 0, 0, 0⟩).node), I (((portP c.links part p0 i).getD ⟨0, 0, 0, 0⟩).link), I (((portP c.links part p0 i).getD ⟨0, 0, 0, 0⟩).gate), I (((portP c.links part p0 i).getD ⟨0, 0, 0, 0⟩).side)], Obj.var 117 [I (((portP c.links part p1 i).getD ⟨0, 0, 0, 0⟩).node), I (((portP c.links part p1 i).getD ⟨0, 0, 0, 0⟩).link), I (((portP c.links part p1 i).getD ⟨0, 0, 0, 0⟩).gate), I (((portP c.links part p1 i).getD ⟨0, 0, 0, 0⟩).side)]] }) (p := True) (by kernel_rfl) (by trivial) ?_
            refine PL.nil ?_
            show PW _ _ _ _ _
            refine PW.ret ?_
            refine retQ_ret (d := D.v (.bool false)) (ps := []) (by kernel_rfl) trivial ?_
            refine congrArg (fun b => D.v (.bool b)) ?_
            unfold endsB isB
            grind
        · skip
          refine PO1.mem [1, 2, 4, 7, 9, 10, 22, 23, 24, 27] 4 (s' := { tab := [⟨1, [], I (i : Int)⟩, ⟨2, [], I part⟩, ⟨4, [], D.p 0 0 0 0⟩, ⟨7, [], D.p 1 0 0 0⟩, ⟨9, [], I 1⟩, ⟨10, [], D.p 3 0 0 0⟩, ⟨22, [], D.r (Config.d c)⟩, ⟨23, [], I (i : Int)⟩, ⟨24, [], I part⟩, ⟨27, [], I p1⟩], mem := [Obj.var 25 (Config.d c), Obj.var 39 [I p0, I p1], Obj.var 117 [I (((portP c.links part p0 i).getD ⟨0, 0, 0, 0⟩).node), I (((portP c.links part p0 i).getD ⟨0, 0, 0, 0⟩).link), I (((portP c.links part p0 i).getD ⟨0, 0, 0, 0⟩).gate), I (((portP c.links part p0 i).getD ⟨0, 0, 0, 0⟩).side)], Obj.var 117 [I 0, I 0, I 0, I 0]] }) (p := True) rfl (by kernel_rfl) (by kernel_rfl) (by kernel_rfl) (by kernel_rfl) (by kernel_rfl) (by kernel_rfl) (by kernel_rfl) (by kernel_rfl) (by kernel_rfl) (by trivial) ?_
          refine PO.one (n := 5) 6 (by kernel_rfl) ?_
          refine PO1.gcall (A := []) (f := 83) (ds := [D.r (Config.d c), I (i : Int), I part, I p1]) rfl (by kernel_rfl) (by kernel_rfl) (by kernel_rfl) (by kernel_rfl) (by kernel_rfl) rfl (D.t [D.r [I (((portP c.links part p1 i).getD ⟨0, 0, 0, 0⟩).node), I (((portP c.links part p1 i).getD ⟨0, 0, 0, 0⟩).link), I (((portP c.links part p1 i).getD ⟨0, 0, 0, 0⟩).gate), I (((portP c.links part p1 i).getD ⟨0, 0, 0, 0⟩).side)], D.v (.bool ((portP c.links part p1 i).isSome))]) (fun _ => drumlineref5_port_pc c i part p1 (by omega) (by omega)) ?_
          refine PO.takes [7, 8, 9] 5 [1, 2, 4, 7, 9, 10, 29, 30] 4 (n := 2) (s' := { tab := [⟨1, [], I (i : Int)⟩, ⟨2, [], I part⟩, ⟨4, [], D.p 0 0 0 0⟩, ⟨7, [], D.p 1 0 0 0⟩, ⟨9, [], I 1⟩, ⟨10, [], D.p 3 0 0 0⟩, ⟨29, [], D.r [I (((portP c.links part p1 i).getD ⟨0, 0, 0, 0⟩).node), I (((portP c.links part p1 i).getD ⟨0, 0, 0, 0⟩).link), I (((portP c.links part p1 i).getD ⟨0, 0, 0, 0⟩).gate), I (((portP c.links part p1 i).getD ⟨0, 0, 0, 0⟩).side)]⟩, ⟨30, [], D.v (.bool ((portP c.links part p1 i).isSome))⟩], mem := [Obj.var 25 (Config.d c), Obj.var 39 [I p0, I p1], Obj.var 117 [I (((portP c.links part p0 i).getD ⟨0, 0, 0, 0⟩).node), I (((portP c.links part p0 i).getD ⟨0, 0, 0, 0⟩).link), I (((portP c.links part p0 i).getD ⟨0, 0, 0, 0⟩).gate), I (((portP c.links part p0 i).getD ⟨0, 0, 0, 0⟩).side)], Obj.var 117 [I 0, I 0, I 0, I 0]] }) (p := True) (by kernel_rfl) (fun _ _ h => h) (by kernel_rfl) (by kernel_rfl) (by kernel_rfl) (by kernel_rfl) (by kernel_rfl) (by kernel_rfl) (by kernel_rfl) (by kernel_rfl) (by trivial) ?_
          refine PO.one (n := 1) 11 (by kernel_rfl) ?_
          refine PO1.mem [1, 2, 4, 7, 9, 30] 4 (s' := { tab := [⟨1, [], I (i : Int)⟩, ⟨2, [], I part⟩, ⟨4, [], D.p 0 0 0 0⟩, ⟨7, [], D.p 1 0 0 0⟩, ⟨9, [], I 1⟩, ⟨30, [], D.v (.bool ((portP c.links part p1 i).isSome))⟩], mem := [Obj.var 25 (Config.d c), Obj.var 39 [I p0, I p1], Obj.var 117 [I (((portP c.links part p0 i).getD ⟨0, 0, 0, 0⟩).node), I (((portP c.links part p0 i).getD ⟨0, 0, 0, 0⟩).link), I (((portP c.links part p0 i).getD ⟨0, 0, 0, 0⟩).gate), I (((portP c.links part p0 i).getD ⟨0, 0, 0, 0⟩).side)], Obj.var 117 [I (((portP c.links part p1 i).getD ⟨0, 0, 0, 0⟩).node), I (((portP c.links part p1 i).getD ⟨0, 0, 0, 0⟩).link), I (((portP c.links part p1 i).getD ⟨0, 0, 0, 0⟩).gate), I (((portP c.links part p1 i).getD ⟨0, 0, 0, 0⟩).side)]] }) (p := True) rfl (by kernel_rfl) (by kernel_rfl) (by kernel_rfl) (by kernel_rfl) (by kernel_rfl) (by kernel_rfl) (by kernel_rfl) (by kernel_rfl) (by kernel_rfl) (by trivial) ?_
          refine PO.takes [12] 1 [1, 2, 4, 7, 9, 11] 4 (n := 0) (s' := { tab := [⟨1, [], I (i : Int)⟩, ⟨2, [], I part⟩, ⟨4, [], D.p 0 0 0 0⟩, ⟨7, [], D.p 1 0 0 0⟩, ⟨9, [], I 1⟩, ⟨11, [], D.v (.bool ((portP c.links part p1 i).isSome))⟩], mem := [Obj.var 25 (Config.d c), Obj.var 39 [I p0, I p1], Obj.var 117 [I (((portP c.links part p0 i).getD ⟨0, 0, 0, 0⟩).node), I (((portP c.links part p0 i).getD ⟨0, 0, 0, 0⟩).link), I (((portP c.links part p0 i).getD ⟨0, 0, 0, 0⟩).gate), I (((portP c.links part p0 i).getD ⟨0, 0, 0, 0⟩).side)], Obj.var 117 [I (((portP c.links part p1 i).getD ⟨0, 0, 0, 0⟩).node), I (((portP c.links part p1 i).getD ⟨0, 0, 0, 0⟩).link), I (((portP c.links part p1 i).getD ⟨0, 0, 0, 0⟩).gate), I (((portP c.links part p1 i).getD ⟨0, 0, 0, 0⟩).side)]] }) (p := True) (by kernel_rfl) (fun _ _ h => h) (by kernel_rfl) (by kernel_rfl) (by kernel_rfl) (by kernel_rfl) (by kernel_rfl) (by kernel_rfl) (by kernel_rfl) (by kernel_rfl) (by trivial) ?_
          refine PO.done (by kernel_rfl) ?_
          show PW _ _ _ _ _
          refine PW.seq ?_
          refine PW.open [] (by kernel_rfl) ?_
          refine PO.takes [0, 1, 2, 3, 4, 5, 6, 7, 8] 14 [1, 2, 4, 7, 9, 11, 33, 39] 4 (n := 5) (s' := { tab := [⟨1, [], I (i : Int)⟩, ⟨2, [], I part⟩, ⟨4, [], D.p 0 0 0 0⟩, ⟨7, [], D.p 1 0 0 0⟩, ⟨9, [], I 1⟩, ⟨11, [], D.v (.bool ((portP c.links part p1 i).isSome))⟩, ⟨33, [], I p1⟩, ⟨39, [], I ((c.parts.getD part.toNat default).nodes)⟩], mem := [Obj.var 25 (Config.d c), Obj.var 39 [I p0, I p1], Obj.var 117 [I (((portP c.links part p0 i).getD ⟨0, 0, 0, 0⟩).node), I (((portP c.links part p0 i).getD ⟨0, 0, 0, 0⟩).link), I (((portP c.links part p0 i).getD ⟨0, 0, 0, 0⟩).gate), I (((portP c.links part p0 i).getD ⟨0, 0, 0, 0⟩).side)], Obj.var 117 [I (((portP c.links part p1 i).getD ⟨0, 0, 0, 0⟩).node), I (((portP c.links part p1 i).getD ⟨0, 0, 0, 0⟩).link), I (((portP c.links part p1 i).getD ⟨0, 0, 0, 0⟩).gate), I (((portP c.links part p1 i).getD ⟨0, 0, 0, 0⟩).side)]] }) (p := (0 ≤ (1 : Int) ∧ (1 : Int) < ((2 : Nat) : Int)) ∧ (0 ≤ part ∧ part < (c.parts.length : Int))) (by kernel_rfl) (fun _ _ h => h) (by kernel_rfl) (by kernel_rfl) (by kernel_rfl) (by kernel_rfl) (by kernel_rfl) (by kernel_rfl) (by kernel_rfl) (by kernel_rfl) (by ((repeat' (first | intro _ | refine And.intro ?_ ?_)) <;> first | omega | trivial | assumption)) ?_
          refine PO.one (n := 4) 9 (by kernel_rfl) ?_
          refine PO1.gcall (A := []) (f := 58) (ds := [I p1, I ((c.parts.getD part.toNat default).nodes)]) rfl (by kernel_rfl) (by kernel_rfl) (by kernel_rfl) (by kernel_rfl) (by kernel_rfl) rfl (D.v (.bool (isB p1 ((c.parts.getD part.toNat default).nodes)))) (fun _ => drumlineref5_is_pc p1 ((c.parts.getD part.toNat default).nodes)) ?_
          refine PO.takes [10, 11, 12, 13] 4 [1, 2, 4, 7, 9, 44] 4 (n := 0) (s' := { tab := [⟨1, [], I (i : Int)⟩, ⟨2, [], I part⟩, ⟨4, [], D.p 0 0 0 0⟩, ⟨7, [], D.p 1 0 0 0⟩, ⟨9, [], I 1⟩, ⟨44, [], D.v (.bool ((!(isB p1 ((c.parts.getD part.toNat default).nodes))) || ((portP c.links part p1 i).isSome)))⟩], mem := [Obj.var 25 (Config.d c), Obj.var 39 [I p0, I p1], Obj.var 117 [I (((portP c.links part p0 i).getD ⟨0, 0, 0, 0⟩).node), I (((portP c.links part p0 i).getD ⟨0, 0, 0, 0⟩).link), I (((portP c.links part p0 i).getD ⟨0, 0, 0, 0⟩).gate), I (((portP c.links part p0 i).getD ⟨0, 0, 0, 0⟩).side)], Obj.var 117 [I (((portP c.links part p1 i).getD ⟨0, 0, 0, 0⟩).node), I (((portP c.links part p1 i).getD ⟨0, 0, 0, 0⟩).link), I (((portP c.links part p1 i).getD ⟨0, 0, 0, 0⟩).gate), I (((portP c.links part p1 i).getD ⟨0, 0, 0, 0⟩).side)]] }) (p := True) (by kernel_rfl) (fun _ _ h => h) (by kernel_rfl) (by kernel_rfl) (by kernel_rfl) (by kernel_rfl) (by kernel_rfl) (by kernel_rfl) (by kernel_rfl) (by kernel_rfl) (by trivial) ?_
          refine PO.done (by kernel_rfl) ?_
          show PW _ _ _ _ _
          refine PW.cond (z := ((!(isB p1 ((c.parts.getD part.toNat default).nodes))) || ((portP c.links part p1 i).isSome))) (by kernel_rfl) (fun hz12 => ?_) (fun hz12 => ?_)
          · skip
            try simp only [boolS, isB_true, isB_false] at hz12
            refine PW.seq ?_
            refine PW.region ?_
            refine PL.rowK 1 [8] 4 (s' := { tab := [⟨8, [], D.v (.bool true)⟩], mem := [Obj.var 25 (Config.d c), Obj.var 39 [I p0, I p1], Obj.var 117 [I (((portP c.links part p0 i).getD ⟨0, 0, 0, 0⟩).node), I (((portP c.links part p0 i).getD ⟨0, 0, 0, 0⟩).link), I (((portP c.links part p0 i).getD ⟨0, 0, 0, 0⟩).gate), I (((portP c.links part p0 i).getD ⟨0, 0, 0, 0⟩).side)], Obj.var 117 [I (((portP c.links part p1 i).getD ⟨0, 0, 0, 0⟩).node), I (((portP c.links part p1 i).getD ⟨0, 0, 0, 0⟩).link), I (((portP c.links part p1 i).getD ⟨0, 0, 0, 0⟩).gate), I (((portP c.links part p1 i).getD ⟨0, 0, 0, 0⟩).side)]] }) (p := True) (by kernel_rfl) (by trivial) ?_
            refine PL.nil ?_
            show PW _ _ _ _ _
            refine PW.ret ?_
            refine retQ_ret (d := D.v (.bool true)) (ps := []) (by kernel_rfl) trivial ?_
            refine congrArg (fun b => D.v (.bool b)) ?_
            unfold endsB isB
            grind
          · skip
            try simp only [boolS, isB_true, isB_false] at hz12
            refine PW.skip ?_
            show PW _ _ _ _ _
            refine PW.region ?_
            refine PL.rowK 3 [1, 2, 4, 7, 9] 4 (s' := { tab := [⟨1, [], I (i : Int)⟩, ⟨2, [], I part⟩, ⟨4, [], D.p 0 0 0 0⟩, ⟨7, [], D.p 1 0 0 0⟩, ⟨9, [], I 2⟩], mem := [Obj.var 25 (Config.d c), Obj.var 39 [I p0, I p1], Obj.var 117 [I (((portP c.links part p0 i).getD ⟨0, 0, 0, 0⟩).node), I (((portP c.links part p0 i).getD ⟨0, 0, 0, 0⟩).link), I (((portP c.links part p0 i).getD ⟨0, 0, 0, 0⟩).gate), I (((portP c.links part p0 i).getD ⟨0, 0, 0, 0⟩).side)], Obj.var 117 [I (((portP c.links part p1 i).getD ⟨0, 0, 0, 0⟩).node), I (((portP c.links part p1 i).getD ⟨0, 0, 0, 0⟩).link), I (((portP c.links part p1 i).getD ⟨0, 0, 0, 0⟩).gate), I (((portP c.links part p1 i).getD ⟨0, 0, 0, 0⟩).side)]] }) (p := True) (by kernel_rfl) (by trivial) ?_
            refine PL.nil ?_
            show PR _ _ _ _ _ _
            refine PR.succ ?_
            refine PW.seq ?_
            refine PW.seq ?_
            refine PW.region ?_
            refine PL.rowK 2 [1, 2, 4, 7, 9, 18] 4 (s' := { tab := [⟨1, [], I (i : Int)⟩, ⟨2, [], I part⟩, ⟨4, [], D.p 0 0 0 0⟩, ⟨7, [], D.p 1 0 0 0⟩, ⟨9, [], I 2⟩, ⟨18, [], D.v (.bool false)⟩], mem := [Obj.var 25 (Config.d c), Obj.var 39 [I p0, I p1], Obj.var 117 [I (((portP c.links part p0 i).getD ⟨0, 0, 0, 0⟩).node), I (((portP c.links part p0 i).getD ⟨0, 0, 0, 0⟩).link), I (((portP c.links part p0 i).getD ⟨0, 0, 0, 0⟩).gate), I (((portP c.links part p0 i).getD ⟨0, 0, 0, 0⟩).side)], Obj.var 117 [I (((portP c.links part p1 i).getD ⟨0, 0, 0, 0⟩).node), I (((portP c.links part p1 i).getD ⟨0, 0, 0, 0⟩).link), I (((portP c.links part p1 i).getD ⟨0, 0, 0, 0⟩).gate), I (((portP c.links part p1 i).getD ⟨0, 0, 0, 0⟩).side)]] }) (p := True) (by kernel_rfl) (by trivial) ?_
            refine PL.nil ?_
            show PW _ _ _ _ _
            refine PW.cond (z := false) (by kernel_rfl) (fun hz13 => by cases hz13) (fun hz13 => ?_)
            refine PW.exit ?_
            show PW _ _ _ _ _
            refine PW.seq ?_
            refine PW.region ?_
            refine PL.rowK 1 [8] 4 (s' := { tab := [⟨8, [], D.v (.bool false)⟩], mem := [Obj.var 25 (Config.d c), Obj.var 39 [I p0, I p1], Obj.var 117 [I (((portP c.links part p0 i).getD ⟨0, 0, 0, 0⟩).node), I (((portP c.links part p0 i).getD ⟨0, 0, 0, 0⟩).link), I (((portP c.links part p0 i).getD ⟨0, 0, 0, 0⟩).gate), I (((portP c.links part p0 i).getD ⟨0, 0, 0, 0⟩).side)], Obj.var 117 [I (((portP c.links part p1 i).getD ⟨0, 0, 0, 0⟩).node), I (((portP c.links part p1 i).getD ⟨0, 0, 0, 0⟩).link), I (((portP c.links part p1 i).getD ⟨0, 0, 0, 0⟩).gate), I (((portP c.links part p1 i).getD ⟨0, 0, 0, 0⟩).side)]] }) (p := True) (by kernel_rfl) (by trivial) ?_
            refine PL.nil ?_
            show PW _ _ _ _ _
            refine PW.ret ?_
            refine retQ_ret (d := D.v (.bool false)) (ps := []) (by kernel_rfl) trivial ?_
            refine congrArg (fun b => D.v (.bool b)) ?_
            unfold endsB isB
            grind
end Go.Proofs.YtleflkgdbagmnaaGreatDoor.Pl
