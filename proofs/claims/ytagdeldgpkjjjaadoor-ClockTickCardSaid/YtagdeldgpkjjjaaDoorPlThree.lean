/- The document's own ends of chapter 5. -/
import Derived.Test.YtagdeldgpkjjjaaDoorPlOne
namespace Go.Proofs.YtagdeldgpkjjjaaDoor.Pl
open Go.RowKit Go.Proofs.YtagdeldgpkjjjaaDoor.Sm Go.Proofs.YtagdeldgpkjjjaaDoor.Dp
set_option maxHeartbeats 4000000
set_option maxRecDepth 100000
set_option linter.unusedVariables false
set_option linter.unusedSimpArgs false
/-- are the ports at one end wrong? -/
def endsB (c : Config) (i : Nat) (part p0 p1 : Int) : Bool :=
  (p0 == p1) || (!isB p0 (c.parts.getD part.toNat default).nodes || (portP c.links part p0 i).isSome) || (!isB p1 (c.parts.getD part.toNat default).nodes || (portP c.links part p1 i).isSome)
theorem drumlineref5_ends_pc (c : Config) (i : Nat) (part p0 p1 : Int) (hi : i ≤ c.links.length) (hs : c.links.length < 1000000) (hq : 0 ≤ part ∧ part < (c.parts.length : Int)) : PC Tryd.prog [] 48 [D.r (Config.d c), I (i : Int), I part, D.r [I p0, I p1]] (· = D.v (.bool (endsB c i part p0 p1))) := by
 refine PC.of (N := 45) Tryd.func48 rfl rfl (Nat.le_of_ble_eq_true rfl) ?_
 refine PW.sr [1, 2, 4, 7] 2 trivial ?_
 refine PW.seq ?_
 refine PW.sr [1, 2, 4, 7, 16] 2 (p := (0 ≤ (0 : Int) ∧ (0 : Int) < ((2 : Nat) : Int)) ∧ (0 ≤ (1 : Int) ∧ (1 : Int) < ((2 : Nat) : Int))) (by omega) ?_
 refine PW.cd (p0 == p1) (fun hz0 => ?_) (fun hz0 => ?_)
 ·try simp only [boolS, isB_true, isB_false] at hz0
  refine PW.sr [8] 2 trivial ?_
  refine PW.ret ?_
  refine retQ_ret (d := D.v (.bool true)) (ps := []) (by kernel_rfl) trivial ?_
  refine congrArg (fun b => D.v (.bool b)) ?_
  unfold endsB isB
  grind
 ·try simp only [boolS, isB_true, isB_false] at hz0
  refine PW.skip ?_
  show PW _ _ _ _ _
  refine PW.seq ?_
  refine PW.sr [1, 2, 4, 7, 9] 2 trivial ?_
  refine PW.block ?_
  refine PW.rounds 3 ?_
  refine PR.succ ?_
  refine PW.seq ?_
  refine PW.sr [1, 2, 4, 7, 9, 18] 2 trivial ?_
  refine PW.cd true (fun hz1 => ?_) (fun hz1 => by cases hz1)
  refine PW.skip ?_
  show PW _ _ _ _ _
  refine PW.seq ?_
  refine PW.block ?_
  refine PW.oj ({ tab := [⟨1, [], I (i : Int)⟩, ⟨2, [], I part⟩, ⟨4, [], D.p 0 0 0 0⟩, ⟨7, [], D.p 1 0 0 0⟩, ⟨9, [], I 0⟩, ⟨11, [], D.v (.bool ((portP c.links part p0 i).isSome))⟩], mem := [Obj.var 26 (Config.d c), Obj.var 31 [I p0, I p1], Obj.var 108 [I (((portP c.links part p0 i).getD ⟨0, 0, 0, 0⟩).node), I (((portP c.links part p0 i).getD ⟨0, 0, 0, 0⟩).link), I (((portP c.links part p0 i).getD ⟨0, 0, 0, 0⟩).gate), I (((portP c.links part p0 i).getD ⟨0, 0, 0, 0⟩).side)]] }) ?_ ?_
  ·show PW _ _ _ _ _
   refine PW.seq ?_
   refine PW.open [] (by kernel_rfl) ?_
   refine PO.tk [0, 1, 2, 3, 4, 5, 6, 7, 8] 14 [1, 2, 4, 7, 9, 11, 33, 39] 5 (p := (0 ≤ (0 : Int) ∧ (0 : Int) < ((2 : Nat) : Int)) ∧ (0 ≤ part ∧ part < (c.parts.length : Int))) (by omega) (fun _ _ h => h) ?_
   refine PO.one (n := 4) 9 (by kernel_rfl) ?_
   refine PO1.gc _ (A := []) (fun _ => drumlineref5_is_pc p0 ((c.parts.getD part.toNat default).nodes)) ?_ rfl
   refine PO.tk [10, 11, 12, 13] 4 [1, 2, 4, 7, 9, 44] 0 trivial (fun _ _ h => h) ?_
   refine PO.done (by kernel_rfl) ?_
   show PW _ _ _ _ _
   refine PW.cd ((!(isB p0 ((c.parts.getD part.toNat default).nodes))) || ((portP c.links part p0 i).isSome)) (fun hz2 => ?_) (fun hz2 => ?_)
   ·try simp only [boolS, isB_true, isB_false] at hz2
    refine PW.sr [8] 3 trivial ?_
    refine PW.ret ?_
    refine retQ_ret (d := D.v (.bool true)) (ps := []) (by kernel_rfl) trivial ?_
    refine congrArg (fun b => D.v (.bool b)) ?_
    unfold endsB isB
    grind
   ·try simp only [boolS, isB_true, isB_false] at hz2
    refine PW.skip ?_
    show PW _ _ _ _ _
    refine PW.rr [1, 2, 4, 7, 9] 3 trivial ?_
    show PR _ _ _ _ _ _
    refine PR.succ ?_
    refine PW.seq ?_
    refine PW.sr [1, 2, 4, 7, 9, 18] 3 trivial ?_
    refine PW.cd true (fun hz3 => ?_) (fun hz3 => by cases hz3)
    refine PW.skip ?_
    show PW _ _ _ _ _
    refine PW.seq ?_
    refine PW.block ?_
    refine PW.oj ({ tab := [⟨1, [], I (i : Int)⟩, ⟨2, [], I part⟩, ⟨4, [], D.p 0 0 0 0⟩, ⟨7, [], D.p 1 0 0 0⟩, ⟨9, [], I 1⟩, ⟨11, [], D.v (.bool ((portP c.links part p1 i).isSome))⟩], mem := [Obj.var 26 (Config.d c), Obj.var 31 [I p0, I p1], Obj.var 108 [I (((portP c.links part p0 i).getD ⟨0, 0, 0, 0⟩).node), I (((portP c.links part p0 i).getD ⟨0, 0, 0, 0⟩).link), I (((portP c.links part p0 i).getD ⟨0, 0, 0, 0⟩).gate), I (((portP c.links part p0 i).getD ⟨0, 0, 0, 0⟩).side)], Obj.var 108 [I (((portP c.links part p1 i).getD ⟨0, 0, 0, 0⟩).node), I (((portP c.links part p1 i).getD ⟨0, 0, 0, 0⟩).link), I (((portP c.links part p1 i).getD ⟨0, 0, 0, 0⟩).gate), I (((portP c.links part p1 i).getD ⟨0, 0, 0, 0⟩).side)]] }) ?_ ?_
    ·show PW _ _ _ _ _
     refine PW.seq ?_
     refine PW.open [] (by kernel_rfl) ?_
     refine PO.tk [0, 1, 2, 3, 4, 5, 6, 7, 8] 14 [1, 2, 4, 7, 9, 11, 33, 39] 5 (p := (0 ≤ (1 : Int) ∧ (1 : Int) < ((2 : Nat) : Int)) ∧ (0 ≤ part ∧ part < (c.parts.length : Int))) (by omega) (fun _ _ h => h) ?_
     refine PO.one (n := 4) 9 (by kernel_rfl) ?_
     refine PO1.gc _ (A := []) (fun _ => drumlineref5_is_pc p1 ((c.parts.getD part.toNat default).nodes)) ?_ rfl
     refine PO.tk [10, 11, 12, 13] 4 [1, 2, 4, 7, 9, 44] 0 trivial (fun _ _ h => h) ?_
     refine PO.done (by kernel_rfl) ?_
     show PW _ _ _ _ _
     refine PW.cd ((!(isB p1 ((c.parts.getD part.toNat default).nodes))) || ((portP c.links part p1 i).isSome)) (fun hz4 => ?_) (fun hz4 => ?_)
     ·try simp only [boolS, isB_true, isB_false] at hz4
      refine PW.sr [8] 4 trivial ?_
      refine PW.ret ?_
      refine retQ_ret (d := D.v (.bool true)) (ps := []) (by kernel_rfl) trivial ?_
      refine congrArg (fun b => D.v (.bool b)) ?_
      unfold endsB isB
      grind
     ·try simp only [boolS, isB_true, isB_false] at hz4
      refine PW.skip ?_
      show PW _ _ _ _ _
      refine PW.rr [1, 2, 4, 7, 9] 4 trivial ?_
      show PR _ _ _ _ _ _
      refine PR.succ ?_
      refine PW.seq ?_
      refine PW.sr [1, 2, 4, 7, 9, 18] 4 trivial ?_
      refine PW.cd false (fun hz5 => by cases hz5) (fun hz5 => ?_)
      refine PW.exit ?_
      show PW _ _ _ _ _
      refine PW.sr [8] 4 trivial ?_
      refine PW.ret ?_
      refine retQ_ret (d := D.v (.bool false)) (ps := []) (by kernel_rfl) trivial ?_
      refine congrArg (fun b => D.v (.bool b)) ?_
      unfold endsB isB
      grind
    ·skip
     refine PW.open [3] (by kernel_rfl) ?_
     refine PO.tk [0, 1, 2, 3, 4, 5] 13 [1, 2, 4, 7, 9, 22, 23, 24, 27] 7 (p := (0 ≤ (1 : Int) ∧ (1 : Int) < ((2 : Nat) : Int))) (by omega) (fun _ _ h => h) ?_
     refine PO.next (n := 6) [6, 10] (by kernel_rfl) (by simp) ?_
     intro i hi
     simp only [List.mem_cons, List.not_mem_nil, or_false] at hi
     rcases hi with rfl | rfl
     ·skip
      refine PO1.gc _ (A := []) (fun _ => drumlineref5_port_pc c i part p1 (by omega) (by omega)) ?_ rfl
      refine PO.tk [7, 8, 9] 6 [1, 2, 4, 7, 9, 29, 30] 3 trivial (fun _ _ h => h) ?_
      refine PO.one (n := 2) 10 (by kernel_rfl) ?_
      refine PO1.mm rfl [1, 2, 4, 7, 9, 10, 29, 30] 4 trivial ?_
      refine PO.one (n := 1) 11 (by kernel_rfl) ?_
      refine PO1.mm rfl [1, 2, 4, 7, 9, 30] 4 trivial ?_
      refine PO.tk [12] 1 [1, 2, 4, 7, 9, 11] 0 trivial (fun _ _ h => h) ?_
      refine PO.done (by kernel_rfl) ?_
      exact (show _ = _ from by kernel_rfl)
     ·skip
      refine PO1.mm rfl [1, 2, 4, 7, 9, 10, 22, 23, 24, 27] 4 trivial ?_
      refine PO.one (n := 5) 6 (by kernel_rfl) ?_
      refine PO1.gc _ (A := []) (fun _ => drumlineref5_port_pc c i part p1 (by omega) (by omega)) ?_ rfl
      refine PO.tk [7, 8, 9] 5 [1, 2, 4, 7, 9, 10, 29, 30] 2 trivial (fun _ _ h => h) ?_
      refine PO.one (n := 1) 11 (by kernel_rfl) ?_
      refine PO1.mm rfl [1, 2, 4, 7, 9, 30] 4 trivial ?_
      refine PO.tk [12] 1 [1, 2, 4, 7, 9, 11] 0 trivial (fun _ _ h => h) ?_
      refine PO.done (by kernel_rfl) ?_
      exact (show _ = _ from by kernel_rfl)
  ·skip
   refine PW.open [2] (by kernel_rfl) ?_
   refine PO.tk [0, 1, 2, 3, 4, 5] 13 [1, 2, 4, 7, 9, 22, 23, 24, 27] 7 (p := (0 ≤ (0 : Int) ∧ (0 : Int) < ((2 : Nat) : Int))) (by omega) (fun _ _ h => h) ?_
   refine PO.next (n := 6) [6, 10] (by kernel_rfl) (by simp) ?_
   intro i hi
   simp only [List.mem_cons, List.not_mem_nil, or_false] at hi
   rcases hi with rfl | rfl
   ·skip
    refine PO1.gc _ (A := []) (fun _ => drumlineref5_port_pc c i part p0 (by omega) (by omega)) ?_ rfl
    refine PO.tk [7, 8, 9] 6 [1, 2, 4, 7, 9, 29, 30] 3 trivial (fun _ _ h => h) ?_
    refine PO.one (n := 2) 10 (by kernel_rfl) ?_
    refine PO1.mm rfl [1, 2, 4, 7, 9, 10, 29, 30] 3 trivial ?_
    refine PO.one (n := 1) 11 (by kernel_rfl) ?_
    refine PO1.mm rfl [1, 2, 4, 7, 9, 30] 3 trivial ?_
    refine PO.tk [12] 1 [1, 2, 4, 7, 9, 11] 0 trivial (fun _ _ h => h) ?_
    refine PO.done (by kernel_rfl) ?_
    exact (show _ = _ from by kernel_rfl)
   ·skip
    refine PO1.mm rfl [1, 2, 4, 7, 9, 10, 22, 23, 24, 27] 3 trivial ?_
    refine PO.one (n := 5) 6 (by kernel_rfl) ?_
    refine PO1.gc _ (A := []) (fun _ => drumlineref5_port_pc c i part p0 (by omega) (by omega)) ?_ rfl
    refine PO.tk [7, 8, 9] 5 [1, 2, 4, 7, 9, 10, 29, 30] 2 trivial (fun _ _ h => h) ?_
    refine PO.one (n := 1) 11 (by kernel_rfl) ?_
    refine PO1.mm rfl [1, 2, 4, 7, 9, 30] 3 trivial ?_
    refine PO.tk [12] 1 [1, 2, 4, 7, 9, 11] 0 trivial (fun _ _ h => h) ?_
    refine PO.done (by kernel_rfl) ?_
    exact (show _ = _ from by kernel_rfl)
end Go.Proofs.YtagdeldgpkjjjaaDoor.Pl
