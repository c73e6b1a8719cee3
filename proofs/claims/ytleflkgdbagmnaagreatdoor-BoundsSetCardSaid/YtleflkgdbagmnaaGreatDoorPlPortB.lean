/- Package plan's Ports. -/
import Derived.Test.YtleflkgdbagmnaaGreatDoorPlPort
import Derived.Test.YtleflkgdbagmnaaGreatDoorPlSortC
import Derived.Test.YtleflkgdbagmnaaGreatDoorPlTwelve
namespace Go.Proofs.YtleflkgdbagmnaaGreatDoor.Pl
open Go.RowKit Go.Proofs.YtleflkgdbagmnaaGreatDoor.Sm Go.Proofs.YtleflkgdbagmnaaGreatDoor.Dp
set_option maxHeartbeats 4000000
set_option maxRecDepth 100000
set_option linter.unusedVariables false
set_option linter.unusedSimpArgs false
theorem plan_Ports_pc0 (e : Nat → Addr) (c : Config) (part : Int) (hp0 : c.parts.length < 1000000) (hl0 : c.links.length < 1000000) : PC Tryz.prog (errG2 e) 80 [D.r (Config.d c), I part] (fun d => d = sl' 4 Port.d (portsOf c part) ∨ (d = D.v (.slice none 0 0) ∧ portsOf c part = [])) := by
 refine PC.of (N := 53) Tryz.func80 rfl rfl (Nat.le_of_ble_eq_true rfl) ?_
 refine PW.sr [1, 2] 1 trivial ?_
 refine PW.seq ?_
 refine PW.seq ?_
 rcases Classical.em ((checkP c).1 = 0) with hq | hq
 ·skip
  refine PW.region ?_
  refine PL.rw 1 [1, 2, 12] 1 trivial ?_
  refine PL.gc (d := D.v (.nilIface)) (A := []) (fun _ => ((plan_check_pc e c hp0 hl0).weak (errG_sub e)).eq (faultD_nil hq)) ?_
  refine PL.rw 1 [1, 2, 14] 1 trivial ?_
  refine PL.nil ?_
  show PW _ _ _ _ _
  refine PW.cd false (fun hz0 => by cases hz0) (fun hz0 => ?_)
  refine PW.skip ?_
  show PW _ _ _ _ _
  refine PW.sr [1, 2, 5] 1 trivial ?_
  refine PW.seq ?_
  refine PW.sr [1, 5, 16, 17, 18] 1 trivial ?_
  refine PW.block ?_
  refine PW.born 5 117 4 (by kernel_rfl) ?_
  refine PW.loopR (α := Nat × List Port) (fun (i, xs) => { tab := [⟨1, [], I part⟩, ⟨5, [], D.h 1 xs.length⟩, ⟨16, [], sl' 6 Link.d c.links⟩, ⟨17, [], I (c.links.length : Int)⟩, ⟨18, [], I (i : Int)⟩], mem := [Obj.var 25 (Config.d c), Obj.row 117 4 xs.length (fun j => [I ((xs.getD j default).node), I ((xs.getD j default).link), I ((xs.getD j default).gate), I ((xs.getD j default).side)])], gl := (errG2 e) }) (fun (i, xs) => i ≤ c.links.length ∧ xs = rawN c.links part i) (fun (i, xs) => c.links.length - i) [1, 5, 16, 17, 18] 2 (0, []) (s1 := { tab := [⟨1, [], I part⟩, ⟨5, [], D.h 1 0⟩, ⟨16, [], sl' 6 Link.d c.links⟩, ⟨17, [], I (c.links.length : Int)⟩, ⟨18, [], I 0⟩], mem := [Obj.var 25 (Config.d c), Obj.row 117 4 0 (fun _ => [])], gl := (errG2 e) }) (by kernel_rfl) (by kernel_rfl) ?_ ?_ ?_
  ·dsimp only
   exact ⟨rfl, rfl, rfl, (.same (.row rfl (fun j hj => absurd hj (Nat.not_lt_zero _)) .nil))⟩
  ·dsimp only
   exact ⟨Nat.zero_le _, rfl⟩
  rintro ⟨i, xs⟩ hinv
  dsimp only at hinv
  have hxl : xs.length ≤ 4 * i := by rw [hinv.2]; exact rawN_len _ _ _
  show PW _ _ _ _ _
  refine PW.sr [1, 5, 16, 17, 18, 19] 2 trivial ?_
  refine PW.seq ?_
  refine PW.cd (decide ((i : Int) < (c.links.length : Int))) (fun hz1 => ?_) (fun hz1 => ?_)
  ·try simp only [boolS, isB_true, isB_false] at hz1
   refine PW.skip ?_
   show PW _ _ _ _ _
   refine PW.seq ?_
   refine PW.block ?_
   refine PW.sr [1, 5, 6, 7, 16, 17, 18] 3 (p := (0 ≤ (i : Int) ∧ (i : Int) < (c.links.length : Int))) (by omega) ?_
   refine PW.sg ?_
   refine PL.rw 1 [1, 5, 6, 16, 17, 18, 23] 3 trivial ?_
   refine PL.gc (G := (errG2 e)) (A := []) (fun _ => PC.more (plan_ends_pc (c.links.getD i default))) ?_
   refine PL.rw 1 [1, 5, 6, 16, 17, 18, 24, 25] 3 trivial ?_
   refine PL.nl ?_
   refine PW.block ?_
   refine PW.rounds 3 ?_
   refine PR.succ ?_
   refine PW.sr [1, 5, 6, 16, 17, 18, 24, 25, 26] 3 trivial ?_
   refine PW.seq ?_
   refine PW.cd true (fun hz2 => ?_) (fun hz2 => by cases hz2)
   refine PW.skip ?_
   show PW _ _ _ _ _
   refine PW.seq ?_
   refine PW.block ?_
   refine PW.sr [1, 5, 6, 8, 9, 16, 17, 18, 24, 25] 4 (p := (0 ≤ (0 : Int) ∧ (0 : Int) < ((2 : Nat) : Int))) (by omega) ?_
   refine PW.seq ?_
   refine PW.sr [1, 5, 6, 8, 9, 16, 17, 18, 24, 25, 32] 4 trivial ?_
   refine PW.cd (((c.links.getD i default).a) != part) (fun hz3 => ?_) (fun hz3 => ?_)
   ·try simp only [boolS, isB_true, isB_false] at hz3
    refine PW.exit ?_
    show PW _ _ _ _ _
    refine PW.rr [1, 5, 6, 16, 17, 18, 24, 25] 4 trivial ?_
    show PR _ _ _ _ _ _
    refine PR.succ ?_
    refine PW.sr [1, 5, 6, 16, 17, 18, 24, 25, 26] 4 trivial ?_
    refine PW.seq ?_
    refine PW.cd true (fun hz4 => ?_) (fun hz4 => by cases hz4)
    refine PW.skip ?_
    show PW _ _ _ _ _
    refine PW.seq ?_
    refine PW.block ?_
    refine PW.sr [1, 5, 6, 8, 9, 16, 17, 18, 24, 25] 5 (p := (0 ≤ (1 : Int) ∧ (1 : Int) < ((2 : Nat) : Int))) (by omega) ?_
    refine PW.seq ?_
    refine PW.sr [1, 5, 6, 8, 9, 16, 17, 18, 24, 25, 32] 5 trivial ?_
    refine PW.cd (((c.links.getD i default).b) != part) (fun hz5 => ?_) (fun hz5 => ?_)
    ·try simp only [boolS, isB_true, isB_false] at hz5
     refine PW.exit ?_
     show PW _ _ _ _ _
     refine PW.rr [1, 5, 6, 16, 17, 18, 24, 25] 5 trivial ?_
     show PR _ _ _ _ _ _
     refine PR.succ ?_
     refine PW.sr [1, 5, 6, 16, 17, 18, 24, 25, 26] 5 trivial ?_
     refine PW.seq ?_
     refine PW.cd false (fun hz6 => by cases hz6) (fun hz6 => ?_)
     refine PW.exit ?_
     show PW _ _ _ _ _
     refine PW.rr [1, 5, 16, 17, 18] 5 trivial ?_
     refine BackR.of (s1 := { tab := [⟨1, [], I part⟩, ⟨5, [], D.h 1 xs.length⟩, ⟨16, [], sl' 6 Link.d c.links⟩, ⟨17, [], I (c.links.length : Int)⟩, ⟨18, [], I (IntKind.i64.wrap ((i : Int) + 1))⟩], mem := [Obj.var 25 (Config.d c), Obj.row 117 4 xs.length (fun j => [I ((xs.getD j default).node), I ((xs.getD j default).link), I ((xs.getD j default).gate), I ((xs.getD j default).side)])], gl := (errG2 e) }) (i + 1, xs) (by kernel_rfl) (by kernel_rfl) ?_ ?_ ?_
     ·dsimp only
      rw [wrap1 i (by omega)]
      try simp only [List.length_append, List.length_singleton]
      exact Rem.refl _
     ·dsimp only
      exact ⟨by omega, by rw [rawN, ← hinv.2]; unfold portsAt; simp_all⟩
     ·dsimp only
      ((repeat' (first | intro _ | refine And.intro ?_ ?_)) <;> first | omega | trivial | assumption | (rename_i hgd; simp only [Bool.and_eq_true, decide_eq_true_eq, and_true] at hgd; omega))
    ·try simp only [boolS, isB_true, isB_false] at hz5
     refine PW.skip ?_
     show PW _ _ _ _ _
     refine PW.sr [1, 5, 6, 8, 16, 17, 18, 24, 25, 34, 35] 5 trivial ?_
     refine PW.block ?_
     refine PW.rounds 3 ?_
     refine PR.succ ?_
     refine PW.sr [1, 5, 6, 8, 16, 17, 18, 24, 25, 34, 35, 36] 5 trivial ?_
     refine PW.seq ?_
     refine PW.cd true (fun hz7 => ?_) (fun hz7 => by cases hz7)
     refine PW.skip ?_
     show PW _ _ _ _ _
     refine PW.seq ?_
     refine PW.block ?_
     refine PW.sr [1, 5, 6, 8, 10, 11, 16, 17, 18, 24, 25, 34, 35] 5 (p := (0 ≤ (0 : Int) ∧ (0 : Int) < ((2 : Nat) : Int))) (by omega) ?_
     refine PW.region ?_
     refine PL.rw 8 [1, 6, 8, 16, 17, 18, 24, 25, 34, 35, 46] 6 (p := ((xs.length = xs.length ∧ 1 ≤ 1) ∧ (xs.length + 1) * 32 ≤ 140737488355328 ∧ xs.length + 1 ≤ 9223372036854775807)) (by omega) ?_
     refine PL.rm 1 (t := 117) (z := 4) (n := (xs.length + 1)) (fun j => if j < xs.length then (fun j => [I ((xs.getD j default).node), I ((xs.getD j default).link), I ((xs.getD j default).gate), I ((xs.getD j default).side)]) j else (fun k => ([[I ((c.links.getD i default).pb0), I (i : Int), I 0, I 1]][k]?).getD []) (j - xs.length)) (fun j => [I (((xs ++ [(⟨(c.links.getD i default).pb0, (i : Int), 0, 1⟩ : Port)]).getD j default).node), I (((xs ++ [(⟨(c.links.getD i default).pb0, (i : Int), 0, 1⟩ : Port)]).getD j default).link), I (((xs ++ [(⟨(c.links.getD i default).pb0, (i : Int), 0, 1⟩ : Port)]).getD j default).gate), I (((xs ++ [(⟨(c.links.getD i default).pb0, (i : Int), 0, 1⟩ : Port)]).getD j default).side)]) (fun j hj => by (try dsimp only); rw [getD_app xs [(⟨(c.links.getD i default).pb0, (i : Int), 0, 1⟩ : Port)] j default, show xs.length = xs.length from (by (try simp only [List.length_set, List.length_replicate, List.length_append, List.length_cons, List.length_nil]) <;> omega)]; split <;> first | rfl | (rename_i hjn; rw [show j - xs.length = 0 by omega]; rfl)) ?_
     refine PL.rw 1 [1, 5, 6, 8, 16, 17, 18, 24, 25, 34, 35] 6 trivial ?_
     refine PL.nil ?_
     show PW _ _ _ _ _
     refine PW.rr [1, 5, 6, 8, 16, 17, 18, 24, 25, 34, 35] 6 trivial ?_
     show PR _ _ _ _ _ _
     refine PR.succ ?_
     refine PW.sr [1, 5, 6, 8, 16, 17, 18, 24, 25, 34, 35, 36] 6 trivial ?_
     refine PW.seq ?_
     refine PW.cd true (fun hz8 => ?_) (fun hz8 => by cases hz8)
     refine PW.skip ?_
     show PW _ _ _ _ _
     refine PW.seq ?_
     refine PW.block ?_
     refine PW.sr [1, 5, 6, 8, 10, 11, 16, 17, 18, 24, 25, 34, 35] 6 (p := (0 ≤ (1 : Int) ∧ (1 : Int) < ((2 : Nat) : Int))) (by omega) ?_
     refine PW.region ?_
     refine PL.rw 8 [1, 6, 8, 16, 17, 18, 24, 25, 34, 35, 46] 7 (p := ((xs.length + 1 = xs.length + 1 ∧ 1 ≤ 1) ∧ (xs.length + 1 + 1) * 32 ≤ 140737488355328 ∧ xs.length + 1 + 1 ≤ 9223372036854775807)) (by omega) ?_
     refine PL.rm 1 (t := 117) (z := 4) (n := (xs.length + 1 + 1)) (fun j => if j < xs.length + 1 then (fun j => [I (((xs ++ [(⟨(c.links.getD i default).pb0, (i : Int), 0, 1⟩ : Port)]).getD j default).node), I (((xs ++ [(⟨(c.links.getD i default).pb0, (i : Int), 0, 1⟩ : Port)]).getD j default).link), I (((xs ++ [(⟨(c.links.getD i default).pb0, (i : Int), 0, 1⟩ : Port)]).getD j default).gate), I (((xs ++ [(⟨(c.links.getD i default).pb0, (i : Int), 0, 1⟩ : Port)]).getD j default).side)]) j else (fun k => ([[I ((c.links.getD i default).pb1), I (i : Int), I 1, I 1]][k]?).getD []) (j - (xs.length + 1))) (fun j => [I ((((xs ++ [(⟨(c.links.getD i default).pb0, (i : Int), 0, 1⟩ : Port)]) ++ [(⟨(c.links.getD i default).pb1, (i : Int), 1, 1⟩ : Port)]).getD j default).node), I ((((xs ++ [(⟨(c.links.getD i default).pb0, (i : Int), 0, 1⟩ : Port)]) ++ [(⟨(c.links.getD i default).pb1, (i : Int), 1, 1⟩ : Port)]).getD j default).link), I ((((xs ++ [(⟨(c.links.getD i default).pb0, (i : Int), 0, 1⟩ : Port)]) ++ [(⟨(c.links.getD i default).pb1, (i : Int), 1, 1⟩ : Port)]).getD j default).gate), I ((((xs ++ [(⟨(c.links.getD i default).pb0, (i : Int), 0, 1⟩ : Port)]) ++ [(⟨(c.links.getD i default).pb1, (i : Int), 1, 1⟩ : Port)]).getD j default).side)]) (fun j hj => by (try dsimp only); rw [getD_app (xs ++ [(⟨(c.links.getD i default).pb0, (i : Int), 0, 1⟩ : Port)]) [(⟨(c.links.getD i default).pb1, (i : Int), 1, 1⟩ : Port)] j default, show (xs ++ [(⟨(c.links.getD i default).pb0, (i : Int), 0, 1⟩ : Port)]).length = xs.length + 1 from (by (try simp only [List.length_set, List.length_replicate, List.length_append, List.length_cons, List.length_nil]) <;> omega)]; split <;> first | rfl | (rename_i hjn; rw [show j - (xs.length + 1) = 0 by omega]; rfl)) ?_
     refine PL.rw 1 [1, 5, 6, 8, 16, 17, 18, 24, 25, 34, 35] 7 trivial ?_
     refine PL.nil ?_
     show PW _ _ _ _ _
     refine PW.rr [1, 5, 6, 8, 16, 17, 18, 24, 25, 34, 35] 7 trivial ?_
     show PR _ _ _ _ _ _
     refine PR.succ ?_
     refine PW.sr [1, 5, 6, 8, 16, 17, 18, 24, 25, 34, 35, 36] 7 trivial ?_
     refine PW.seq ?_
     refine PW.cd false (fun hz9 => by cases hz9) (fun hz9 => ?_)
     refine PW.exit ?_
     show PW _ _ _ _ _
     refine PW.rr [1, 5, 6, 16, 17, 18, 24, 25] 7 trivial ?_
     show PR _ _ _ _ _ _
     refine PR.succ ?_
     refine PW.sr [1, 5, 6, 16, 17, 18, 24, 25, 26] 7 trivial ?_
     refine PW.seq ?_
     refine PW.cd false (fun hz10 => by cases hz10) (fun hz10 => ?_)
     refine PW.exit ?_
     show PW _ _ _ _ _
     refine PW.rr [1, 5, 16, 17, 18] 7 trivial ?_
     refine BackR.of (s1 := { tab := [⟨1, [], I part⟩, ⟨5, [], D.h 1 (xs.length + 1 + 1)⟩, ⟨16, [], sl' 6 Link.d c.links⟩, ⟨17, [], I (c.links.length : Int)⟩, ⟨18, [], I (IntKind.i64.wrap ((i : Int) + 1))⟩], mem := [Obj.var 25 (Config.d c), Obj.row 117 4 (xs.length + 1 + 1) (fun j => [I ((((xs ++ [(⟨(c.links.getD i default).pb0, (i : Int), 0, 1⟩ : Port)]) ++ [(⟨(c.links.getD i default).pb1, (i : Int), 1, 1⟩ : Port)]).getD j default).node), I ((((xs ++ [(⟨(c.links.getD i default).pb0, (i : Int), 0, 1⟩ : Port)]) ++ [(⟨(c.links.getD i default).pb1, (i : Int), 1, 1⟩ : Port)]).getD j default).link), I ((((xs ++ [(⟨(c.links.getD i default).pb0, (i : Int), 0, 1⟩ : Port)]) ++ [(⟨(c.links.getD i default).pb1, (i : Int), 1, 1⟩ : Port)]).getD j default).gate), I ((((xs ++ [(⟨(c.links.getD i default).pb0, (i : Int), 0, 1⟩ : Port)]) ++ [(⟨(c.links.getD i default).pb1, (i : Int), 1, 1⟩ : Port)]).getD j default).side)])], gl := (errG2 e) }) (i + 1, (xs ++ [(⟨(c.links.getD i default).pb0, (i : Int), 0, 1⟩ : Port)]) ++ [(⟨(c.links.getD i default).pb1, (i : Int), 1, 1⟩ : Port)]) (by kernel_rfl) (by kernel_rfl) ?_ ?_ ?_
     ·dsimp only
      rw [wrap1 i (by omega)]
      try simp only [List.length_append, List.length_singleton]
      exact Rem.refl _
     ·dsimp only
      exact ⟨by omega, by rw [rawN, ← hinv.2]; unfold portsAt; simp_all⟩
     ·dsimp only
      ((repeat' (first | intro _ | refine And.intro ?_ ?_)) <;> first | omega | trivial | assumption | (rename_i hgd; simp only [Bool.and_eq_true, decide_eq_true_eq, and_true] at hgd; omega))
   ·try simp only [boolS, isB_true, isB_false] at hz3
    refine PW.skip ?_
    show PW _ _ _ _ _
    refine PW.sr [1, 5, 6, 8, 16, 17, 18, 24, 25, 34, 35] 4 trivial ?_
    refine PW.block ?_
    refine PW.rounds 3 ?_
    refine PR.succ ?_
    refine PW.sr [1, 5, 6, 8, 16, 17, 18, 24, 25, 34, 35, 36] 4 trivial ?_
    refine PW.seq ?_
    refine PW.cd true (fun hz11 => ?_) (fun hz11 => by cases hz11)
    refine PW.skip ?_
    show PW _ _ _ _ _
    refine PW.seq ?_
    refine PW.block ?_
    refine PW.sr [1, 5, 6, 8, 10, 11, 16, 17, 18, 24, 25, 34, 35] 4 (p := (0 ≤ (0 : Int) ∧ (0 : Int) < ((2 : Nat) : Int))) (by omega) ?_
    refine PW.region ?_
    refine PL.rw 8 [1, 6, 8, 16, 17, 18, 24, 25, 34, 35, 46] 5 (p := ((xs.length = xs.length ∧ 1 ≤ 1) ∧ (xs.length + 1) * 32 ≤ 140737488355328 ∧ xs.length + 1 ≤ 9223372036854775807)) (by omega) ?_
    refine PL.rm 1 (t := 117) (z := 4) (n := (xs.length + 1)) (fun j => if j < xs.length then (fun j => [I ((xs.getD j default).node), I ((xs.getD j default).link), I ((xs.getD j default).gate), I ((xs.getD j default).side)]) j else (fun k => ([[I ((c.links.getD i default).pa0), I (i : Int), I 0, I 0]][k]?).getD []) (j - xs.length)) (fun j => [I (((xs ++ [(⟨(c.links.getD i default).pa0, (i : Int), 0, 0⟩ : Port)]).getD j default).node), I (((xs ++ [(⟨(c.links.getD i default).pa0, (i : Int), 0, 0⟩ : Port)]).getD j default).link), I (((xs ++ [(⟨(c.links.getD i default).pa0, (i : Int), 0, 0⟩ : Port)]).getD j default).gate), I (((xs ++ [(⟨(c.links.getD i default).pa0, (i : Int), 0, 0⟩ : Port)]).getD j default).side)]) (fun j hj => by (try dsimp only); rw [getD_app xs [(⟨(c.links.getD i default).pa0, (i : Int), 0, 0⟩ : Port)] j default, show xs.length = xs.length from (by (try simp only [List.length_set, List.length_replicate, List.length_append, List.length_cons, List.length_nil]) <;> omega)]; split <;> first | rfl | (rename_i hjn; rw [show j - xs.length = 0 by omega]; rfl)) ?_
    refine PL.rw 1 [1, 5, 6, 8, 16, 17, 18, 24, 25, 34, 35] 5 trivial ?_
    refine PL.nil ?_
    show PW _ _ _ _ _
    refine PW.rr [1, 5, 6, 8, 16, 17, 18, 24, 25, 34, 35] 5 trivial ?_
    show PR _ _ _ _ _ _
    refine PR.succ ?_
    refine PW.sr [1, 5, 6, 8, 16, 17, 18, 24, 25, 34, 35, 36] 5 trivial ?_
    refine PW.seq ?_
    refine PW.cd true (fun hz12 => ?_) (fun hz12 => by cases hz12)
    refine PW.skip ?_
    show PW _ _ _ _ _
    refine PW.seq ?_
    refine PW.block ?_
    refine PW.sr [1, 5, 6, 8, 10, 11, 16, 17, 18, 24, 25, 34, 35] 5 (p := (0 ≤ (1 : Int) ∧ (1 : Int) < ((2 : Nat) : Int))) (by omega) ?_
    refine PW.region ?_
    refine PL.rw 8 [1, 6, 8, 16, 17, 18, 24, 25, 34, 35, 46] 6 (p := ((xs.length + 1 = xs.length + 1 ∧ 1 ≤ 1) ∧ (xs.length + 1 + 1) * 32 ≤ 140737488355328 ∧ xs.length + 1 + 1 ≤ 9223372036854775807)) (by omega) ?_
    refine PL.rm 1 (t := 117) (z := 4) (n := (xs.length + 1 + 1)) (fun j => if j < xs.length + 1 then (fun j => [I (((xs ++ [(⟨(c.links.getD i default).pa0, (i : Int), 0, 0⟩ : Port)]).getD j default).node), I (((xs ++ [(⟨(c.links.getD i default).pa0, (i : Int), 0, 0⟩ : Port)]).getD j default).link), I (((xs ++ [(⟨(c.links.getD i default).pa0, (i : Int), 0, 0⟩ : Port)]).getD j default).gate), I (((xs ++ [(⟨(c.links.getD i default).pa0, (i : Int), 0, 0⟩ : Port)]).getD j default).side)]) j else (fun k => ([[I ((c.links.getD i default).pa1), I (i : Int), I 1, I 0]][k]?).getD []) (j - (xs.length + 1))) (fun j => [I ((((xs ++ [(⟨(c.links.getD i default).pa0, (i : Int), 0, 0⟩ : Port)]) ++ [(⟨(c.links.getD i default).pa1, (i : Int), 1, 0⟩ : Port)]).getD j default).node), I ((((xs ++ [(⟨(c.links.getD i default).pa0, (i : Int), 0, 0⟩ : Port)]) ++ [(⟨(c.links.getD i default).pa1, (i : Int), 1, 0⟩ : Port)]).getD j default).link), I ((((xs ++ [(⟨(c.links.getD i default).pa0, (i : Int), 0, 0⟩ : Port)]) ++ [(⟨(c.links.getD i default).pa1, (i : Int), 1, 0⟩ : Port)]).getD j default).gate), I ((((xs ++ [(⟨(c.links.getD i default).pa0, (i : Int), 0, 0⟩ : Port)]) ++ [(⟨(c.links.getD i default).pa1, (i : Int), 1, 0⟩ : Port)]).getD j default).side)]) (fun j hj => by (try dsimp only); rw [getD_app (xs ++ [(⟨(c.links.getD i default).pa0, (i : Int), 0, 0⟩ : Port)]) [(⟨(c.links.getD i default).pa1, (i : Int), 1, 0⟩ : Port)] j default, show (xs ++ [(⟨(c.links.getD i default).pa0, (i : Int), 0, 0⟩ : Port)]).length = xs.length + 1 from (by (try simp only [List.length_set, List.length_replicate, List.length_append, List.length_cons, List.length_nil]) <;> omega)]; split <;> first | rfl | (rename_i hjn; rw [show j - (xs.length + 1) = 0 by omega]; rfl)) ?_
    refine PL.rw 1 [1, 5, 6, 8, 16, 17, 18, 24, 25, 34, 35] 6 trivial ?_
    refine PL.nil ?_
    show PW _ _ _ _ _
    refine PW.rr [1, 5, 6, 8, 16, 17, 18, 24, 25, 34, 35] 6 trivial ?_
    show PR _ _ _ _ _ _
    refine PR.succ ?_
    refine PW.sr [1, 5, 6, 8, 16, 17, 18, 24, 25, 34, 35, 36] 6 trivial ?_
    refine PW.seq ?_
    refine PW.cd false (fun hz13 => by cases hz13) (fun hz13 => ?_)
    refine PW.exit ?_
    show PW _ _ _ _ _
    refine PW.rr [1, 5, 6, 16, 17, 18, 24, 25] 6 trivial ?_
    show PR _ _ _ _ _ _
    refine PR.succ ?_
    refine PW.sr [1, 5, 6, 16, 17, 18, 24, 25, 26] 6 trivial ?_
    refine PW.seq ?_
    refine PW.cd true (fun hz14 => ?_) (fun hz14 => by cases hz14)
    refine PW.skip ?_
    show PW _ _ _ _ _
    refine PW.seq ?_
    refine PW.block ?_
    refine PW.sr [1, 5, 6, 8, 9, 16, 17, 18, 24, 25] 7 (p := (0 ≤ (1 : Int) ∧ (1 : Int) < ((2 : Nat) : Int))) (by omega) ?_
    refine PW.seq ?_
    refine PW.sr [1, 5, 6, 8, 9, 16, 17, 18, 24, 25, 32] 7 trivial ?_
    refine PW.cd (((c.links.getD i default).b) != part) (fun hz15 => ?_) (fun hz15 => ?_)
    ·try simp only [boolS, isB_true, isB_false] at hz15
     refine PW.exit ?_
     show PW _ _ _ _ _
     refine PW.rr [1, 5, 6, 16, 17, 18, 24, 25] 7 trivial ?_
     show PR _ _ _ _ _ _
     refine PR.succ ?_
     refine PW.sr [1, 5, 6, 16, 17, 18, 24, 25, 26] 7 trivial ?_
     refine PW.seq ?_
     refine PW.cd false (fun hz16 => by cases hz16) (fun hz16 => ?_)
     refine PW.exit ?_
     show PW _ _ _ _ _
     refine PW.rr [1, 5, 16, 17, 18] 7 trivial ?_
     refine BackR.of (s1 := { tab := [⟨1, [], I part⟩, ⟨5, [], D.h 1 (xs.length + 1 + 1)⟩, ⟨16, [], sl' 6 Link.d c.links⟩, ⟨17, [], I (c.links.length : Int)⟩, ⟨18, [], I (IntKind.i64.wrap ((i : Int) + 1))⟩], mem := [Obj.var 25 (Config.d c), Obj.row 117 4 (xs.length + 1 + 1) (fun j => [I ((((xs ++ [(⟨(c.links.getD i default).pa0, (i : Int), 0, 0⟩ : Port)]) ++ [(⟨(c.links.getD i default).pa1, (i : Int), 1, 0⟩ : Port)]).getD j default).node), I ((((xs ++ [(⟨(c.links.getD i default).pa0, (i : Int), 0, 0⟩ : Port)]) ++ [(⟨(c.links.getD i default).pa1, (i : Int), 1, 0⟩ : Port)]).getD j default).link), I ((((xs ++ [(⟨(c.links.getD i default).pa0, (i : Int), 0, 0⟩ : Port)]) ++ [(⟨(c.links.getD i default).pa1, (i : Int), 1, 0⟩ : Port)]).getD j default).gate), I ((((xs ++ [(⟨(c.links.getD i default).pa0, (i : Int), 0, 0⟩ : Port)]) ++ [(⟨(c.links.getD i default).pa1, (i : Int), 1, 0⟩ : Port)]).getD j default).side)])], gl := (errG2 e) }) (i + 1, (xs ++ [(⟨(c.links.getD i default).pa0, (i : Int), 0, 0⟩ : Port)]) ++ [(⟨(c.links.getD i default).pa1, (i : Int), 1, 0⟩ : Port)]) (by kernel_rfl) (by kernel_rfl) ?_ ?_ ?_
     ·dsimp only
      rw [wrap1 i (by omega)]
      try simp only [List.length_append, List.length_singleton]
      exact Rem.refl _
     ·dsimp only
      exact ⟨by omega, by rw [rawN, ← hinv.2]; unfold portsAt; simp_all⟩
     ·dsimp only
      ((repeat' (first | intro _ | refine And.intro ?_ ?_)) <;> first | omega | trivial | assumption | (rename_i hgd; simp only [Bool.and_eq_true, decide_eq_true_eq, and_true] at hgd; omega))
    ·try simp only [boolS, isB_true, isB_false] at hz15
     refine PW.skip ?_
     show PW _ _ _ _ _
     refine PW.sr [1, 5, 6, 8, 16, 17, 18, 24, 25, 34, 35] 7 trivial ?_
     refine PW.block ?_
     refine PW.rounds 3 ?_
     refine PR.succ ?_
     refine PW.sr [1, 5, 6, 8, 16, 17, 18, 24, 25, 34, 35, 36] 7 trivial ?_
     refine PW.seq ?_
     refine PW.cd true (fun hz17 => ?_) (fun hz17 => by cases hz17)
     refine PW.skip ?_
     show PW _ _ _ _ _
     refine PW.seq ?_
     refine PW.block ?_
     refine PW.sr [1, 5, 6, 8, 10, 11, 16, 17, 18, 24, 25, 34, 35] 7 (p := (0 ≤ (0 : Int) ∧ (0 : Int) < ((2 : Nat) : Int))) (by omega) ?_
     refine PW.region ?_
     refine PL.rw 8 [1, 6, 8, 16, 17, 18, 24, 25, 34, 35, 46] 8 (p := ((xs.length + 1 + 1 = xs.length + 1 + 1 ∧ 1 ≤ 1) ∧ (xs.length + 1 + 1 + 1) * 32 ≤ 140737488355328 ∧ xs.length + 1 + 1 + 1 ≤ 9223372036854775807)) (by omega) ?_
     refine PL.rm 1 (t := 117) (z := 4) (n := (xs.length + 1 + 1 + 1)) (fun j => if j < xs.length + 1 + 1 then (fun j => [I ((((xs ++ [(⟨(c.links.getD i default).pa0, (i : Int), 0, 0⟩ : Port)]) ++ [(⟨(c.links.getD i default).pa1, (i : Int), 1, 0⟩ : Port)]).getD j default).node), I ((((xs ++ [(⟨(c.links.getD i default).pa0, (i : Int), 0, 0⟩ : Port)]) ++ [(⟨(c.links.getD i default).pa1, (i : Int), 1, 0⟩ : Port)]).getD j default).link), I ((((xs ++ [(⟨(c.links.getD i default).pa0, (i : Int), 0, 0⟩ : Port)]) ++ [(⟨(c.links.getD i default).pa1, (i : Int), 1, 0⟩ : Port)]).getD j default).gate), I ((((xs ++ [(⟨(c.links.getD i default).pa0, (i : Int), 0, 0⟩ : Port)]) ++ [(⟨(c.links.getD i default).pa1, (i : Int), 1, 0⟩ : Port)]).getD j default).side)]) j else (fun k => ([[I ((c.links.getD i default).pb0), I (i : Int), I 0, I 1]][k]?).getD []) (j - (xs.length + 1 + 1))) (fun j => [I (((((xs ++ [(⟨(c.links.getD i default).pa0, (i : Int), 0, 0⟩ : Port)]) ++ [(⟨(c.links.getD i default).pa1, (i : Int), 1, 0⟩ : Port)]) ++ [(⟨(c.links.getD i default).pb0, (i : Int), 0, 1⟩ : Port)]).getD j default).node), I (((((xs ++ [(⟨(c.links.getD i default).pa0, (i : Int), 0, 0⟩ : Port)]) ++ [(⟨(c.links.getD i default).pa1, (i : Int), 1, 0⟩ : Port)]) ++ [(⟨(c.links.getD i default).pb0, (i : Int), 0, 1⟩ : Port)]).getD j default).link), I (((((xs ++ [(⟨(c.links.getD i default).pa0, (i : Int), 0, 0⟩ : Port)]) ++ [(⟨(c.links.getD i default).pa1, (i : Int), 1, 0⟩ : Port)]) ++ [(⟨(c.links.getD i default).pb0, (i : Int), 0, 1⟩ : Port)]).getD j default).gate), I (((((xs ++ [(⟨(c.links.getD i default).pa0, (i : Int), 0, 0⟩ : Port)]) ++ [(⟨(c.links.getD i default).pa1, (i : Int), 1, 0⟩ : Port)]) ++ [(⟨(c.links.getD i default).pb0, (i : Int), 0, 1⟩ : Port)]).getD j default).side)]) (fun j hj => by (try dsimp only); rw [getD_app ((xs ++ [(⟨(c.links.getD i default).pa0, (i : Int), 0, 0⟩ : Port)]) ++ [(⟨(c.links.getD i default).pa1, (i : Int), 1, 0⟩ : Port)]) [(⟨(c.links.getD i default).pb0, (i : Int), 0, 1⟩ : Port)] j default, show ((xs ++ [(⟨(c.links.getD i default).pa0, (i : Int), 0, 0⟩ : Port)]) ++ [(⟨(c.links.getD i default).pa1, (i : Int), 1, 0⟩ : Port)]).length = xs.length + 1 + 1 from (by (try simp only [List.length_set, List.length_replicate, List.length_append, List.length_cons, List.length_nil]) <;> omega)]; split <;> first | rfl | (rename_i hjn; rw [show j - (xs.length + 1 + 1) = 0 by omega]; rfl)) ?_
     refine PL.rw 1 [1, 5, 6, 8, 16, 17, 18, 24, 25, 34, 35] 8 trivial ?_
     refine PL.nil ?_
     show PW _ _ _ _ _
     refine PW.rr [1, 5, 6, 8, 16, 17, 18, 24, 25, 34, 35] 8 trivial ?_
     show PR _ _ _ _ _ _
     refine PR.succ ?_
     refine PW.sr [1, 5, 6, 8, 16, 17, 18, 24, 25, 34, 35, 36] 8 trivial ?_
     refine PW.seq ?_
     refine PW.cd true (fun hz18 => ?_) (fun hz18 => by cases hz18)
     refine PW.skip ?_
     show PW _ _ _ _ _
     refine PW.seq ?_
     refine PW.block ?_
     refine PW.sr [1, 5, 6, 8, 10, 11, 16, 17, 18, 24, 25, 34, 35] 8 (p := (0 ≤ (1 : Int) ∧ (1 : Int) < ((2 : Nat) : Int))) (by omega) ?_
     refine PW.region ?_
     refine PL.rw 8 [1, 6, 8, 16, 17, 18, 24, 25, 34, 35, 46] 9 (p := ((xs.length + 1 + 1 + 1 = xs.length + 1 + 1 + 1 ∧ 1 ≤ 1) ∧ (xs.length + 1 + 1 + 1 + 1) * 32 ≤ 140737488355328 ∧ xs.length + 1 + 1 + 1 + 1 ≤ 9223372036854775807)) (by omega) ?_
     refine PL.rm 1 (t := 117) (z := 4) (n := (xs.length + 1 + 1 + 1 + 1)) (fun j => if j < xs.length + 1 + 1 + 1 then (fun j => [I (((((xs ++ [(⟨(c.links.getD i default).pa0, (i : Int), 0, 0⟩ : Port)]) ++ [(⟨(c.links.getD i default).pa1, (i : Int), 1, 0⟩ : Port)]) ++ [(⟨(c.links.getD i default).pb0, (i : Int), 0, 1⟩ : Port)]).getD j default).node), I (((((xs ++ [(⟨(c.links.getD i default).pa0, (i : Int), 0, 0⟩ : Port)]) ++ [(⟨(c.links.getD i default).pa1, (i : Int), 1, 0⟩ : Port)]) ++ [(⟨(c.links.getD i default).pb0, (i : Int), 0, 1⟩ : Port)]).getD j default).link), I (((((xs ++ [(⟨(c.links.getD i default).pa0, (i : Int), 0, 0⟩ : Port)]) ++ [(⟨(c.links.getD i default).pa1, (i : Int), 1, 0⟩ : Port)]) ++ [(⟨(c.links.getD i default).pb0, (i : Int), 0, 1⟩ : Port)]).getD j default).gate), I (((((xs ++ [(⟨(c.links.getD i default).pa0, (i : Int), 0, 0⟩ : Port)]) ++ [(⟨(c.links.getD i default).pa1, (i : Int), 1, 0⟩ : Port)]) ++ [(⟨(c.links.getD i default).pb0, (i : Int), 0, 1⟩ : Port)]).getD j default).side)]) j else (fun k => ([[I ((c.links.getD i default).pb1), I (i : Int), I 1, I 1]][k]?).getD []) (j - (xs.length + 1 + 1 + 1))) (fun j => [I ((((((xs ++ [(⟨(c.links.getD i default).pa0, (i : Int), 0, 0⟩ : Port)]) ++ [(⟨(c.links.getD i default).pa1, (i : Int), 1, 0⟩ : Port)]) ++ [(⟨(c.links.getD i default).pb0, (i : Int), 0, 1⟩ : Port)]) ++ [(⟨(c.links.getD i default).pb1, (i : Int), 1, 1⟩ : Port)]).getD j default).node), I ((((((xs ++ [(⟨(c.links.getD i default).pa0, (i : Int), 0, 0⟩ : Port)]) ++ [(⟨(c.links.getD i default).pa1, (i : Int), 1, 0⟩ : Port)]) ++ [(⟨(c.links.getD i default).pb0, (i : Int), 0, 1⟩ : Port)]) ++ [(⟨(c.links.getD i default).pb1, (i : Int), 1, 1⟩ : Port)]).getD j default).link), I ((((((xs ++ [(⟨(c.links.getD i default).pa0, (i : Int), 0, 0⟩ : Port)]) ++ [(⟨(c.links.getD i default).pa1, (i : Int), 1, 0⟩ : Port)]) ++ [(⟨(c.links.getD i default).pb0, (i : Int), 0, 1⟩ : Port)]) ++ [(⟨(c.links.getD i default).pb1, (i : Int), 1, 1⟩ : Port)]).getD j default).gate), I ((((((xs ++ [(⟨(c.links.getD i default).pa0, (i : Int), 0, 0⟩ : Port)]) ++ [(⟨(c.links.getD i default).pa1, (i : Int), 1, 0⟩ : Port)]) ++ [(⟨(c.links.getD i default).pb0, (i : Int), 0, 1⟩ : Port)]) ++ [(⟨(c.links.getD i default).pb1, (i : Int), 1, 1⟩ : Port)]).getD j default).side)]) (fun j hj => by (try dsimp only); rw [getD_app (((xs ++ [(⟨(c.links.getD i default).pa0, (i : Int), 0, 0⟩ : Port)]) ++ [(⟨(c.links.getD i default).pa1, (i : Int), 1, 0⟩ : Port)]) ++ [(⟨(c.links.getD i default).pb0, (i : Int), 0, 1⟩ : Port)]) [(⟨(c.links.getD i default).pb1, (i : Int), 1, 1⟩ : Port)] j default, show (((xs ++ [(⟨(c.links.getD i default).pa0, (i : Int), 0, 0⟩ : Port)]) ++ [(⟨(c.links.getD i default).pa1, (i : Int), 1, 0⟩ : Port)]) ++ [(⟨(c.links.getD i default).pb0, (i : Int), 0, 1⟩ : Port)]).length = xs.length + 1 + 1 + 1 from (by (try simp only [List.length_set, List.length_replicate, List.length_append, List.length_cons, List.length_nil]) <;> omega)]; split <;> first | rfl | (rename_i hjn; rw [show j - (xs.length + 1 + 1 + 1) = 0 by omega]; rfl)) ?_
     refine PL.rw 1 [1, 5, 6, 8, 16, 17, 18, 24, 25, 34, 35] 9 trivial ?_
     refine PL.nil ?_
     show PW _ _ _ _ _
     refine PW.rr [1, 5, 6, 8, 16, 17, 18, 24, 25, 34, 35] 9 trivial ?_
     show PR _ _ _ _ _ _
     refine PR.succ ?_
     refine PW.sr [1, 5, 6, 8, 16, 17, 18, 24, 25, 34, 35, 36] 9 trivial ?_
     refine PW.seq ?_
     refine PW.cd false (fun hz19 => by cases hz19) (fun hz19 => ?_)
     refine PW.exit ?_
     show PW _ _ _ _ _
     refine PW.rr [1, 5, 6, 16, 17, 18, 24, 25] 9 trivial ?_
     show PR _ _ _ _ _ _
     refine PR.succ ?_
     refine PW.sr [1, 5, 6, 16, 17, 18, 24, 25, 26] 9 trivial ?_
     refine PW.seq ?_
     refine PW.cd false (fun hz20 => by cases hz20) (fun hz20 => ?_)
     refine PW.exit ?_
     show PW _ _ _ _ _
     refine PW.rr [1, 5, 16, 17, 18] 9 trivial ?_
     refine BackR.of (s1 := { tab := [⟨1, [], I part⟩, ⟨5, [], D.h 1 (xs.length + 1 + 1 + 1 + 1)⟩, ⟨16, [], sl' 6 Link.d c.links⟩, ⟨17, [], I (c.links.length : Int)⟩, ⟨18, [], I (IntKind.i64.wrap ((i : Int) + 1))⟩], mem := [Obj.var 25 (Config.d c), Obj.row 117 4 (xs.length + 1 + 1 + 1 + 1) (fun j => [I ((((((xs ++ [(⟨(c.links.getD i default).pa0, (i : Int), 0, 0⟩ : Port)]) ++ [(⟨(c.links.getD i default).pa1, (i : Int), 1, 0⟩ : Port)]) ++ [(⟨(c.links.getD i default).pb0, (i : Int), 0, 1⟩ : Port)]) ++ [(⟨(c.links.getD i default).pb1, (i : Int), 1, 1⟩ : Port)]).getD j default).node), I ((((((xs ++ [(⟨(c.links.getD i default).pa0, (i : Int), 0, 0⟩ : Port)]) ++ [(⟨(c.links.getD i default).pa1, (i : Int), 1, 0⟩ : Port)]) ++ [(⟨(c.links.getD i default).pb0, (i : Int), 0, 1⟩ : Port)]) ++ [(⟨(c.links.getD i default).pb1, (i : Int), 1, 1⟩ : Port)]).getD j default).link), I ((((((xs ++ [(⟨(c.links.getD i default).pa0, (i : Int), 0, 0⟩ : Port)]) ++ [(⟨(c.links.getD i default).pa1, (i : Int), 1, 0⟩ : Port)]) ++ [(⟨(c.links.getD i default).pb0, (i : Int), 0, 1⟩ : Port)]) ++ [(⟨(c.links.getD i default).pb1, (i : Int), 1, 1⟩ : Port)]).getD j default).gate), I ((((((xs ++ [(⟨(c.links.getD i default).pa0, (i : Int), 0, 0⟩ : Port)]) ++ [(⟨(c.links.getD i default).pa1, (i : Int), 1, 0⟩ : Port)]) ++ [(⟨(c.links.getD i default).pb0, (i : Int), 0, 1⟩ : Port)]) ++ [(⟨(c.links.getD i default).pb1, (i : Int), 1, 1⟩ : Port)]).getD j default).side)])], gl := (errG2 e) }) (i + 1, (((xs ++ [(⟨(c.links.getD i default).pa0, (i : Int), 0, 0⟩ : Port)]) ++ [(⟨(c.links.getD i default).pa1, (i : Int), 1, 0⟩ : Port)]) ++ [(⟨(c.links.getD i default).pb0, (i : Int), 0, 1⟩ : Port)]) ++ [(⟨(c.links.getD i default).pb1, (i : Int), 1, 1⟩ : Port)]) (by kernel_rfl) (by kernel_rfl) ?_ ?_ ?_
     ·dsimp only
      rw [wrap1 i (by omega)]
      try simp only [List.length_append, List.length_singleton]
      exact Rem.refl _
     ·dsimp only
      exact ⟨by omega, by rw [rawN, ← hinv.2]; unfold portsAt; simp_all⟩
     ·dsimp only
      ((repeat' (first | intro _ | refine And.intro ?_ ?_)) <;> first | omega | trivial | assumption | (rename_i hgd; simp only [Bool.and_eq_true, decide_eq_true_eq, and_true] at hgd; omega))
  ·try simp only [boolS, isB_true, isB_false] at hz1
   refine PW.exit ?_
   show PW _ _ _ _ _
   refine PW.sg ?_
   refine PL.rw 1 [5, 50] 2 trivial ?_
   refine PL.cm (G := (errG2 e)) (f := 86) (ds := [D.h 0 xs.length, D.v (.func (.func 87) #[] #[])]) (ob := Obj.row 117 4 xs.length (fun j => [I ((xs.getD j default).node), I ((xs.getD j default).link), I ((xs.getD j default).gate), I ((xs.getD j default).side)])) 1 (PM.more (sortFunc_pm xs xs.length rfl (by rw [hinv.2, show i = c.links.length by omega]; exact raw_len hq part))) ?_
   rintro _ _ ⟨rfl, ys, rfl, hp, hs⟩
   refine PL.nl ?_
   refine PW.sr [4] 2 trivial ?_
   refine PW.ret ?_
   refine retQ_ret (d := D.s xs.length 4 (fun j => [I ((ys.getD j default).node), I ((ys.getD j default).link), I ((ys.getD j default).gate), I ((ys.getD j default).side)])) (ps := [xs.length ≤ xs.length]) (by kernel_rfl) (show (xs.length ≤ xs.length) from by ((repeat' (first | intro _ | refine And.intro ?_ ?_)) <;> first | omega | trivial | assumption | (rename_i hgd; simp only [Bool.and_eq_true, decide_eq_true_eq, and_true] at hgd; omega))) ?_
   left
   have hxs : xs = rawN c.links part c.links.length := by rw [hinv.2, show i = c.links.length by omega]
   have e : ys = portsOf c part := sorted_ports hq (by rw [hxs] at hp; exact hp) hp.length_eq hs
   unfold sl'
   rw [← e, hp.length_eq]
   rfl
 ·skip
  refine PW.region ?_
  refine PL.rw 1 [1, 2, 12] 1 trivial ?_
  refine PL.gc (d := D.i 90 (D.q [D.v (.iface 152 (.pointer (some (e (kOf (checkP c).1))))), I ((checkP c).2)] 0)) (A := []) (fun _ => ((plan_check_pc e c hp0 hl0).weak (errG_sub e)).eq (faultD_some hq)) ?_
  refine PL.rw 1 [1, 2, 14] 1 trivial ?_
  refine PL.nil ?_
  show PW _ _ _ _ _
  refine PW.cd true (fun hz21 => ?_) (fun hz21 => by cases hz21)
  refine PW.sr [4] 1 trivial ?_
  refine PW.ret ?_
  refine retQ_ret (d := D.v (.slice none 0 0)) (ps := []) (by kernel_rfl) trivial ?_
  exact .inr ⟨rfl, if_neg fun h => hq h.1⟩
end Go.Proofs.YtleflkgdbagmnaaGreatDoor.Pl
