/- Package plan's sound, ends, taken, free. -/
import Derived.Test.YtagdeldgpkjjjaaDoorPlSix
namespace Go.Proofs.YtagdeldgpkjjjaaDoor.Pl
open Go.RowKit Go.Proofs.YtagdeldgpkjjjaaDoor.Sm Go.Proofs.YtagdeldgpkjjjaaDoor.Dp
set_option maxHeartbeats 4000000
set_option maxRecDepth 100000
set_option linter.unusedVariables false
set_option linter.unusedSimpArgs false
/-- are two nodes at one end of a link wrong, of a part of so many nodes, with the first n links ahead of it? -/
def endsQ (nodes : Int) (ls : List Link) (n : Nat) (part p0 p1 : Int) : Bool :=
  (p0 == p1) || (!isB p0 nodes || (portP ls part p0 n).isSome) || (!isB p1 nodes || (portP ls part p1 n).isSome)
theorem endsQ_eq (c : Config) (i : Nat) (part p0 p1 : Int) : endsB c i part p0 p1 = endsQ (c.parts.getD part.toNat default).nodes c.links i part p0 p1 := rfl
theorem portP_snoc {ls : List Link} {part node : Int} {n : Nat} (h : portP ls part node n = none) (ha : portAt (ls.getD n default) n part node = none) : portP ls part node (n + 1) = none := by simp only [portP, h, ha]
theorem plan_sound_pc (p : Part) : PC Tryd.prog [] 43 [D.r (Part.d p)] (· = D.v (.bool (!unsoundB p))) := by
 refine PC.of (N := 30) Tryd.func43 rfl rfl (Nat.le_of_ble_eq_true rfl) ?_
 refine PW.sr [1] 1 trivial ?_
 refine PW.sr [2] 1 trivial ?_
 refine PW.ret ?_
 refine retQ_ret (d := D.v (.bool (((((decide (p.nodes ≥ (1 : Int))) && (decide (p.nodes ≤ (12 : Int)))) && (decide (p.faults ≥ (0 : Int)))) && (decide (p.faults ≤ (3 : Int)))) && (decide (p.nodes ≥ (IntKind.i64.wrap ((IntKind.i64.wrap (3 * p.faults)) + 1))))))) (ps := []) (by kernel_rfl) trivial ?_
 refine congrArg (fun b => D.v (.bool b)) ?_
 by_cases hf : 0 ≤ p.faults ∧ p.faults ≤ 3
 · rw [wrapF _ hf]; unfold unsoundB; grind
 · unfold unsoundB; grind
theorem plan_ends_pc (l : Link) : PC Tryd.prog [] 49 [D.r (Link.d l)] (· = D.r [I l.a, I l.pa0, I l.pa1, I l.b, I l.pb0, I l.pb1]) := by
 refine PC.of (N := 14) Tryd.func49 rfl rfl (Nat.le_of_ble_eq_true rfl) ?_
 refine PW.sr [1, 2] 2 trivial ?_
 refine PW.sr [2] 2 trivial ?_
 refine PW.ret ?_
 refine retQ_ret (d := D.r [I l.a, I l.pa0, I l.pa1, I l.b, I l.pb0, I l.pb1]) (ps := []) (by kernel_rfl) trivial ?_
 rfl
theorem plan_taken_pc (ls : List Link) (n : Nat) (part node : Int) (hn : n ≤ ls.length) (hs : ls.length < 1000000) : PC Tryd.prog [] 58 [I part, I node, D.s n 6 (fun i => Link.d (ls.getD i default))] (· = D.v (.bool (portP ls part node n).isSome)) := by
 refine PC.of (N := 42) Tryd.func58 rfl rfl (Nat.le_of_ble_eq_true rfl) ?_
 refine PW.sr [0, 1, 2] 0 trivial ?_
 refine PW.seq ?_
 refine PW.sr [0, 1, 11, 12, 13] 0 trivial ?_
 refine PW.block ?_
 refine PW.lp (α := Nat) (fun i => { tab := [⟨0, [], I part⟩, ⟨1, [], I node⟩, ⟨11, [], D.s n 6 (fun i => Link.d (ls.getD i default))⟩, ⟨12, [], I (n : Int)⟩, ⟨13, [], I (i : Int)⟩], mem := [] }) (fun i => i ≤ n ∧ portP ls part node i = none) (fun i => n - i) [0, 1, 11, 12, 13] 0 (0) ?_ ?_
 ·exact ⟨Nat.zero_le _, rfl⟩
 rintro i hinv
 show PW _ _ _ _ _
 refine PW.sr [0, 1, 11, 12, 13, 14] 0 trivial ?_
 refine PW.seq ?_
 refine PW.cd (decide ((i : Int) < (n : Int))) (fun hz0 => ?_) (fun hz0 => ?_)
 ·try simp only [boolS, isB_true, isB_false] at hz0
  refine PW.skip ?_
  show PW _ _ _ _ _
  refine PW.seq ?_
  refine PW.block ?_
  refine PW.sr [0, 1, 8, 11, 12, 13] 1 (p := (0 ≤ (i : Int) ∧ (i : Int) < (n : Int))) (by omega) ?_
  refine PW.sg ?_
  refine PL.rw 1 [0, 1, 11, 12, 13, 17] 1 trivial ?_
  refine PL.gc (A := []) (fun _ => plan_ends_pc (ls.getD i default)) ?_
  refine PL.rw 1 [0, 1, 11, 12, 13, 18, 19] 1 trivial ?_
  refine PL.nl ?_
  refine PW.block ?_
  refine PW.rounds 3 ?_
  refine PR.succ ?_
  refine PW.sr [0, 1, 11, 12, 13, 18, 19, 20] 1 trivial ?_
  refine PW.seq ?_
  refine PW.cd true (fun hz1 => ?_) (fun hz1 => by cases hz1)
  refine PW.skip ?_
  show PW _ _ _ _ _
  refine PW.seq ?_
  refine PW.block ?_
  refine PW.sr [0, 1, 10, 11, 12, 13, 18, 19] 2 (p := (0 ≤ (0 : Int) ∧ (0 : Int) < ((2 : Nat) : Int))) (by omega) ?_
  refine PW.sr [0, 1, 11, 12, 13, 18, 19, 39] 2 (p := (((((ls.getD i default).a) == part) = true ∧ True → 0 ≤ (0 : Int) ∧ (0 : Int) < ((2 : Nat) : Int))) ∧ (((((ls.getD i default).pa0) == node) = false ∧ (((ls.getD i default).a) == part) = true ∧ True → 0 ≤ (1 : Int) ∧ (1 : Int) < ((2 : Nat) : Int)))) (by ((repeat' (first | intro _ | refine And.intro ?_ ?_)) <;> first | omega | trivial | assumption | (rename_i hgd; simp only [Bool.and_eq_true, decide_eq_true_eq, and_true] at hgd; omega))) ?_
  refine PW.cd ((((ls.getD i default).a) == part) && ((((ls.getD i default).pa0) == node) || (((ls.getD i default).pa1) == node))) (fun hz2 => ?_) (fun hz2 => ?_)
  ·try simp only [boolS, isB_true, isB_false] at hz2
   refine PW.sr [6] 2 trivial ?_
   refine PW.ret ?_
   refine retQ_ret (d := D.v (.bool true)) (ps := []) (by kernel_rfl) trivial ?_
   refine congrArg (fun b => D.v (.bool b)) ?_
   obtain ⟨p, hp⟩ := Option.isSome_iff_exists.1 (show (portAt (ls.getD i default) i part node).isSome = true by unfold portAt; grind)
   rw [port_yes hinv.2 hp (by omega)]
   rfl
  ·try simp only [boolS, isB_true, isB_false] at hz2
   refine PW.skip ?_
   show PW _ _ _ _ _
   refine PW.rr [0, 1, 11, 12, 13, 18, 19] 2 trivial ?_
   show PR _ _ _ _ _ _
   refine PR.succ ?_
   refine PW.sr [0, 1, 11, 12, 13, 18, 19, 20] 2 trivial ?_
   refine PW.seq ?_
   refine PW.cd true (fun hz3 => ?_) (fun hz3 => by cases hz3)
   refine PW.skip ?_
   show PW _ _ _ _ _
   refine PW.seq ?_
   refine PW.block ?_
   refine PW.sr [0, 1, 10, 11, 12, 13, 18, 19] 3 (p := (0 ≤ (1 : Int) ∧ (1 : Int) < ((2 : Nat) : Int))) (by omega) ?_
   refine PW.sr [0, 1, 11, 12, 13, 18, 19, 39] 3 (p := (((((ls.getD i default).b) == part) = true ∧ True → 0 ≤ (0 : Int) ∧ (0 : Int) < ((2 : Nat) : Int))) ∧ (((((ls.getD i default).pb0) == node) = false ∧ (((ls.getD i default).b) == part) = true ∧ True → 0 ≤ (1 : Int) ∧ (1 : Int) < ((2 : Nat) : Int)))) (by ((repeat' (first | intro _ | refine And.intro ?_ ?_)) <;> first | omega | trivial | assumption | (rename_i hgd; simp only [Bool.and_eq_true, decide_eq_true_eq, and_true] at hgd; omega))) ?_
   refine PW.cd ((((ls.getD i default).b) == part) && ((((ls.getD i default).pb0) == node) || (((ls.getD i default).pb1) == node))) (fun hz4 => ?_) (fun hz4 => ?_)
   ·try simp only [boolS, isB_true, isB_false] at hz4
    refine PW.sr [6] 3 trivial ?_
    refine PW.ret ?_
    refine retQ_ret (d := D.v (.bool true)) (ps := []) (by kernel_rfl) trivial ?_
    refine congrArg (fun b => D.v (.bool b)) ?_
    obtain ⟨p, hp⟩ := Option.isSome_iff_exists.1 (show (portAt (ls.getD i default) i part node).isSome = true by unfold portAt; grind)
    rw [port_yes hinv.2 hp (by omega)]
    rfl
   ·try simp only [boolS, isB_true, isB_false] at hz4
    refine PW.skip ?_
    show PW _ _ _ _ _
    refine PW.rr [0, 1, 11, 12, 13, 18, 19] 3 trivial ?_
    show PR _ _ _ _ _ _
    refine PR.succ ?_
    refine PW.sr [0, 1, 11, 12, 13, 18, 19, 20] 3 trivial ?_
    refine PW.seq ?_
    refine PW.cd false (fun hz5 => by cases hz5) (fun hz5 => ?_)
    refine PW.exit ?_
    show PW _ _ _ _ _
    refine PW.rr [0, 1, 11, 12, 13] 3 trivial ?_
    refine BackR.of (s1 := { tab := [⟨0, [], I part⟩, ⟨1, [], I node⟩, ⟨11, [], D.s n 6 (fun i => Link.d (ls.getD i default))⟩, ⟨12, [], I (n : Int)⟩, ⟨13, [], I (IntKind.i64.wrap ((i : Int) + 1))⟩], mem := [] }) (i + 1) (by kernel_rfl) (by kernel_rfl) ?_ ?_ ?_
    ·rw [wrap1 i (by omega)]
     exact Rem.refl _
    ·exact ⟨by omega, portP_snoc hinv.2 (by unfold portAt; grind)⟩
    ·((repeat' (first | intro _ | refine And.intro ?_ ?_)) <;> first | omega | trivial | assumption | (rename_i hgd; simp only [Bool.and_eq_true, decide_eq_true_eq, and_true] at hgd; omega))
 ·try simp only [boolS, isB_true, isB_false] at hz0
  refine PW.exit ?_
  show PW _ _ _ _ _
  refine PW.sr [6] 0 trivial ?_
  refine PW.ret ?_
  refine retQ_ret (d := D.v (.bool false)) (ps := []) (by kernel_rfl) trivial ?_
  refine congrArg (fun b => D.v (.bool b)) ?_
  rw [show n = i by omega, hinv.2]
  rfl
theorem plan_free_pc (p : Part) (ls : List Link) (n : Nat) (part p0 p1 : Int) (hn : n ≤ ls.length) (hs : ls.length < 1000000) : PC Tryd.prog [] 50 [D.r (Part.d p), D.r [I part, I p0, I p1], D.s n 6 (fun i => Link.d (ls.getD i default))] (· = D.v (.bool (!endsQ p.nodes ls n part p0 p1))) := by
 refine PC.of (N := 37) Tryd.func50 rfl rfl (Nat.le_of_ble_eq_true rfl) ?_
 refine PW.sr [2, 3, 4] 2 trivial ?_
 refine PW.seq ?_
 refine PW.sr [2, 3, 4, 15] 2 (p := (0 ≤ (0 : Int) ∧ (0 : Int) < ((2 : Nat) : Int)) ∧ (0 ≤ (1 : Int) ∧ (1 : Int) < ((2 : Nat) : Int))) (by omega) ?_
 refine PW.cd (p0 == p1) (fun hz0 => ?_) (fun hz0 => ?_)
 ·try simp only [boolS, isB_true, isB_false] at hz0
  refine PW.sr [6] 2 trivial ?_
  refine PW.ret ?_
  refine retQ_ret (d := D.v (.bool false)) (ps := []) (by kernel_rfl) trivial ?_
  refine congrArg (fun b => D.v (.bool b)) ?_
  unfold endsQ isB
  grind
 ·try simp only [boolS, isB_true, isB_false] at hz0
  refine PW.skip ?_
  show PW _ _ _ _ _
  refine PW.seq ?_
  refine PW.sr [2, 3, 4, 17, 18] 2 trivial ?_
  refine PW.block ?_
  refine PW.rounds 3 ?_
  refine PR.succ ?_
  refine PW.sr [2, 3, 4, 17, 18, 19] 2 trivial ?_
  refine PW.seq ?_
  refine PW.cd true (fun hz1 => ?_) (fun hz1 => by cases hz1)
  refine PW.skip ?_
  show PW _ _ _ _ _
  refine PW.seq ?_
  refine PW.block ?_
  refine PW.sr [2, 3, 4, 8, 17, 18] 2 (p := (0 ≤ (0 : Int) ∧ (0 : Int) < ((2 : Nat) : Int))) (by omega) ?_
  refine PW.sg ?_
  refine PL.rw 13 [2, 3, 4, 17, 18, 29, 31, 32, 33] 2 trivial ?_
  refine PL.gc (A := [(29, false)]) (fun _ => plan_taken_pc ls n part p0 (by omega) (by omega)) ?_
  refine PL.rw 1 [2, 3, 4, 17, 18, 35] 2 trivial ?_
  refine PL.nl ?_
  refine PW.cd (((decide (p0 < (0 : Int))) || (decide (p0 ≥ p.nodes))) || ((portP ls part p0 n).isSome)) (fun hz2 => ?_) (fun hz2 => ?_)
  ·try simp only [boolS, isB_true, isB_false] at hz2
   refine PW.sr [6] 2 trivial ?_
   refine PW.ret ?_
   refine retQ_ret (d := D.v (.bool false)) (ps := []) (by kernel_rfl) trivial ?_
   refine congrArg (fun b => D.v (.bool b)) ?_
   unfold endsQ isB
   grind
  ·try simp only [boolS, isB_true, isB_false] at hz2
   refine PW.skip ?_
   show PW _ _ _ _ _
   refine PW.rr [2, 3, 4, 17, 18] 2 trivial ?_
   show PR _ _ _ _ _ _
   refine PR.succ ?_
   refine PW.sr [2, 3, 4, 17, 18, 19] 2 trivial ?_
   refine PW.seq ?_
   refine PW.cd true (fun hz3 => ?_) (fun hz3 => by cases hz3)
   refine PW.skip ?_
   show PW _ _ _ _ _
   refine PW.seq ?_
   refine PW.block ?_
   refine PW.sr [2, 3, 4, 8, 17, 18] 2 (p := (0 ≤ (1 : Int) ∧ (1 : Int) < ((2 : Nat) : Int))) (by omega) ?_
   refine PW.sg ?_
   refine PL.rw 13 [2, 3, 4, 17, 18, 29, 31, 32, 33] 2 trivial ?_
   refine PL.gc (A := [(29, false)]) (fun _ => plan_taken_pc ls n part p1 (by omega) (by omega)) ?_
   refine PL.rw 1 [2, 3, 4, 17, 18, 35] 2 trivial ?_
   refine PL.nl ?_
   refine PW.cd (((decide (p1 < (0 : Int))) || (decide (p1 ≥ p.nodes))) || ((portP ls part p1 n).isSome)) (fun hz4 => ?_) (fun hz4 => ?_)
   ·try simp only [boolS, isB_true, isB_false] at hz4
    refine PW.sr [6] 2 trivial ?_
    refine PW.ret ?_
    refine retQ_ret (d := D.v (.bool false)) (ps := []) (by kernel_rfl) trivial ?_
    refine congrArg (fun b => D.v (.bool b)) ?_
    unfold endsQ isB
    grind
   ·try simp only [boolS, isB_true, isB_false] at hz4
    refine PW.skip ?_
    show PW _ _ _ _ _
    refine PW.rr [2, 3, 4, 17, 18] 2 trivial ?_
    show PR _ _ _ _ _ _
    refine PR.succ ?_
    refine PW.sr [2, 3, 4, 17, 18, 19] 2 trivial ?_
    refine PW.seq ?_
    refine PW.cd false (fun hz5 => by cases hz5) (fun hz5 => ?_)
    refine PW.exit ?_
    show PW _ _ _ _ _
    refine PW.sr [6] 2 trivial ?_
    refine PW.ret ?_
    refine retQ_ret (d := D.v (.bool true)) (ps := []) (by kernel_rfl) trivial ?_
    refine congrArg (fun b => D.v (.bool b)) ?_
    unfold endsQ isB
    grind
end Go.Proofs.YtagdeldgpkjjjaaDoor.Pl
