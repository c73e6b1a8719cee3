/- The document's own small functions of chapter 5. -/
import Derived.Test.YtagdeldgpkjjjaaDoorPlDef
namespace Go.Proofs.YtagdeldgpkjjjaaDoor.Pl
open Go.RowKit Go.Proofs.YtagdeldgpkjjjaaDoor.Sm Go.Proofs.YtagdeldgpkjjjaaDoor.Dp
set_option maxHeartbeats 4000000
set_option maxRecDepth 100000
set_option linter.unusedVariables false
set_option linter.unusedSimpArgs false
/-- is a number one of so many? -/
def isB (i n : Int) : Bool := decide (i ≥ 0) && decide (i < n)
theorem isB_true (i n : Int) : (isB i n = true) = (0 ≤ i ∧ i < n) := by simp [isB]
theorem isB_false (i n : Int) : (isB i n = false) = ¬ (0 ≤ i ∧ i < n) := by rw [← isB_true]; simp
theorem wrap1 (i : Nat) (h : i < 4611686018427387904) : IntKind.i64.wrap ((i : Int) + 1) = ((i + 1 : Nat) : Int) := by rw [Ev.wrap_i64 (by omega) (by omega)]; omega
theorem drumlineref5_is_pc (i n : Int) : PC Tryd.prog [] 36 [I i, I n] (· = D.v (.bool (isB i n))) := by
 refine PC.of (N := 12) Tryd.func36 rfl rfl (Nat.le_of_ble_eq_true rfl) ?_
 refine PW.sr [0, 1] 0 trivial ?_
 refine PW.sr [4] 0 trivial ?_
 refine PW.ret ?_
 refine retQ_ret (d := D.v (.bool ((decide (i ≥ (0 : Int))) && (decide (i < n))))) (ps := []) (by kernel_rfl) trivial ?_
 rfl
/-- the port of a node at a link. -/
def portAt (l : Link) (i : Nat) (part node : Int) : Option Port :=
  if l.a = part ∧ l.pa0 = node then some ⟨node, i, 0, 0⟩
  else if l.b = part ∧ l.pb0 = node then some ⟨node, i, 0, 1⟩
  else if l.a = part ∧ l.pa1 = node then some ⟨node, i, 1, 0⟩
  else if l.b = part ∧ l.pb1 = node then some ⟨node, i, 1, 1⟩ else none
/-- .. of the first n links. -/
def portP (ls : List Link) (part node : Int) : Nat → Option Port
  | 0 => none
  | n + 1 => match portP ls part node n with
    | some p => some p
    | none => portAt (ls.getD n default) n part node
def portD (o : Option Port) : D := D.t [D.r (Port.d (o.getD ⟨0, 0, 0, 0⟩)), D.v (.bool o.isSome)]
theorem portP_more {ls : List Link} {part node : Int} {n : Nat} {p : Port} (h : portP ls part node n = some p) : ∀ m, n ≤ m → portP ls part node m = some p
  | 0, hm => by
    have : n = 0 := by omega
    subst this
    exact h
  | m + 1, hm => by
    rcases Nat.lt_or_ge m n with h1 | h1
    · have : n = m + 1 := by omega
      subst this
      exact h
    · simp only [portP, portP_more h m h1]
theorem port_yes {ls : List Link} {part node : Int} {i n : Nat} {p : Port} (h : portP ls part node i = none) (ha : portAt (ls.getD i default) i part node = some p) (hi : i < n) : portP ls part node n = some p :=
  portP_more (n := i + 1) (by simp only [portP, h, ha]) n hi
theorem drumlineref5_port_pc (c : Config) (n : Nat) (part node : Int) (hn : n ≤ c.links.length) (hs : c.links.length < 1000000) : PC Tryd.prog [] 57 [D.r (Config.d c), I (n : Int), I part, I node] (· = portD (portP c.links part node n)) := by
 refine PC.of (N := 60) Tryd.func57 rfl rfl (Nat.le_of_ble_eq_true rfl) ?_
 refine PW.sr [1, 2, 3, 4, 8] 2 trivial ?_
 refine PW.seq ?_
 refine PW.sr [1, 2, 3, 4, 8, 10] 2 trivial ?_
 refine PW.block ?_
 refine PW.lp (α := Nat) (fun i => { tab := [⟨1, [], I (n : Int)⟩, ⟨2, [], I part⟩, ⟨3, [], I node⟩, ⟨4, [], D.p 0 0 0 0⟩, ⟨8, [], D.p 1 0 0 0⟩, ⟨10, [], I (i : Int)⟩], mem := [Obj.var 26 (Config.d c), Obj.var 108 [I 0, I 0, I 0, I 0]] }) (fun i => i ≤ n ∧ portP c.links part node i = none) (fun i => n - i) [1, 2, 3, 4, 8, 10] 2 (0) ?_ ?_
 ·exact ⟨Nat.zero_le _, rfl⟩
 rintro i hinv
 show PW _ _ _ _ _
 refine PW.seq ?_
 refine PW.sr [1, 2, 3, 4, 8, 10, 15] 2 trivial ?_
 refine PW.cd (decide ((i : Int) < (n : Int))) (fun hz0 => ?_) (fun hz0 => ?_)
 ·try simp only [boolS] at hz0
  refine PW.skip ?_
  show PW _ _ _ _ _
  refine PW.seq ?_
  refine PW.block ?_
  refine PW.sr [1, 2, 3, 4, 8, 10, 11] 3 (p := (0 ≤ (i : Int) ∧ (i : Int) < (c.links.length : Int))) (by omega) ?_
  refine PW.sr [1, 2, 3, 4, 8, 10, 11, 12] 3 trivial ?_
  refine PW.block ?_
  refine PW.rounds 3 ?_
  refine PR.succ ?_
  refine PW.seq ?_
  refine PW.sr [1, 2, 3, 4, 8, 10, 11, 12, 24] 3 trivial ?_
  refine PW.cd true (fun hz1 => ?_) (fun hz1 => by cases hz1)
  refine PW.skip ?_
  show PW _ _ _ _ _
  refine PW.seq ?_
  refine PW.block ?_
  refine PW.seq ?_
  refine PW.sr [1, 2, 3, 4, 8, 10, 11, 12, 38] 3 (p := (((((c.links.getD i default).a) == part) = true ∧ True → 0 ≤ (0 : Int) ∧ (0 : Int) < ((2 : Nat) : Int)))) (by ((repeat' (first | intro _ | refine And.intro ?_ ?_)) <;> first | omega | trivial | assumption | (rename_i hgd; simp only [Bool.and_eq_true, decide_eq_true_eq, and_true] at hgd; omega))) ?_
  refine PW.cd ((((c.links.getD i default).a) == part) && (((c.links.getD i default).pa0) == node)) (fun hz2 => ?_) (fun hz2 => ?_)
  ·try simp only [boolS] at hz2
   refine PW.sr [8, 9] 3 trivial ?_
   refine PW.ret ?_
   refine retQ_ret (d := D.t [D.r [I node, I (i : Int), I 0, I 0], D.v (.bool true)]) (ps := []) (by kernel_rfl) trivial ?_
   rw [port_yes hinv.2 (p := ⟨node, i, 0, 0⟩) (by unfold portAt; grind) (by omega)]
   rfl
  ·try simp only [boolS] at hz2
   refine PW.skip ?_
   show PW _ _ _ _ _
   refine PW.sr [1, 2, 3, 4, 8, 10, 11, 12, 54] 3 (p := (((((c.links.getD i default).b) == part) = true ∧ True → 0 ≤ (0 : Int) ∧ (0 : Int) < ((2 : Nat) : Int)))) (by ((repeat' (first | intro _ | refine And.intro ?_ ?_)) <;> first | omega | trivial | assumption | (rename_i hgd; simp only [Bool.and_eq_true, decide_eq_true_eq, and_true] at hgd; omega))) ?_
   refine PW.cd ((((c.links.getD i default).b) == part) && (((c.links.getD i default).pb0) == node)) (fun hz3 => ?_) (fun hz3 => ?_)
   ·try simp only [boolS] at hz3
    refine PW.sr [8, 9] 3 trivial ?_
    refine PW.ret ?_
    refine retQ_ret (d := D.t [D.r [I node, I (i : Int), I 0, I 1], D.v (.bool true)]) (ps := []) (by kernel_rfl) trivial ?_
    rw [port_yes hinv.2 (p := ⟨node, i, 0, 1⟩) (by unfold portAt; grind) (by omega)]
    rfl
   ·try simp only [boolS] at hz3
    refine PW.skip ?_
    show PW _ _ _ _ _
    refine PW.rr [1, 2, 3, 4, 8, 10, 11, 12] 3 trivial ?_
    show PR _ _ _ _ _ _
    refine PR.succ ?_
    refine PW.seq ?_
    refine PW.sr [1, 2, 3, 4, 8, 10, 11, 12, 24] 3 trivial ?_
    refine PW.cd true (fun hz4 => ?_) (fun hz4 => by cases hz4)
    refine PW.skip ?_
    show PW _ _ _ _ _
    refine PW.seq ?_
    refine PW.block ?_
    refine PW.seq ?_
    refine PW.sr [1, 2, 3, 4, 8, 10, 11, 12, 38] 3 (p := (((((c.links.getD i default).a) == part) = true ∧ True → 0 ≤ (1 : Int) ∧ (1 : Int) < ((2 : Nat) : Int)))) (by ((repeat' (first | intro _ | refine And.intro ?_ ?_)) <;> first | omega | trivial | assumption | (rename_i hgd; simp only [Bool.and_eq_true, decide_eq_true_eq, and_true] at hgd; omega))) ?_
    refine PW.cd ((((c.links.getD i default).a) == part) && (((c.links.getD i default).pa1) == node)) (fun hz5 => ?_) (fun hz5 => ?_)
    ·try simp only [boolS] at hz5
     refine PW.sr [8, 9] 3 trivial ?_
     refine PW.ret ?_
     refine retQ_ret (d := D.t [D.r [I node, I (i : Int), I 1, I 0], D.v (.bool true)]) (ps := []) (by kernel_rfl) trivial ?_
     rw [port_yes hinv.2 (p := ⟨node, i, 1, 0⟩) (by unfold portAt; grind) (by omega)]
     rfl
    ·try simp only [boolS] at hz5
     refine PW.skip ?_
     show PW _ _ _ _ _
     refine PW.sr [1, 2, 3, 4, 8, 10, 11, 12, 54] 3 (p := (((((c.links.getD i default).b) == part) = true ∧ True → 0 ≤ (1 : Int) ∧ (1 : Int) < ((2 : Nat) : Int)))) (by ((repeat' (first | intro _ | refine And.intro ?_ ?_)) <;> first | omega | trivial | assumption | (rename_i hgd; simp only [Bool.and_eq_true, decide_eq_true_eq, and_true] at hgd; omega))) ?_
     refine PW.cd ((((c.links.getD i default).b) == part) && (((c.links.getD i default).pb1) == node)) (fun hz6 => ?_) (fun hz6 => ?_)
     ·try simp only [boolS] at hz6
      refine PW.sr [8, 9] 3 trivial ?_
      refine PW.ret ?_
      refine retQ_ret (d := D.t [D.r [I node, I (i : Int), I 1, I 1], D.v (.bool true)]) (ps := []) (by kernel_rfl) trivial ?_
      rw [port_yes hinv.2 (p := ⟨node, i, 1, 1⟩) (by unfold portAt; grind) (by omega)]
      rfl
     ·try simp only [boolS] at hz6
      refine PW.skip ?_
      show PW _ _ _ _ _
      refine PW.rr [1, 2, 3, 4, 8, 10, 11, 12] 3 trivial ?_
      show PR _ _ _ _ _ _
      refine PR.succ ?_
      refine PW.seq ?_
      refine PW.sr [1, 2, 3, 4, 8, 10, 11, 12, 24] 3 trivial ?_
      refine PW.cd false (fun hz7 => by cases hz7) (fun hz7 => ?_)
      refine PW.exit ?_
      show PW _ _ _ _ _
      refine PW.rr [1, 2, 3, 4, 8, 10] 3 trivial ?_
      refine BackR.of (s1 := { tab := [⟨1, [], I (n : Int)⟩, ⟨2, [], I part⟩, ⟨3, [], I node⟩, ⟨4, [], D.p 0 0 0 0⟩, ⟨8, [], D.p 1 0 0 0⟩, ⟨10, [], I (IntKind.i64.wrap ((i : Int) + 1))⟩], mem := [Obj.var 26 (Config.d c), Obj.var 108 [I 0, I 0, I 0, I 0]] }) (i + 1) (by kernel_rfl) (by kernel_rfl) ?_ ?_ ?_
      ·rw [wrap1 i (by omega)]
       exact Rem.refl _
      ·exact ⟨by omega, by simp only [portP, hinv.2]; unfold portAt; grind⟩
      ·((repeat' (first | intro _ | refine And.intro ?_ ?_)) <;> first | omega | trivial | assumption | (rename_i hgd; simp only [Bool.and_eq_true, decide_eq_true_eq, and_true] at hgd; omega))
 ·try simp only [boolS] at hz0
  refine PW.exit ?_
  show PW _ _ _ _ _
  refine PW.sr [8, 9] 2 trivial ?_
  refine PW.ret ?_
  refine retQ_ret (d := D.t [D.r [I 0, I 0, I 0, I 0], D.v (.bool false)]) (ps := []) (by kernel_rfl) trivial ?_
  rw [show n = i by omega, hinv.2]
  rfl
end Go.Proofs.YtagdeldgpkjjjaaDoor.Pl
