/- Package plan's apart. -/
import Derived.Test.YtleflkgdbagmnaaGreatDoorPlSeven
namespace Go.Proofs.YtleflkgdbagmnaaGreatDoor.Pl
open Go.RowKit Go.Proofs.YtleflkgdbagmnaaGreatDoor.Sm Go.Proofs.YtleflkgdbagmnaaGreatDoor.Dp
set_option maxHeartbeats 4000000
set_option maxRecDepth 100000
set_option linter.unusedVariables false
set_option linter.unusedSimpArgs false
/-- what a link does to what is reached. -/
def join1 (l : Link) (r : List Bool) : List Bool :=
  (r.set l.a.toNat (r.getD l.a.toNat default || r.getD l.b.toNat default)).set l.b.toNat (r.getD l.a.toNat default || r.getD l.b.toNat default)
def joinN (ls : List Link) : Nat → List Bool
  | 0 => [true, false, false, false, false, false]
  | k + 1 => sweep ls join1 (joinN ls k) ls.length
theorem join1_len (l : Link) (r : List Bool) : (join1 l r).length = r.length := by unfold join1; simp
theorem sweepJ_len (ls : List Link) (r : List Bool) : ∀ i, (sweep ls join1 r i).length = r.length
  | 0 => rfl
  | i + 1 => by rw [sweep, join1_len, sweepJ_len]
theorem joinN_len (ls : List Link) : ∀ k, (joinN ls k).length = 6
  | 0 => rfl
  | k + 1 => by rw [joinN, sweepJ_len, joinN_len]
/-- the first part that is not reached. -/
def apartP (c : Config) : Option Nat := findN (fun i => !(joinN c.links c.parts.length).getD i default) c.parts.length
theorem plan_apart_pc (c : Config) (hL : LinksIn c) (hp : c.parts.length ≤ 6) (hs : c.links.length < 1000000) : PC Tryz.prog [] 79 [D.r (Config.d c)] (· = D.t [I (((apartP c).getD 0 : Nat) : Int), D.v (.bool (apartP c).isSome)]) := by
  refine PC.of (N := 54) Tryz.func79 rfl rfl (Nat.le_of_ble_eq_true rfl) ?_
  refine PW.seq ?_
  refine PW.region ?_
  refine PL.rowK 3 [1] 1 (s' := { tab := [⟨1, [], D.p 0 0 0 0⟩], mem := [Obj.var 25 (Config.d c)] }) (p := True) (by kernel_rfl) (by trivial) ?_
  refine PL.nil ?_
  show PW _ _ _ _ _
  refine PW.seq ?_
  refine PW.region ?_
  refine PL.rowK 1 [1, 4] 2 (s' := { tab := [⟨1, [], D.p 0 0 0 0⟩, ⟨4, [], D.p 1 0 0 0⟩], mem := [Obj.var 25 (Config.d c), Obj.var 125 [D.v (.bool false), D.v (.bool false), D.v (.bool false), D.v (.bool false), D.v (.bool false), D.v (.bool false)]] }) (p := True) (by kernel_rfl) (by trivial) ?_
  refine PL.nil ?_
  show PW _ _ _ _ _
  refine PW.seq ?_
  refine PW.region ?_
  refine PL.rowK 2 [1, 4] 2 (s' := { tab := [⟨1, [], D.p 0 0 0 0⟩, ⟨4, [], D.p 1 0 0 0⟩], mem := [Obj.var 25 (Config.d c), Obj.var 125 [D.v (.bool true), D.v (.bool false), D.v (.bool false), D.v (.bool false), D.v (.bool false), D.v (.bool false)]] }) (p := (0 ≤ (0 : Int) ∧ (0 : Int) < ((6 : Nat) : Int))) (by kernel_rfl) (by ((repeat' (first | intro _ | refine And.intro ?_ ?_)) <;> first | omega | trivial | assumption)) ?_
  refine PL.nil ?_
  show PW _ _ _ _ _
  refine PW.seq ?_
  refine PW.seq ?_
  refine PW.sel [1, 4] 2 (s' := _) rfl (by kernel_rfl) ?_
  refine PW.asRow 1 (t := 125) (cs := [D.v (.bool true), D.v (.bool false), D.v (.bool false), D.v (.bool false), D.v (.bool false), D.v (.bool false)]) (f := fun j => [D.v (.bool (([true, false, false, false, false, false]).getD j default))]) (n := 6) (s' := { tab := [⟨1, [], D.p 0 0 0 0⟩, ⟨4, [], D.p 1 0 0 0⟩], mem := [Obj.var 25 (Config.d c), Obj.row 125 1 6 (fun j => [D.v (.bool (([true, false, false, false, false, false]).getD j default))])] }) (by kernel_rfl) (by kernel_rfl) (by decide) (by kernel_rfl) (by kernel_rfl) (fun j hj => match j, hj with | 0, _ => rfl | 1, _ => rfl | 2, _ => rfl | 3, _ => rfl | 4, _ => rfl | 5, _ => rfl | j + 6, hj => absurd hj (by omega)) (by kernel_rfl) ?_
  refine PW.region ?_
  refine PL.rowK 4 [1, 4, 12, 13] 2 (s' := { tab := [⟨1, [], D.p 0 0 0 0⟩, ⟨4, [], D.p 1 0 0 0⟩, ⟨12, [], I (c.parts.length : Int)⟩, ⟨13, [], I 0⟩], mem := [Obj.var 25 (Config.d c), Obj.row 125 1 6 (fun j => [D.v (.bool (([true, false, false, false, false, false]).getD j default))])] }) (p := True) (by kernel_rfl) (by trivial) ?_
  refine PL.nil ?_
  show PW _ _ _ _ _
  refine PW.block ?_
  refine PW.loopR (α := Nat × List Bool) (fun (k, xs) => { tab := [⟨1, [], D.p 0 0 0 0⟩, ⟨4, [], D.p 1 0 0 0⟩, ⟨12, [], I (c.parts.length : Int)⟩, ⟨13, [], I (k : Int)⟩], mem := [Obj.var 25 (Config.d c), Obj.row 125 1 6 (fun j => [D.v (.bool (xs.getD j default))])] }) (fun (k, xs) => k ≤ c.parts.length ∧ xs = joinN c.links k) (fun (k, xs) => c.parts.length - k) [1, 4, 12, 13] 2 (0, joinN c.links 0) (s1 := { tab := [⟨1, [], D.p 0 0 0 0⟩, ⟨4, [], D.p 1 0 0 0⟩, ⟨12, [], I (c.parts.length : Int)⟩, ⟨13, [], I 0⟩], mem := [Obj.var 25 (Config.d c), Obj.row 125 1 6 (fun j => [D.v (.bool (([true, false, false, false, false, false]).getD j default))])] }) (by kernel_rfl) (by kernel_rfl) ?_ ?_ ?_
  · dsimp only
    exact Rem.refl _
  · dsimp only
    exact ⟨Nat.zero_le _, rfl⟩
  rintro ⟨k, xs⟩ hk
  dsimp only at hk
  have hxl : xs.length = 6 := by rw [hk.2, joinN_len]
  show PW _ _ _ _ _
  refine PW.seq ?_
  refine PW.region ?_
  refine PL.rowK 1 [1, 4, 12, 13, 14] 2 (s' := { tab := [⟨1, [], D.p 0 0 0 0⟩, ⟨4, [], D.p 1 0 0 0⟩, ⟨12, [], I (c.parts.length : Int)⟩, ⟨13, [], I (k : Int)⟩, ⟨14, [], D.v (.bool (decide ((k : Int) < (c.parts.length : Int))))⟩], mem := [Obj.var 25 (Config.d c), Obj.row 125 1 6 (fun j => [D.v (.bool (xs.getD j default))])] }) (p := True) (by kernel_rfl) (by trivial) ?_
  refine PL.nil ?_
  show PW _ _ _ _ _
  refine PW.seq ?_
  refine PW.cond (z := (decide ((k : Int) < (c.parts.length : Int)))) (by kernel_rfl) (fun hz0 => ?_) (fun hz0 => ?_)
  · skip
    try simp only [boolS, isB_true, isB_false] at hz0
    try have hl := hL m (by omega)
    refine PW.skip ?_
    show PW _ _ _ _ _
    refine PW.seq ?_
    refine PW.block ?_
    refine PW.seq ?_
    refine PW.region ?_
    refine PL.rowK 4 [1, 4, 12, 13, 16, 17, 18] 2 (s' := { tab := [⟨1, [], D.p 0 0 0 0⟩, ⟨4, [], D.p 1 0 0 0⟩, ⟨12, [], I (c.parts.length : Int)⟩, ⟨13, [], I (k : Int)⟩, ⟨16, [], sl' 6 Link.d c.links⟩, ⟨17, [], I (c.links.length : Int)⟩, ⟨18, [], I 0⟩], mem := [Obj.var 25 (Config.d c), Obj.row 125 1 6 (fun j => [D.v (.bool (xs.getD j default))])] }) (p := True) (by kernel_rfl) (by trivial) ?_
    refine PL.nil ?_
    show PW _ _ _ _ _
    refine PW.block ?_
    refine PW.loopR (α := Nat × List Bool) (fun (m, ys) => { tab := [⟨1, [], D.p 0 0 0 0⟩, ⟨4, [], D.p 1 0 0 0⟩, ⟨12, [], I (c.parts.length : Int)⟩, ⟨13, [], I (k : Int)⟩, ⟨16, [], sl' 6 Link.d c.links⟩, ⟨17, [], I (c.links.length : Int)⟩, ⟨18, [], I (m : Int)⟩], mem := [Obj.var 25 (Config.d c), Obj.row 125 1 6 (fun j => [D.v (.bool (ys.getD j default))])] }) (fun (m, ys) => m ≤ c.links.length ∧ ys = sweep c.links join1 xs m) (fun (m, ys) => c.links.length - m) [1, 4, 12, 13, 16, 17, 18] 2 (0, xs) (s1 := { tab := [⟨1, [], D.p 0 0 0 0⟩, ⟨4, [], D.p 1 0 0 0⟩, ⟨12, [], I (c.parts.length : Int)⟩, ⟨13, [], I (k : Int)⟩, ⟨16, [], sl' 6 Link.d c.links⟩, ⟨17, [], I (c.links.length : Int)⟩, ⟨18, [], I 0⟩], mem := [Obj.var 25 (Config.d c), Obj.row 125 1 6 (fun j => [D.v (.bool (xs.getD j default))])] }) (by kernel_rfl) (by kernel_rfl) ?_ ?_ ?_
    · dsimp only
      exact Rem.refl _
    · dsimp only
      exact ⟨Nat.zero_le _, rfl⟩
    rintro ⟨m, ys⟩ hinv
    dsimp only at hinv
    have hyl : ys.length = 6 := by rw [hinv.2, sweepJ_len, hxl]
    show PW _ _ _ _ _
    refine PW.seq ?_
    refine PW.region ?_
    refine PL.rowK 1 [1, 4, 12, 13, 16, 17, 18, 19] 2 (s' := { tab := [⟨1, [], D.p 0 0 0 0⟩, ⟨4, [], D.p 1 0 0 0⟩, ⟨12, [], I (c.parts.length : Int)⟩, ⟨13, [], I (k : Int)⟩, ⟨16, [], sl' 6 Link.d c.links⟩, ⟨17, [], I (c.links.length : Int)⟩, ⟨18, [], I (m : Int)⟩, ⟨19, [], D.v (.bool (decide ((m : Int) < (c.links.length : Int))))⟩], mem := [Obj.var 25 (Config.d c), Obj.row 125 1 6 (fun j => [D.v (.bool (ys.getD j default))])] }) (p := True) (by kernel_rfl) (by trivial) ?_
    refine PL.nil ?_
    show PW _ _ _ _ _
    refine PW.seq ?_
    refine PW.cond (z := (decide ((m : Int) < (c.links.length : Int)))) (by kernel_rfl) (fun hz1 => ?_) (fun hz1 => ?_)
    · skip
      try simp only [boolS, isB_true, isB_false] at hz1
      try have hl := hL m (by omega)
      refine PW.skip ?_
      show PW _ _ _ _ _
      refine PW.seq ?_
      refine PW.block ?_
      refine PW.seq ?_
      refine PW.region ?_
      refine PL.rowK 4 [1, 4, 6, 12, 13, 16, 17, 18] 3 (s' := { tab := [⟨1, [], D.p 0 0 0 0⟩, ⟨4, [], D.p 1 0 0 0⟩, ⟨6, [], D.p 2 0 0 0⟩, ⟨12, [], I (c.parts.length : Int)⟩, ⟨13, [], I (k : Int)⟩, ⟨16, [], sl' 6 Link.d c.links⟩, ⟨17, [], I (c.links.length : Int)⟩, ⟨18, [], I (m : Int)⟩], mem := [Obj.var 25 (Config.d c), Obj.row 125 1 6 (fun j => [D.v (.bool (ys.getD j default))]), Obj.var 55 [I ((c.links.getD m default).a), I ((c.links.getD m default).b), I ((c.links.getD m default).pa0), I ((c.links.getD m default).pa1), I ((c.links.getD m default).pb0), I ((c.links.getD m default).pb1)]] }) (p := (0 ≤ (m : Int) ∧ (m : Int) < (c.links.length : Int))) (by kernel_rfl) (by ((repeat' (first | intro _ | refine And.intro ?_ ?_)) <;> first | omega | trivial | assumption)) ?_
      refine PL.nil ?_
      show PW _ _ _ _ _
      refine PW.seq ?_
      refine PW.region ?_
      refine PL.rowK 11 [1, 4, 6, 7, 12, 13, 16, 17, 18] 3 (s' := { tab := [⟨1, [], D.p 0 0 0 0⟩, ⟨4, [], D.p 1 0 0 0⟩, ⟨6, [], D.p 2 0 0 0⟩, ⟨7, [], D.v (.bool ((ys.getD (((c.links.getD m default).a).toNat) default) || (ys.getD (((c.links.getD m default).b).toNat) default)))⟩, ⟨12, [], I (c.parts.length : Int)⟩, ⟨13, [], I (k : Int)⟩, ⟨16, [], sl' 6 Link.d c.links⟩, ⟨17, [], I (c.links.length : Int)⟩, ⟨18, [], I (m : Int)⟩], mem := [Obj.var 25 (Config.d c), Obj.row 125 1 6 (fun j => [D.v (.bool (ys.getD j default))]), Obj.var 55 [I ((c.links.getD m default).a), I ((c.links.getD m default).b), I ((c.links.getD m default).pa0), I ((c.links.getD m default).pa1), I ((c.links.getD m default).pb0), I ((c.links.getD m default).pb1)]] }) (p := (0 ≤ ((c.links.getD m default).a) ∧ ((c.links.getD m default).a) < ((6 : Nat) : Int)) ∧ (((c.links.getD m default).a).toNat < 6) ∧ (((ys.getD (((c.links.getD m default).a).toNat) default) = false ∧ True → 0 ≤ ((c.links.getD m default).b) ∧ ((c.links.getD m default).b) < ((6 : Nat) : Int))) ∧ (((ys.getD (((c.links.getD m default).a).toNat) default) = false ∧ True → ((c.links.getD m default).b).toNat < 6))) (by kernel_rfl) (by ((repeat' (first | intro _ | refine And.intro ?_ ?_)) <;> first | omega | trivial | assumption)) ?_
      refine PL.nil ?_
      show PW _ _ _ _ _
      refine PW.open [1] (by kernel_rfl) ?_
      refine PO.takes [0, 1, 2, 3, 4, 5, 6] 10 [1, 4, 12, 13, 16, 17, 18, 35, 36, 37, 38] 3 (n := 3) (s' := { tab := [⟨1, [], D.p 0 0 0 0⟩, ⟨4, [], D.p 1 0 0 0⟩, ⟨12, [], I (c.parts.length : Int)⟩, ⟨13, [], I (k : Int)⟩, ⟨16, [], sl' 6 Link.d c.links⟩, ⟨17, [], I (c.links.length : Int)⟩, ⟨18, [], I (m : Int)⟩, ⟨35, [], I ((c.links.getD m default).b)⟩, ⟨36, [], D.v (.bool ((ys.getD (((c.links.getD m default).a).toNat) default) || (ys.getD (((c.links.getD m default).b).toNat) default)))⟩, ⟨37, [], D.v (.bool ((ys.getD (((c.links.getD m default).a).toNat) default) || (ys.getD (((c.links.getD m default).b).toNat) default)))⟩, ⟨38, [], D.p 1 1 (((c.links.getD m default).a).toNat) 0⟩], mem := [Obj.var 25 (Config.d c), Obj.row 125 1 6 (fun j => [D.v (.bool (ys.getD j default))]), Obj.var 55 [I ((c.links.getD m default).a), I ((c.links.getD m default).b), I ((c.links.getD m default).pa0), I ((c.links.getD m default).pa1), I ((c.links.getD m default).pb0), I ((c.links.getD m default).pb1)]] }) (p := (0 ≤ ((c.links.getD m default).a) ∧ ((c.links.getD m default).a) < ((6 : Nat) : Int))) (by kernel_rfl) (fun _ _ h => h) (by kernel_rfl) (by kernel_rfl) (by kernel_rfl) (by kernel_rfl) (by kernel_rfl) (by kernel_rfl) (by kernel_rfl) (by kernel_rfl) (by ((repeat' (first | intro _ | refine And.intro ?_ ?_)) <;> first | omega | trivial | assumption)) ?_
      refine PO.one (n := 2) 7 (by kernel_rfl) ?_
      refine PO1.mem [1, 4, 12, 13, 16, 17, 18, 35, 37] 3 (s' := { tab := [⟨1, [], D.p 0 0 0 0⟩, ⟨4, [], D.p 1 0 0 0⟩, ⟨12, [], I (c.parts.length : Int)⟩, ⟨13, [], I (k : Int)⟩, ⟨16, [], sl' 6 Link.d c.links⟩, ⟨17, [], I (c.links.length : Int)⟩, ⟨18, [], I (m : Int)⟩, ⟨35, [], I ((c.links.getD m default).b)⟩, ⟨37, [], D.v (.bool ((ys.getD (((c.links.getD m default).a).toNat) default) || (ys.getD (((c.links.getD m default).b).toNat) default)))⟩], mem := [Obj.var 25 (Config.d c), Obj.row 125 1 6 (fun j => if j = ((c.links.getD m default).a).toNat then [D.v (.bool ((ys.getD (((c.links.getD m default).a).toNat) default) || (ys.getD (((c.links.getD m default).b).toNat) default)))] else (fun j => [D.v (.bool (ys.getD j default))]) j), Obj.var 55 [I ((c.links.getD m default).a), I ((c.links.getD m default).b), I ((c.links.getD m default).pa0), I ((c.links.getD m default).pa1), I ((c.links.getD m default).pb0), I ((c.links.getD m default).pb1)]] }) (p := (((c.links.getD m default).a).toNat < 6)) rfl (by kernel_rfl) (by kernel_rfl) (by kernel_rfl) (by kernel_rfl) (by kernel_rfl) (by kernel_rfl) (by kernel_rfl) (by kernel_rfl) (by kernel_rfl) (by ((repeat' (first | intro _ | refine And.intro ?_ ?_)) <;> first | omega | trivial | assumption)) ?_
      refine PO.rem (s' := { tab := [⟨1, [], D.p 0 0 0 0⟩, ⟨4, [], D.p 1 0 0 0⟩, ⟨12, [], I (c.parts.length : Int)⟩, ⟨13, [], I (k : Int)⟩, ⟨16, [], sl' 6 Link.d c.links⟩, ⟨17, [], I (c.links.length : Int)⟩, ⟨18, [], I (m : Int)⟩, ⟨35, [], I ((c.links.getD m default).b)⟩, ⟨37, [], D.v (.bool ((ys.getD (((c.links.getD m default).a).toNat) default) || (ys.getD (((c.links.getD m default).b).toNat) default)))⟩], mem := [Obj.var 25 (Config.d c), Obj.row 125 1 6 (fun j => [D.v (.bool ((ys.set (((c.links.getD m default).a).toNat) ((ys.getD (((c.links.getD m default).a).toNat) default) || (ys.getD (((c.links.getD m default).b).toNat) default))).getD j default))]), Obj.var 55 [I ((c.links.getD m default).a), I ((c.links.getD m default).b), I ((c.links.getD m default).pa0), I ((c.links.getD m default).pa1), I ((c.links.getD m default).pb0), I ((c.links.getD m default).pb1)]] }) ⟨rfl, rfl, rfl, (.same (.row rfl (fun j hj => by (try dsimp only); rw [getD_set (l := ys) (i := ((c.links.getD m default).a).toNat) (v := (ys.getD (((c.links.getD m default).a).toNat) default) || (ys.getD (((c.links.getD m default).b).toNat) default)) (hi := (by (try simp only [List.length_set, List.length_replicate, List.length_append, List.length_cons, List.length_nil]); omega))]; split <;> rfl) (.same .nil)))⟩ ?_
      refine PO.takes [8] 2 [1, 4, 12, 13, 16, 17, 18, 37, 39] 3 (n := 1) (s' := { tab := [⟨1, [], D.p 0 0 0 0⟩, ⟨4, [], D.p 1 0 0 0⟩, ⟨12, [], I (c.parts.length : Int)⟩, ⟨13, [], I (k : Int)⟩, ⟨16, [], sl' 6 Link.d c.links⟩, ⟨17, [], I (c.links.length : Int)⟩, ⟨18, [], I (m : Int)⟩, ⟨37, [], D.v (.bool ((ys.getD (((c.links.getD m default).a).toNat) default) || (ys.getD (((c.links.getD m default).b).toNat) default)))⟩, ⟨39, [], D.p 1 1 (((c.links.getD m default).b).toNat) 0⟩], mem := [Obj.var 25 (Config.d c), Obj.row 125 1 6 (fun j => [D.v (.bool ((ys.set (((c.links.getD m default).a).toNat) ((ys.getD (((c.links.getD m default).a).toNat) default) || (ys.getD (((c.links.getD m default).b).toNat) default))).getD j default))]), Obj.var 55 [I ((c.links.getD m default).a), I ((c.links.getD m default).b), I ((c.links.getD m default).pa0), I ((c.links.getD m default).pa1), I ((c.links.getD m default).pb0), I ((c.links.getD m default).pb1)]] }) (p := (0 ≤ ((c.links.getD m default).b) ∧ ((c.links.getD m default).b) < ((6 : Nat) : Int))) (by kernel_rfl) (fun _ _ h => h) (by kernel_rfl) (by kernel_rfl) (by kernel_rfl) (by kernel_rfl) (by kernel_rfl) (by kernel_rfl) (by kernel_rfl) (by kernel_rfl) (by ((repeat' (first | intro _ | refine And.intro ?_ ?_)) <;> first | omega | trivial | assumption)) ?_
      refine PO.one (n := 0) 9 (by kernel_rfl) ?_
      refine PO1.mem [1, 4, 12, 13, 16, 17, 18] 3 (s' := { tab := [⟨1, [], D.p 0 0 0 0⟩, ⟨4, [], D.p 1 0 0 0⟩, ⟨12, [], I (c.parts.length : Int)⟩, ⟨13, [], I (k : Int)⟩, ⟨16, [], sl' 6 Link.d c.links⟩, ⟨17, [], I (c.links.length : Int)⟩, ⟨18, [], I (m : Int)⟩], mem := [Obj.var 25 (Config.d c), Obj.row 125 1 6 (fun j => if j = ((c.links.getD m default).b).toNat then [D.v (.bool ((ys.getD (((c.links.getD m default).a).toNat) default) || (ys.getD (((c.links.getD m default).b).toNat) default)))] else (fun j => [D.v (.bool ((ys.set (((c.links.getD m default).a).toNat) ((ys.getD (((c.links.getD m default).a).toNat) default) || (ys.getD (((c.links.getD m default).b).toNat) default))).getD j default))]) j), Obj.var 55 [I ((c.links.getD m default).a), I ((c.links.getD m default).b), I ((c.links.getD m default).pa0), I ((c.links.getD m default).pa1), I ((c.links.getD m default).pb0), I ((c.links.getD m default).pb1)]] }) (p := (((c.links.getD m default).b).toNat < 6)) rfl (by kernel_rfl) (by kernel_rfl) (by kernel_rfl) (by kernel_rfl) (by kernel_rfl) (by kernel_rfl) (by kernel_rfl) (by kernel_rfl) (by kernel_rfl) (by ((repeat' (first | intro _ | refine And.intro ?_ ?_)) <;> first | omega | trivial | assumption)) ?_
      refine PO.rem (s' := { tab := [⟨1, [], D.p 0 0 0 0⟩, ⟨4, [], D.p 1 0 0 0⟩, ⟨12, [], I (c.parts.length : Int)⟩, ⟨13, [], I (k : Int)⟩, ⟨16, [], sl' 6 Link.d c.links⟩, ⟨17, [], I (c.links.length : Int)⟩, ⟨18, [], I (m : Int)⟩], mem := [Obj.var 25 (Config.d c), Obj.row 125 1 6 (fun j => [D.v (.bool (((ys.set (((c.links.getD m default).a).toNat) ((ys.getD (((c.links.getD m default).a).toNat) default) || (ys.getD (((c.links.getD m default).b).toNat) default))).set (((c.links.getD m default).b).toNat) ((ys.getD (((c.links.getD m default).a).toNat) default) || (ys.getD (((c.links.getD m default).b).toNat) default))).getD j default))]), Obj.var 55 [I ((c.links.getD m default).a), I ((c.links.getD m default).b), I ((c.links.getD m default).pa0), I ((c.links.getD m default).pa1), I ((c.links.getD m default).pb0), I ((c.links.getD m default).pb1)]] }) ⟨rfl, rfl, rfl, (.same (.row rfl (fun j hj => by (try dsimp only); rw [getD_set (l := ys.set (((c.links.getD m default).a).toNat) ((ys.getD (((c.links.getD m default).a).toNat) default) || (ys.getD (((c.links.getD m default).b).toNat) default))) (i := ((c.links.getD m default).b).toNat) (v := (ys.getD (((c.links.getD m default).a).toNat) default) || (ys.getD (((c.links.getD m default).b).toNat) default)) (hi := (by (try simp only [List.length_set, List.length_replicate, List.length_append, List.length_cons, List.length_nil]); omega))]; split <;> rfl) (.same .nil)))⟩ ?_
      refine PO.done (by kernel_rfl) ?_
      show PW _ _ _ _ _
      refine PW.region ?_
      refine PL.rowK 2 [1, 4, 12, 13, 16, 17, 18] 3 (s' := { tab := [⟨1, [], D.p 0 0 0 0⟩, ⟨4, [], D.p 1 0 0 0⟩, ⟨12, [], I (c.parts.length : Int)⟩, ⟨13, [], I (k : Int)⟩, ⟨16, [], sl' 6 Link.d c.links⟩, ⟨17, [], I (c.links.length : Int)⟩, ⟨18, [], I (IntKind.i64.wrap ((m : Int) + 1))⟩], mem := [Obj.var 25 (Config.d c), Obj.row 125 1 6 (fun j => [D.v (.bool (((ys.set (((c.links.getD m default).a).toNat) ((ys.getD (((c.links.getD m default).a).toNat) default) || (ys.getD (((c.links.getD m default).b).toNat) default))).set (((c.links.getD m default).b).toNat) ((ys.getD (((c.links.getD m default).a).toNat) default) || (ys.getD (((c.links.getD m default).b).toNat) default))).getD j default))]), Obj.var 55 [I ((c.links.getD m default).a), I ((c.links.getD m default).b), I ((c.links.getD m default).pa0), I ((c.links.getD m default).pa1), I ((c.links.getD m default).pb0), I ((c.links.getD m default).pb1)]] }) (p := True) (by kernel_rfl) (by trivial) ?_
      refine PL.nil ?_
      refine BackR.of (s1 := { tab := [⟨1, [], D.p 0 0 0 0⟩, ⟨4, [], D.p 1 0 0 0⟩, ⟨12, [], I (c.parts.length : Int)⟩, ⟨13, [], I (k : Int)⟩, ⟨16, [], sl' 6 Link.d c.links⟩, ⟨17, [], I (c.links.length : Int)⟩, ⟨18, [], I (IntKind.i64.wrap ((m : Int) + 1))⟩], mem := [Obj.var 25 (Config.d c), Obj.row 125 1 6 (fun j => [D.v (.bool (((ys.set (((c.links.getD m default).a).toNat) ((ys.getD (((c.links.getD m default).a).toNat) default) || (ys.getD (((c.links.getD m default).b).toNat) default))).set (((c.links.getD m default).b).toNat) ((ys.getD (((c.links.getD m default).a).toNat) default) || (ys.getD (((c.links.getD m default).b).toNat) default))).getD j default))])] }) (m + 1, (ys.set (((c.links.getD m default).a).toNat) ((ys.getD (((c.links.getD m default).a).toNat) default) || (ys.getD (((c.links.getD m default).b).toNat) default))).set (((c.links.getD m default).b).toNat) ((ys.getD (((c.links.getD m default).a).toNat) default) || (ys.getD (((c.links.getD m default).b).toNat) default))) (by kernel_rfl) (by kernel_rfl) ?_ ?_ ?_
      · dsimp only
        rw [wrap1 m (by omega)]
        exact Rem.refl _
      · dsimp only
        exact ⟨by omega, by rw [sweep, ← hinv.2]; rfl⟩
      · dsimp only
        ((repeat' (first | intro _ | refine And.intro ?_ ?_)) <;> first | omega | trivial | assumption)
    · skip
      try simp only [boolS, isB_true, isB_false] at hz1
      try have hl := hL m (by omega)
      refine PW.exit ?_
      show PW _ _ _ _ _
      refine PW.region ?_
      refine PL.rowK 2 [1, 4, 12, 13] 2 (s' := { tab := [⟨1, [], D.p 0 0 0 0⟩, ⟨4, [], D.p 1 0 0 0⟩, ⟨12, [], I (c.parts.length : Int)⟩, ⟨13, [], I (IntKind.i64.wrap ((k : Int) + 1))⟩], mem := [Obj.var 25 (Config.d c), Obj.row 125 1 6 (fun j => [D.v (.bool (ys.getD j default))])] }) (p := True) (by kernel_rfl) (by trivial) ?_
      refine PL.nil ?_
      refine BackR.of (s1 := { tab := [⟨1, [], D.p 0 0 0 0⟩, ⟨4, [], D.p 1 0 0 0⟩, ⟨12, [], I (c.parts.length : Int)⟩, ⟨13, [], I (IntKind.i64.wrap ((k : Int) + 1))⟩], mem := [Obj.var 25 (Config.d c), Obj.row 125 1 6 (fun j => [D.v (.bool (ys.getD j default))])] }) (k + 1, ys) (by kernel_rfl) (by kernel_rfl) ?_ ?_ ?_
      · dsimp only
        rw [wrap1 k (by omega)]
        exact Rem.refl _
      · dsimp only
        exact ⟨by omega, by rw [show m = c.links.length by omega] at hinv; rw [hinv.2, hk.2]; rfl⟩
      · dsimp only
        ((repeat' (first | intro _ | refine And.intro ?_ ?_)) <;> first | omega | trivial | assumption)
  · skip
    try simp only [boolS, isB_true, isB_false] at hz0
    try have hl := hL m (by omega)
    refine PW.exit ?_
    show PW _ _ _ _ _
    refine PW.seq ?_
    refine PW.seq ?_
    refine PW.region ?_
    refine PL.rowK 4 [4, 44, 45] 2 (s' := { tab := [⟨4, [], D.p 1 0 0 0⟩, ⟨44, [], I (c.parts.length : Int)⟩, ⟨45, [], I 0⟩], mem := [Obj.var 25 (Config.d c), Obj.row 125 1 6 (fun j => [D.v (.bool (xs.getD j default))])] }) (p := True) (by kernel_rfl) (by trivial) ?_
    refine PL.nil ?_
    show PW _ _ _ _ _
    refine PW.block ?_
    refine PW.loopR (α := Nat) (fun i => { tab := [⟨4, [], D.p 1 0 0 0⟩, ⟨44, [], I (c.parts.length : Int)⟩, ⟨45, [], I (i : Int)⟩], mem := [Obj.var 25 (Config.d c), Obj.row 125 1 6 (fun j => [D.v (.bool (xs.getD j default))])] }) (fun i => i ≤ c.parts.length ∧ findN (fun i => !(joinN c.links c.parts.length).getD i default) i = none) (fun i => c.parts.length - i) [4, 44, 45] 2 (0) (s1 := { tab := [⟨4, [], D.p 1 0 0 0⟩, ⟨44, [], I (c.parts.length : Int)⟩, ⟨45, [], I 0⟩], mem := [Obj.var 25 (Config.d c), Obj.row 125 1 6 (fun j => [D.v (.bool (xs.getD j default))])] }) (by kernel_rfl) (by kernel_rfl) ?_ ?_ ?_
    · exact Rem.refl _
    · exact ⟨Nat.zero_le _, rfl⟩
    rintro i hinv
    have hkn : xs = joinN c.links c.parts.length := by rw [hk.2, show k = c.parts.length by omega]
    show PW _ _ _ _ _
    refine PW.seq ?_
    refine PW.region ?_
    refine PL.rowK 1 [4, 44, 45, 46] 2 (s' := { tab := [⟨4, [], D.p 1 0 0 0⟩, ⟨44, [], I (c.parts.length : Int)⟩, ⟨45, [], I (i : Int)⟩, ⟨46, [], D.v (.bool (decide ((i : Int) < (c.parts.length : Int))))⟩], mem := [Obj.var 25 (Config.d c), Obj.row 125 1 6 (fun j => [D.v (.bool (xs.getD j default))])] }) (p := True) (by kernel_rfl) (by trivial) ?_
    refine PL.nil ?_
    show PW _ _ _ _ _
    refine PW.seq ?_
    refine PW.cond (z := (decide ((i : Int) < (c.parts.length : Int)))) (by kernel_rfl) (fun hz2 => ?_) (fun hz2 => ?_)
    · skip
      try simp only [boolS, isB_true, isB_false] at hz2
      try have hl := hL m (by omega)
      refine PW.skip ?_
      show PW _ _ _ _ _
      refine PW.seq ?_
      refine PW.block ?_
      refine PW.seq ?_
      refine PW.region ?_
      refine PL.rowK 2 [4, 8, 44, 45] 2 (s' := { tab := [⟨4, [], D.p 1 0 0 0⟩, ⟨8, [], I (i : Int)⟩, ⟨44, [], I (c.parts.length : Int)⟩, ⟨45, [], I (i : Int)⟩], mem := [Obj.var 25 (Config.d c), Obj.row 125 1 6 (fun j => [D.v (.bool (xs.getD j default))])] }) (p := True) (by kernel_rfl) (by trivial) ?_
      refine PL.nil ?_
      show PW _ _ _ _ _
      refine PW.seq ?_
      refine PW.region ?_
      refine PL.rowK 4 [4, 8, 44, 45, 51] 2 (s' := { tab := [⟨4, [], D.p 1 0 0 0⟩, ⟨8, [], I (i : Int)⟩, ⟨44, [], I (c.parts.length : Int)⟩, ⟨45, [], I (i : Int)⟩, ⟨51, [], D.v (.bool (!(xs.getD i default)))⟩], mem := [Obj.var 25 (Config.d c), Obj.row 125 1 6 (fun j => [D.v (.bool (xs.getD j default))])] }) (p := (0 ≤ (i : Int) ∧ (i : Int) < ((6 : Nat) : Int)) ∧ (i < 6)) (by kernel_rfl) (by ((repeat' (first | intro _ | refine And.intro ?_ ?_)) <;> first | omega | trivial | assumption)) ?_
      refine PL.nil ?_
      show PW _ _ _ _ _
      refine PW.cond (z := (!(xs.getD i default))) (by kernel_rfl) (fun hz3 => ?_) (fun hz3 => ?_)
      · skip
        try simp only [boolS, isB_true, isB_false] at hz3
        try have hl := hL m (by omega)
        refine PW.seq ?_
        refine PW.region ?_
        refine PL.rowK 3 [2, 3] 2 (s' := { tab := [⟨2, [], I (i : Int)⟩, ⟨3, [], D.v (.bool true)⟩], mem := [Obj.var 25 (Config.d c), Obj.row 125 1 6 (fun j => [D.v (.bool (xs.getD j default))])] }) (p := True) (by kernel_rfl) (by trivial) ?_
        refine PL.nil ?_
        show PW _ _ _ _ _
        refine PW.ret ?_
        refine retQ_ret (d := D.t [I (i : Int), D.v (.bool true)]) (ps := []) (by kernel_rfl) trivial ?_
        unfold apartP
        rw [findN_yes hinv.2 (by rw [hkn] at hz3; simpa using hz3) (by omega)]
        rfl
      · skip
        try simp only [boolS, isB_true, isB_false] at hz3
        try have hl := hL m (by omega)
        refine PW.skip ?_
        show PW _ _ _ _ _
        refine PW.region ?_
        refine PL.rowK 2 [4, 44, 45] 2 (s' := { tab := [⟨4, [], D.p 1 0 0 0⟩, ⟨44, [], I (c.parts.length : Int)⟩, ⟨45, [], I (IntKind.i64.wrap ((i : Int) + 1))⟩], mem := [Obj.var 25 (Config.d c), Obj.row 125 1 6 (fun j => [D.v (.bool (xs.getD j default))])] }) (p := True) (by kernel_rfl) (by trivial) ?_
        refine PL.nil ?_
        refine BackR.of (s1 := { tab := [⟨4, [], D.p 1 0 0 0⟩, ⟨44, [], I (c.parts.length : Int)⟩, ⟨45, [], I (IntKind.i64.wrap ((i : Int) + 1))⟩], mem := [Obj.var 25 (Config.d c), Obj.row 125 1 6 (fun j => [D.v (.bool (xs.getD j default))])] }) (i + 1) (by kernel_rfl) (by kernel_rfl) ?_ ?_ ?_
        · rw [wrap1 i (by omega)]
          exact Rem.refl _
        · exact ⟨by omega, findN_no hinv.2 (by rw [hkn] at hz3; simpa using hz3)⟩
        · ((repeat' (first | intro _ | refine And.intro ?_ ?_)) <;> first | omega | trivial | assumption)
    · skip
      try simp only [boolS, isB_true, isB_false] at hz2
      try have hl := hL m (by omega)
      refine PW.exit ?_
      show PW _ _ _ _ _
      refine PW.seq ?_
      refine PW.region ?_
      refine PL.rowK 2 [2, 3] 2 (s' := { tab := [⟨2, [], I 0⟩, ⟨3, [], D.v (.bool false)⟩], mem := [Obj.var 25 (Config.d c), Obj.row 125 1 6 (fun j => [D.v (.bool (xs.getD j default))])] }) (p := True) (by kernel_rfl) (by trivial) ?_
      refine PL.nil ?_
      show PW _ _ _ _ _
      refine PW.ret ?_
      refine retQ_ret (d := D.t [I 0, D.v (.bool false)]) (ps := []) (by kernel_rfl) trivial ?_
      unfold apartP
      rw [show i = c.parts.length by omega] at hinv
      rw [hinv.2]
      rfl
end Go.Proofs.YtleflkgdbagmnaaGreatDoor.Pl
