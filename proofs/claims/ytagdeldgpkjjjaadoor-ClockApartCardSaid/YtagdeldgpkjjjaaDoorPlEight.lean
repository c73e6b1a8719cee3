/- Package plan's apart. -/
import Derived.Test.YtagdeldgpkjjjaaDoorPlSeven
namespace Go.Proofs.YtagdeldgpkjjjaaDoor.Pl
open Go.RowKit Go.Proofs.YtagdeldgpkjjjaaDoor.Sm Go.Proofs.YtagdeldgpkjjjaaDoor.Dp
set_option maxHeartbeats 4000000
set_option maxRecDepth 100000
set_option linter.unusedVariables false
set_option linter.unusedSimpArgs false
/-- what a link does to what is reached. -/
def join1 (l : Link) (r : List Bool) : List Bool :=
  (r.set l.a.toNat (r.getD l.a.toNat default || r.getD l.b.toNat default)).set l.b.toNat (r.getD l.a.toNat default || r.getD l.b.toNat default)
def joinN (ls : List Link) : Nat → List Bool
  | 0 => [true, false, false, false, false, false]
  | k + 1 => sweep ls join1 (joinN ls k) ls.length
theorem join1_len (l : Link) (r : List Bool) : (join1 l r).length = r.length := by unfold join1; simp
theorem sweepJ_len (ls : List Link) (r : List Bool) : ∀ i, (sweep ls join1 r i).length = r.length
  | 0 => rfl
  | i + 1 => by rw [sweep, join1_len, sweepJ_len]
theorem joinN_len (ls : List Link) : ∀ k, (joinN ls k).length = 6
  | 0 => rfl
  | k + 1 => by rw [joinN, sweepJ_len, joinN_len]
/-- the first part that is not reached. -/
def apartP (c : Config) : Option Nat := findN (fun i => !(joinN c.links c.parts.length).getD i default) c.parts.length
theorem plan_apart_pc (c : Config) (hL : LinksIn c) (hp : c.parts.length ≤ 6) (hs : c.links.length < 1000000) : PC Tryd.prog [] 45 [D.r (Config.d c)] (· = D.t [I (((apartP c).getD 0 : Nat) : Int), D.v (.bool (apartP c).isSome)]) := by
 refine PC.of (N := 54) Tryd.func45 rfl rfl (Nat.le_of_ble_eq_true rfl) ?_
 refine PW.sr [1] 1 trivial ?_
 refine PW.sr [1, 4] 2 trivial ?_
 refine PW.sr [1, 4] 2 (p := (0 ≤ (0 : Int) ∧ (0 : Int) < ((6 : Nat) : Int))) (by omega) ?_
 refine PW.seq ?_
 refine PW.seq ?_
 refine PW.sel [1, 4] 2 (s' := _) rfl (by kernel_rfl) ?_
 refine PW.asRow 1 (t := 92) (cs := [D.v (.bool true), D.v (.bool false), D.v (.bool false), D.v (.bool false), D.v (.bool false), D.v (.bool false)]) (f := fun j => [D.v (.bool (([true, false, false, false, false, false]).getD j default))]) (n := 6) (s' := { tab := [⟨1, [], D.p 0 0 0 0⟩, ⟨4, [], D.p 1 0 0 0⟩], mem := [Obj.var 26 (Config.d c), Obj.row 92 1 6 (fun j => [D.v (.bool (([true, false, false, false, false, false]).getD j default))])] }) (by kernel_rfl) (by kernel_rfl) (by decide) (by kernel_rfl) (by kernel_rfl) (fun j hj => match j, hj with | 0, _ => rfl | 1, _ => rfl | 2, _ => rfl | 3, _ => rfl | 4, _ => rfl | 5, _ => rfl | j + 6, hj => absurd hj (by omega)) (by kernel_rfl) ?_
 refine PW.region ?_
 refine PL.rw 4 [1, 4, 12, 13] 2 trivial ?_
 refine PL.nil ?_
 show PW _ _ _ _ _
 refine PW.block ?_
 refine PW.lp (α := Nat × List Bool) (fun (k, xs) => { tab := [⟨1, [], D.p 0 0 0 0⟩, ⟨4, [], D.p 1 0 0 0⟩, ⟨12, [], I (c.parts.length : Int)⟩, ⟨13, [], I (k : Int)⟩], mem := [Obj.var 26 (Config.d c), Obj.row 92 1 6 (fun j => [D.v (.bool (xs.getD j default))])] }) (fun (k, xs) => k ≤ c.parts.length ∧ xs = joinN c.links k) (fun (k, xs) => c.parts.length - k) [1, 4, 12, 13] 2 (0, joinN c.links 0) ?_ ?_
 ·dsimp only
  exact ⟨Nat.zero_le _, rfl⟩
 rintro ⟨k, xs⟩ hk
 dsimp only at hk
 have hxl : xs.length = 6 := by rw [hk.2, joinN_len]
 show PW _ _ _ _ _
 refine PW.sr [1, 4, 12, 13, 14] 2 trivial ?_
 refine PW.seq ?_
 refine PW.cd (decide ((k : Int) < (c.parts.length : Int))) (fun hz0 => ?_) (fun hz0 => ?_)
 ·try simp only [boolS, isB_true, isB_false] at hz0
  try have hl := hL m (by omega)
  refine PW.skip ?_
  show PW _ _ _ _ _
  refine PW.seq ?_
  refine PW.block ?_
  refine PW.sr [1, 4, 12, 13, 16, 17, 18] 2 trivial ?_
  refine PW.block ?_
  refine PW.lp (α := Nat × List Bool) (fun (m, ys) => { tab := [⟨1, [], D.p 0 0 0 0⟩, ⟨4, [], D.p 1 0 0 0⟩, ⟨12, [], I (c.parts.length : Int)⟩, ⟨13, [], I (k : Int)⟩, ⟨16, [], sl' 6 Link.d c.links⟩, ⟨17, [], I (c.links.length : Int)⟩, ⟨18, [], I (m : Int)⟩], mem := [Obj.var 26 (Config.d c), Obj.row 92 1 6 (fun j => [D.v (.bool (ys.getD j default))])] }) (fun (m, ys) => m ≤ c.links.length ∧ ys = sweep c.links join1 xs m) (fun (m, ys) => c.links.length - m) [1, 4, 12, 13, 16, 17, 18] 2 (0, xs) ?_ ?_
  ·dsimp only
   exact ⟨Nat.zero_le _, rfl⟩
  rintro ⟨m, ys⟩ hinv
  dsimp only at hinv
  have hyl : ys.length = 6 := by rw [hinv.2, sweepJ_len, hxl]
  show PW _ _ _ _ _
  refine PW.sr [1, 4, 12, 13, 16, 17, 18, 19] 2 trivial ?_
  refine PW.seq ?_
  refine PW.cd (decide ((m : Int) < (c.links.length : Int))) (fun hz1 => ?_) (fun hz1 => ?_)
  ·try simp only [boolS, isB_true, isB_false] at hz1
   try have hl := hL m (by omega)
   refine PW.skip ?_
   show PW _ _ _ _ _
   refine PW.seq ?_
   refine PW.block ?_
   refine PW.sr [1, 4, 6, 12, 13, 16, 17, 18] 3 (p := (0 ≤ (m : Int) ∧ (m : Int) < (c.links.length : Int))) (by omega) ?_
   refine PW.sr [1, 4, 6, 7, 12, 13, 16, 17, 18] 3 (p := (0 ≤ ((c.links.getD m default).a) ∧ ((c.links.getD m default).a) < ((6 : Nat) : Int)) ∧ (((c.links.getD m default).a).toNat < 6) ∧ (((ys.getD (((c.links.getD m default).a).toNat) default) = false ∧ True → 0 ≤ ((c.links.getD m default).b) ∧ ((c.links.getD m default).b) < ((6 : Nat) : Int))) ∧ (((ys.getD (((c.links.getD m default).a).toNat) default) = false ∧ True → ((c.links.getD m default).b).toNat < 6))) (by ((repeat' (first | intro _ | refine And.intro ?_ ?_)) <;> first | omega | trivial | assumption | (rename_i hgd; simp only [Bool.and_eq_true, decide_eq_true_eq, and_true] at hgd; omega))) ?_
   refine PW.open [1] (by kernel_rfl) ?_
   refine PO.tk [0, 1, 2, 3, 4, 5, 6] 10 [1, 4, 12, 13, 16, 17, 18, 35, 36, 37, 38] 3 (p := (0 ≤ ((c.links.getD m default).a) ∧ ((c.links.getD m default).a) < ((6 : Nat) : Int))) (by omega) (fun _ _ h => h) ?_
   refine PO.one (n := 2) 7 (by kernel_rfl) ?_
   refine PO1.mm rfl [1, 4, 12, 13, 16, 17, 18, 35, 37] 3 (p := (((c.links.getD m default).a).toNat < 6)) (by omega) ?_
   refine PO.rm 1 (t := 92) (z := 1) (n := 6) (fun j => if j = ((c.links.getD m default).a).toNat then [D.v (.bool ((ys.getD (((c.links.getD m default).a).toNat) default) || (ys.getD (((c.links.getD m default).b).toNat) default)))] else (fun j => [D.v (.bool (ys.getD j default))]) j) (fun j => [D.v (.bool ((ys.set (((c.links.getD m default).a).toNat) ((ys.getD (((c.links.getD m default).a).toNat) default) || (ys.getD (((c.links.getD m default).b).toNat) default))).getD j default))]) (fun j hj => by (try dsimp only); rw [getD_set (l := ys) (i := ((c.links.getD m default).a).toNat) (v := (ys.getD (((c.links.getD m default).a).toNat) default) || (ys.getD (((c.links.getD m default).b).toNat) default)) (hi := (by (try simp only [List.length_set, List.length_replicate, List.length_append, List.length_cons, List.length_nil]) <;> omega))]; split <;> rfl) ?_
   refine PO.tk [8] 2 [1, 4, 12, 13, 16, 17, 18, 37, 39] 1 (p := (0 ≤ ((c.links.getD m default).b) ∧ ((c.links.getD m default).b) < ((6 : Nat) : Int))) (by omega) (fun _ _ h => h) ?_
   refine PO.one (n := 0) 9 (by kernel_rfl) ?_
   refine PO1.mm rfl [1, 4, 12, 13, 16, 17, 18] 3 (p := (((c.links.getD m default).b).toNat < 6)) (by omega) ?_
   refine PO.rm 1 (t := 92) (z := 1) (n := 6) (fun j => if j = ((c.links.getD m default).b).toNat then [D.v (.bool ((ys.getD (((c.links.getD m default).a).toNat) default) || (ys.getD (((c.links.getD m default).b).toNat) default)))] else (fun j => [D.v (.bool ((ys.set (((c.links.getD m default).a).toNat) ((ys.getD (((c.links.getD m default).a).toNat) default) || (ys.getD (((c.links.getD m default).b).toNat) default))).getD j default))]) j) (fun j => [D.v (.bool (((ys.set (((c.links.getD m default).a).toNat) ((ys.getD (((c.links.getD m default).a).toNat) default) || (ys.getD (((c.links.getD m default).b).toNat) default))).set (((c.links.getD m default).b).toNat) ((ys.getD (((c.links.getD m default).a).toNat) default) || (ys.getD (((c.links.getD m default).b).toNat) default))).getD j default))]) (fun j hj => by (try dsimp only); rw [getD_set (l := ys.set (((c.links.getD m default).a).toNat) ((ys.getD (((c.links.getD m default).a).toNat) default) || (ys.getD (((c.links.getD m default).b).toNat) default))) (i := ((c.links.getD m default).b).toNat) (v := (ys.getD (((c.links.getD m default).a).toNat) default) || (ys.getD (((c.links.getD m default).b).toNat) default)) (hi := (by (try simp only [List.length_set, List.length_replicate, List.length_append, List.length_cons, List.length_nil]) <;> omega))]; split <;> rfl) ?_
   refine PO.done (by kernel_rfl) ?_
   show PW _ _ _ _ _
   refine PW.rr [1, 4, 12, 13, 16, 17, 18] 3 trivial ?_
   refine BackR.of (s1 := { tab := [⟨1, [], D.p 0 0 0 0⟩, ⟨4, [], D.p 1 0 0 0⟩, ⟨12, [], I (c.parts.length : Int)⟩, ⟨13, [], I (k : Int)⟩, ⟨16, [], sl' 6 Link.d c.links⟩, ⟨17, [], I (c.links.length : Int)⟩, ⟨18, [], I (IntKind.i64.wrap ((m : Int) + 1))⟩], mem := [Obj.var 26 (Config.d c), Obj.row 92 1 6 (fun j => [D.v (.bool (((ys.set (((c.links.getD m default).a).toNat) ((ys.getD (((c.links.getD m default).a).toNat) default) || (ys.getD (((c.links.getD m default).b).toNat) default))).set (((c.links.getD m default).b).toNat) ((ys.getD (((c.links.getD m default).a).toNat) default) || (ys.getD (((c.links.getD m default).b).toNat) default))).getD j default))])] }) (m + 1, (ys.set (((c.links.getD m default).a).toNat) ((ys.getD (((c.links.getD m default).a).toNat) default) || (ys.getD (((c.links.getD m default).b).toNat) default))).set (((c.links.getD m default).b).toNat) ((ys.getD (((c.links.getD m default).a).toNat) default) || (ys.getD (((c.links.getD m default).b).toNat) default))) (by kernel_rfl) (by kernel_rfl) ?_ ?_ ?_
   ·dsimp only
    rw [wrap1 m (by omega)]
    exact Rem.refl _
   ·dsimp only
    exact ⟨by omega, by rw [sweep, ← hinv.2]; rfl⟩
   ·dsimp only
    ((repeat' (first | intro _ | refine And.intro ?_ ?_)) <;> first | omega | trivial | assumption | (rename_i hgd; simp only [Bool.and_eq_true, decide_eq_true_eq, and_true] at hgd; omega))
  ·try simp only [boolS, isB_true, isB_false] at hz1
   try have hl := hL m (by omega)
   refine PW.exit ?_
   show PW _ _ _ _ _
   refine PW.rr [1, 4, 12, 13] 2 trivial ?_
   refine BackR.of (s1 := { tab := [⟨1, [], D.p 0 0 0 0⟩, ⟨4, [], D.p 1 0 0 0⟩, ⟨12, [], I (c.parts.length : Int)⟩, ⟨13, [], I (IntKind.i64.wrap ((k : Int) + 1))⟩], mem := [Obj.var 26 (Config.d c), Obj.row 92 1 6 (fun j => [D.v (.bool (ys.getD j default))])] }) (k + 1, ys) (by kernel_rfl) (by kernel_rfl) ?_ ?_ ?_
   ·dsimp only
    rw [wrap1 k (by omega)]
    exact Rem.refl _
   ·dsimp only
    exact ⟨by omega, by rw [show m = c.links.length by omega] at hinv; rw [hinv.2, hk.2]; rfl⟩
   ·dsimp only
    ((repeat' (first | intro _ | refine And.intro ?_ ?_)) <;> first | omega | trivial | assumption | (rename_i hgd; simp only [Bool.and_eq_true, decide_eq_true_eq, and_true] at hgd; omega))
 ·try simp only [boolS, isB_true, isB_false] at hz0
  try have hl := hL m (by omega)
  refine PW.exit ?_
  show PW _ _ _ _ _
  refine PW.seq ?_
  refine PW.sr [4, 44, 45] 2 trivial ?_
  refine PW.block ?_
  refine PW.lp (α := Nat) (fun i => { tab := [⟨4, [], D.p 1 0 0 0⟩, ⟨44, [], I (c.parts.length : Int)⟩, ⟨45, [], I (i : Int)⟩], mem := [Obj.var 26 (Config.d c), Obj.row 92 1 6 (fun j => [D.v (.bool (xs.getD j default))])] }) (fun i => i ≤ c.parts.length ∧ findN (fun i => !(joinN c.links c.parts.length).getD i default) i = none) (fun i => c.parts.length - i) [4, 44, 45] 2 (0) ?_ ?_
  ·exact ⟨Nat.zero_le _, rfl⟩
  rintro i hinv
  have hkn : xs = joinN c.links c.parts.length := by rw [hk.2, show k = c.parts.length by omega]
  show PW _ _ _ _ _
  refine PW.sr [4, 44, 45, 46] 2 trivial ?_
  refine PW.seq ?_
  refine PW.cd (decide ((i : Int) < (c.parts.length : Int))) (fun hz2 => ?_) (fun hz2 => ?_)
  ·try simp only [boolS, isB_true, isB_false] at hz2
   try have hl := hL m (by omega)
   refine PW.skip ?_
   show PW _ _ _ _ _
   refine PW.seq ?_
   refine PW.block ?_
   refine PW.sr [4, 8, 44, 45] 2 trivial ?_
   refine PW.sr [4, 8, 44, 45, 51] 2 (p := (0 ≤ (i : Int) ∧ (i : Int) < ((6 : Nat) : Int)) ∧ (i < 6)) (by omega) ?_
   refine PW.cd (!(xs.getD i default)) (fun hz3 => ?_) (fun hz3 => ?_)
   ·try simp only [boolS, isB_true, isB_false] at hz3
    try have hl := hL m (by omega)
    refine PW.sr [2, 3] 2 trivial ?_
    refine PW.ret ?_
    refine retQ_ret (d := D.t [I (i : Int), D.v (.bool true)]) (ps := []) (by kernel_rfl) trivial ?_
    unfold apartP
    rw [findN_yes hinv.2 (by rw [hkn] at hz3; simpa using hz3) (by omega)]
    rfl
   ·try simp only [boolS, isB_true, isB_false] at hz3
    try have hl := hL m (by omega)
    refine PW.skip ?_
    show PW _ _ _ _ _
    refine PW.rr [4, 44, 45] 2 trivial ?_
    refine BackR.of (s1 := { tab := [⟨4, [], D.p 1 0 0 0⟩, ⟨44, [], I (c.parts.length : Int)⟩, ⟨45, [], I (IntKind.i64.wrap ((i : Int) + 1))⟩], mem := [Obj.var 26 (Config.d c), Obj.row 92 1 6 (fun j => [D.v (.bool (xs.getD j default))])] }) (i + 1) (by kernel_rfl) (by kernel_rfl) ?_ ?_ ?_
    ·rw [wrap1 i (by omega)]
     exact Rem.refl _
    ·exact ⟨by omega, findN_no hinv.2 (by rw [hkn] at hz3; simpa using hz3)⟩
    ·((repeat' (first | intro _ | refine And.intro ?_ ?_)) <;> first | omega | trivial | assumption | (rename_i hgd; simp only [Bool.and_eq_true, decide_eq_true_eq, and_true] at hgd; omega))
  ·try simp only [boolS, isB_true, isB_false] at hz2
   try have hl := hL m (by omega)
   refine PW.exit ?_
   show PW _ _ _ _ _
   refine PW.sr [2, 3] 2 trivial ?_
   refine PW.ret ?_
   refine retQ_ret (d := D.t [I 0, D.v (.bool false)]) (ps := []) (by kernel_rfl) trivial ?_
   unfold apartP
   rw [show i = c.parts.length by omega] at hinv
   rw [hinv.2]
   rfl
end Go.Proofs.YtagdeldgpkjjjaaDoor.Pl
