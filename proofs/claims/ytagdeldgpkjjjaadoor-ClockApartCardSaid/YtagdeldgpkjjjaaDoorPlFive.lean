/- The document's own distances of chapters 5 and 6. -/
import Derived.Test.YtagdeldgpkjjjaaDoorPlFour
namespace Go.Proofs.YtagdeldgpkjjjaaDoor.Pl
open Go.RowKit Go.Proofs.YtagdeldgpkjjjaaDoor.Sm Go.Proofs.YtagdeldgpkjjjaaDoor.Dp
set_option maxHeartbeats 4000000
set_option maxRecDepth 100000
set_option linter.unusedVariables false
set_option linter.unusedSimpArgs false
/-- the links' ends are parts. -/
def LinksIn (c : Config) : Prop := ∀ i, i < c.links.length → 0 ≤ (c.links.getD i default).a ∧ (c.links.getD i default).a < (c.parts.length : Int) ∧ 0 ≤ (c.links.getD i default).b ∧ (c.links.getD i default).b < (c.parts.length : Int)
/-- something done for the first links, one by one. -/
def sweep {α : Type} (ls : List Link) (f : Link → α → α) (x : α) : Nat → α
  | 0 => x
  | i + 1 => f (ls.getD i default) (sweep ls f x i)
def relaxA (k : Int) (l : Link) (d : List Int) : List Int := if d.getD l.a.toNat default = k ∧ d.getD l.b.toNat default < 0 then d.set l.b.toNat (k + 1) else d
def relaxB (k : Int) (l : Link) (d : List Int) : List Int := if d.getD l.b.toNat default = k ∧ d.getD l.a.toNat default < 0 then d.set l.a.toNat (k + 1) else d
def relax (k : Int) (l : Link) (d : List Int) : List Int := relaxB k l (relaxA k l d)
def distsN (ls : List Link) (d : List Int) : Nat → List Int
  | 0 => d
  | k + 1 => sweep ls (relax k) (distsN ls d k) ls.length
def dists0 (n from_ : Nat) : List Int := (List.replicate n (-1)).set from_ 0
def distsL (c : Config) (from_ : Nat) : List Int := distsN c.links (dists0 c.parts.length from_) c.parts.length
theorem relax_len (k : Int) (l : Link) (d : List Int) : (relax k l d).length = d.length := by unfold relax relaxA relaxB; split <;> split <;> simp
theorem sweep_len (ls : List Link) (k : Int) (d : List Int) : ∀ i, (sweep ls (relax k) d i).length = d.length
  | 0 => rfl
  | i + 1 => by rw [sweep, relax_len, sweep_len]
theorem distsN_len (ls : List Link) (d : List Int) : ∀ k, (distsN ls d k).length = d.length
  | 0 => rfl
  | k + 1 => by rw [distsN, sweep_len, distsN_len]
theorem dists0_len (n f : Nat) : (dists0 n f).length = n := by simp [dists0]
theorem take_rep (n i : Nat) (v w : Int) (h : i < n) : ((List.replicate i v) ++ (List.replicate (n - i) w)).set i v = List.replicate (i + 1) v ++ List.replicate (n - (i + 1)) w := by
  rw [List.set_append_right _ _ (by simp), List.length_replicate, Nat.sub_self, show n - i = (n - (i + 1)) + 1 by omega, List.replicate_succ, List.set_cons_zero, List.replicate_succ', List.append_assoc]
  rfl
theorem drumlineref5_dists_pc (c : Config) (f : Nat) (hf : f < c.parts.length) (hL : LinksIn c) (hs : c.links.length < 1000000) (hp : c.parts.length < 1000000) : PC Tryd.prog [] 42 [D.r (Config.d c), I (f : Int)] (· = sl' 1 (fun x => [I x]) (distsL c f)) := by
 refine PC.of (N := 87) Tryd.func42 rfl rfl (Nat.le_of_ble_eq_true rfl) ?_
 refine PW.sr [1, 2] 1 trivial ?_
 refine PW.sg ?_
 refine PL.rw 4 [1, 2, 13] 2 (p := ((c.parts.length : Int) ≤ (c.parts.length : Int) ∧ 0 ≤ (c.parts.length : Int) ∧ ((8 : Nat) : Int) * (c.parts.length : Int) ≤ 281474976710656 ∧ (c.parts.length : Int) ≤ 9223372036854775807)) (by omega) ?_
 refine PL.rm 1 (t := 3) (z := 1) (n := c.parts.length) (fun _ => [I 0]) (fun j => [I ((List.replicate c.parts.length (0 : Int)).getD j default)]) (fun j hj => by (try dsimp only); rw [getD_rep _ _ _ _ hj]) ?_
 refine PL.rw 1 [1, 2, 5] 2 trivial ?_
 refine PL.nl ?_
 refine PW.seq ?_
 refine PW.sr [1, 2, 5, 6] 2 trivial ?_
 refine PW.block ?_
 refine PW.lp (α := Nat × List Int) (fun (i, xs) => { tab := [⟨1, [], I (f : Int)⟩, ⟨2, [], D.p 0 0 0 0⟩, ⟨5, [], D.h 1 c.parts.length⟩, ⟨6, [], I (i : Int)⟩], mem := [Obj.var 26 (Config.d c), Obj.row 3 1 c.parts.length (fun j => [I (xs.getD j default)])] }) (fun (i, xs) => i ≤ c.parts.length ∧ xs = List.replicate i (-1) ++ List.replicate (c.parts.length - i) 0) (fun (i, xs) => c.parts.length - i) [1, 2, 5, 6] 2 (0, List.replicate c.parts.length 0) ?_ ?_
 ·dsimp only
  exact ⟨Nat.zero_le _, rfl⟩
 rintro ⟨i, xs⟩ hinv
 dsimp only at hinv
 have hxl : xs.length = c.parts.length := by rw [hinv.2]; simp; omega
 show PW _ _ _ _ _
 refine PW.seq ?_
 refine PW.sr [1, 2, 5, 6, 17] 2 trivial ?_
 refine PW.cd (decide ((i : Int) < (c.parts.length : Int))) (fun hz0 => ?_) (fun hz0 => ?_)
 ·try simp only [boolS, isB_true, isB_false] at hz0
  try have hl := hL i (by omega)
  refine PW.skip ?_
  show PW _ _ _ _ _
  refine PW.seq ?_
  refine PW.block ?_
  refine PW.region ?_
  refine PL.rw 4 [1, 2, 5, 6] 2 (p := (0 ≤ (i : Int) ∧ (i : Int) < (c.parts.length : Int)) ∧ (i < c.parts.length)) (by omega) ?_
  refine PL.rm 1 (t := 3) (z := 1) (n := c.parts.length) (fun j => if j = i then [I (-1)] else (fun j => [I (xs.getD j default)]) j) (fun j => [I ((xs.set i (-1)).getD j default)]) (fun j hj => by (try dsimp only); rw [getD_set (l := xs) (i := i) (v := (-1)) (hi := (by (try simp only [List.length_set, List.length_replicate, List.length_append, List.length_cons, List.length_nil]) <;> omega))]; split <;> rfl) ?_
  refine PL.nil ?_
  show PW _ _ _ _ _
  refine PW.rr [1, 2, 5, 6] 2 trivial ?_
  refine BackR.of (s1 := { tab := [⟨1, [], I (f : Int)⟩, ⟨2, [], D.p 0 0 0 0⟩, ⟨5, [], D.h 1 c.parts.length⟩, ⟨6, [], I (IntKind.i64.wrap ((i : Int) + 1))⟩], mem := [Obj.var 26 (Config.d c), Obj.row 3 1 c.parts.length (fun j => [I ((xs.set i (-1)).getD j default)])] }) (i + 1, xs.set i (-1)) (by kernel_rfl) (by kernel_rfl) ?_ ?_ ?_
  ·dsimp only
   rw [wrap1 i (by omega)]
   exact Rem.refl _
  ·dsimp only
   exact ⟨by omega, by rw [hinv.2]; exact take_rep _ _ _ _ (by omega)⟩
  ·dsimp only
   ((repeat' (first | intro _ | refine And.intro ?_ ?_)) <;> first | omega | trivial | assumption | (rename_i hgd; simp only [Bool.and_eq_true, decide_eq_true_eq, and_true] at hgd; omega))
 ·try simp only [boolS, isB_true, isB_false] at hz0
  try have hl := hL i (by omega)
  refine PW.exit ?_
  show PW _ _ _ _ _
  refine PW.sg ?_
  refine PL.rw 4 [2, 5] 2 (p := (0 ≤ (f : Int) ∧ (f : Int) < (c.parts.length : Int)) ∧ (f < c.parts.length)) (by omega) ?_
  refine PL.rm 1 (t := 3) (z := 1) (n := c.parts.length) (fun j => if j = f then [I 0] else (fun j => [I (xs.getD j default)]) j) (fun j => [I ((xs.set f 0).getD j default)]) (fun j hj => by (try dsimp only); rw [getD_set (l := xs) (i := f) (v := 0) (hi := (by (try simp only [List.length_set, List.length_replicate, List.length_append, List.length_cons, List.length_nil]) <;> omega))]; split <;> rfl) ?_
  refine PL.nl ?_
  refine PW.seq ?_
  refine PW.sr [2, 5, 7] 2 trivial ?_
  refine PW.block ?_
  refine PW.loopR (α := Nat × List Int) (fun (k, xs) => { tab := [⟨2, [], D.p 0 0 0 0⟩, ⟨5, [], D.h 1 c.parts.length⟩, ⟨7, [], I (k : Int)⟩], mem := [Obj.var 26 (Config.d c), Obj.row 3 1 c.parts.length (fun j => [I (xs.getD j default)])] }) (fun (k, xs) => k ≤ c.parts.length ∧ xs = distsN c.links (dists0 c.parts.length f) k) (fun (k, xs) => c.parts.length - k) [2, 5, 7] 2 (0, dists0 c.parts.length f) (s1 := { tab := [⟨2, [], D.p 0 0 0 0⟩, ⟨5, [], D.h 1 c.parts.length⟩, ⟨7, [], I 0⟩], mem := [Obj.var 26 (Config.d c), Obj.row 3 1 c.parts.length (fun j => [I ((xs.set f 0).getD j default)])] }) (by kernel_rfl) (by kernel_rfl) ?_ ?_ ?_
  ·dsimp only
   have hi : i = c.parts.length := by omega
   rw [hi] at hinv
   rw [hinv.2]
   simp only [Nat.sub_self, List.replicate_zero, List.append_nil]
   exact Rem.refl _
  ·dsimp only
   exact ⟨Nat.zero_le _, rfl⟩
  rintro ⟨k, xs⟩ hk
  dsimp only at hk
  have hxl : xs.length = c.parts.length := by rw [hk.2, distsN_len, dists0_len]
  show PW _ _ _ _ _
  refine PW.seq ?_
  refine PW.sr [2, 5, 7, 29] 2 trivial ?_
  refine PW.cd (decide ((k : Int) < (c.parts.length : Int))) (fun hz1 => ?_) (fun hz1 => ?_)
  ·try simp only [boolS, isB_true, isB_false] at hz1
   try have hl := hL i (by omega)
   refine PW.skip ?_
   show PW _ _ _ _ _
   refine PW.seq ?_
   refine PW.block ?_
   refine PW.sr [2, 5, 7, 8] 2 trivial ?_
   refine PW.block ?_
   refine PW.lp (α := Nat × List Int) (fun (i, ys) => { tab := [⟨2, [], D.p 0 0 0 0⟩, ⟨5, [], D.h 1 c.parts.length⟩, ⟨7, [], I (k : Int)⟩, ⟨8, [], I (i : Int)⟩], mem := [Obj.var 26 (Config.d c), Obj.row 3 1 c.parts.length (fun j => [I (ys.getD j default)])] }) (fun (i, ys) => i ≤ c.links.length ∧ ys = sweep c.links (relax k) xs i) (fun (i, ys) => c.links.length - i) [2, 5, 7, 8] 2 (0, xs) ?_ ?_
   ·dsimp only
    exact ⟨Nat.zero_le _, rfl⟩
   rintro ⟨i, ys⟩ hinv
   dsimp only at hinv
   have hyl : ys.length = c.parts.length := by rw [hinv.2, sweep_len, hxl]
   show PW _ _ _ _ _
   refine PW.seq ?_
   refine PW.sr [2, 5, 7, 8, 36] 2 trivial ?_
   refine PW.cd (decide ((i : Int) < (c.links.length : Int))) (fun hz2 => ?_) (fun hz2 => ?_)
   ·try simp only [boolS, isB_true, isB_false] at hz2
    try have hl := hL i (by omega)
    refine PW.skip ?_
    show PW _ _ _ _ _
    refine PW.seq ?_
    refine PW.block ?_
    refine PW.sr [2, 5, 7, 8, 9] 3 (p := (0 ≤ (i : Int) ∧ (i : Int) < (c.links.length : Int))) (by omega) ?_
    refine PW.seq ?_
    refine PW.sr [2, 5, 7, 8, 9, 58] 3 (p := (0 ≤ ((c.links.getD i default).a) ∧ ((c.links.getD i default).a) < (c.parts.length : Int)) ∧ (((c.links.getD i default).a).toNat < c.parts.length) ∧ ((((ys.getD (((c.links.getD i default).a).toNat) default) == (k : Int)) = true ∧ True → 0 ≤ ((c.links.getD i default).b) ∧ ((c.links.getD i default).b) < (c.parts.length : Int))) ∧ ((((ys.getD (((c.links.getD i default).a).toNat) default) == (k : Int)) = true ∧ True → ((c.links.getD i default).b).toNat < c.parts.length))) (by ((repeat' (first | intro _ | refine And.intro ?_ ?_)) <;> first | omega | trivial | assumption | (rename_i hgd; simp only [Bool.and_eq_true, decide_eq_true_eq, and_true] at hgd; omega))) ?_
    refine PW.cd (((ys.getD (((c.links.getD i default).a).toNat) default) == (k : Int)) && (decide ((ys.getD (((c.links.getD i default).b).toNat) default) < (0 : Int)))) (fun hz3 => ?_) (fun hz3 => ?_)
    ·try simp only [boolS, isB_true, isB_false] at hz3
     try have hl := hL i (by omega)
     refine PW.region ?_
     refine PL.rw 7 [2, 5, 7, 8, 9] 3 (p := (0 ≤ ((c.links.getD i default).b) ∧ ((c.links.getD i default).b) < (c.parts.length : Int)) ∧ (((c.links.getD i default).b).toNat < c.parts.length)) (by omega) ?_
     refine PL.rm 1 (t := 3) (z := 1) (n := c.parts.length) (fun j => if j = ((c.links.getD i default).b).toNat then [I (IntKind.i64.wrap ((k : Int) + 1))] else (fun j => [I (ys.getD j default)]) j) (fun j => [I ((ys.set (((c.links.getD i default).b).toNat) (IntKind.i64.wrap ((k : Int) + 1))).getD j default)]) (fun j hj => by (try dsimp only); rw [getD_set (l := ys) (i := ((c.links.getD i default).b).toNat) (v := IntKind.i64.wrap ((k : Int) + 1)) (hi := (by (try simp only [List.length_set, List.length_replicate, List.length_append, List.length_cons, List.length_nil]) <;> omega))]; split <;> rfl) ?_
     refine PL.nil ?_
     show PW _ _ _ _ _
     refine PW.sr [2, 5, 7, 8, 9, 79] 3 (p := (0 ≤ ((c.links.getD i default).b) ∧ ((c.links.getD i default).b) < (c.parts.length : Int)) ∧ (((c.links.getD i default).b).toNat < c.parts.length) ∧ (((((ys.set (((c.links.getD i default).b).toNat) (IntKind.i64.wrap ((k : Int) + 1))).getD (((c.links.getD i default).b).toNat) default) == (k : Int)) = true ∧ True → 0 ≤ ((c.links.getD i default).a) ∧ ((c.links.getD i default).a) < (c.parts.length : Int))) ∧ (((((ys.set (((c.links.getD i default).b).toNat) (IntKind.i64.wrap ((k : Int) + 1))).getD (((c.links.getD i default).b).toNat) default) == (k : Int)) = true ∧ True → ((c.links.getD i default).a).toNat < c.parts.length))) (by ((repeat' (first | intro _ | refine And.intro ?_ ?_)) <;> first | omega | trivial | assumption | (rename_i hgd; simp only [Bool.and_eq_true, decide_eq_true_eq, and_true] at hgd; omega))) ?_
     refine PW.cd ((((ys.set (((c.links.getD i default).b).toNat) (IntKind.i64.wrap ((k : Int) + 1))).getD (((c.links.getD i default).b).toNat) default) == (k : Int)) && (decide (((ys.set (((c.links.getD i default).b).toNat) (IntKind.i64.wrap ((k : Int) + 1))).getD (((c.links.getD i default).a).toNat) default) < (0 : Int)))) (fun hz4 => ?_) (fun hz4 => ?_)
     ·try simp only [boolS, isB_true, isB_false] at hz4
      try have hl := hL i (by omega)
      refine PW.region ?_
      refine PL.rw 7 [2, 5, 7, 8] 3 (p := (0 ≤ ((c.links.getD i default).a) ∧ ((c.links.getD i default).a) < (c.parts.length : Int)) ∧ (((c.links.getD i default).a).toNat < c.parts.length)) (by omega) ?_
      refine PL.rm 1 (t := 3) (z := 1) (n := c.parts.length) (fun j => if j = ((c.links.getD i default).a).toNat then [I (IntKind.i64.wrap ((k : Int) + 1))] else (fun j => [I ((ys.set (((c.links.getD i default).b).toNat) (IntKind.i64.wrap ((k : Int) + 1))).getD j default)]) j) (fun j => [I (((ys.set (((c.links.getD i default).b).toNat) (IntKind.i64.wrap ((k : Int) + 1))).set (((c.links.getD i default).a).toNat) (IntKind.i64.wrap ((k : Int) + 1))).getD j default)]) (fun j hj => by (try dsimp only); rw [getD_set (l := ys.set (((c.links.getD i default).b).toNat) (IntKind.i64.wrap ((k : Int) + 1))) (i := ((c.links.getD i default).a).toNat) (v := IntKind.i64.wrap ((k : Int) + 1)) (hi := (by (try simp only [List.length_set, List.length_replicate, List.length_append, List.length_cons, List.length_nil]) <;> omega))]; split <;> rfl) ?_
      refine PL.nil ?_
      show PW _ _ _ _ _
      refine PW.rr [2, 5, 7, 8] 3 trivial ?_
      refine BackR.of (s1 := { tab := [⟨2, [], D.p 0 0 0 0⟩, ⟨5, [], D.h 1 c.parts.length⟩, ⟨7, [], I (k : Int)⟩, ⟨8, [], I (IntKind.i64.wrap ((i : Int) + 1))⟩], mem := [Obj.var 26 (Config.d c), Obj.row 3 1 c.parts.length (fun j => [I (((ys.set (((c.links.getD i default).b).toNat) (IntKind.i64.wrap ((k : Int) + 1))).set (((c.links.getD i default).a).toNat) (IntKind.i64.wrap ((k : Int) + 1))).getD j default)])] }) (i + 1, (ys.set (((c.links.getD i default).b).toNat) (IntKind.i64.wrap ((k : Int) + 1))).set (((c.links.getD i default).a).toNat) (IntKind.i64.wrap ((k : Int) + 1))) (by kernel_rfl) (by kernel_rfl) ?_ ?_ ?_
      ·dsimp only
       rw [wrap1 i (by omega)]
       exact Rem.refl _
      ·dsimp only
       refine ⟨by omega, ?_⟩
       have hw : IntKind.i64.wrap ((k : Int) + 1) = (k : Int) + 1 := Ev.wrap_i64 (by omega) (by omega)
       rw [sweep, ← hinv.2]
       unfold relax relaxA relaxB
       grind
      ·dsimp only
       ((repeat' (first | intro _ | refine And.intro ?_ ?_)) <;> first | omega | trivial | assumption | (rename_i hgd; simp only [Bool.and_eq_true, decide_eq_true_eq, and_true] at hgd; omega))
     ·try simp only [boolS, isB_true, isB_false] at hz4
      try have hl := hL i (by omega)
      refine PW.skip ?_
      show PW _ _ _ _ _
      refine PW.rr [2, 5, 7, 8] 3 trivial ?_
      refine BackR.of (s1 := { tab := [⟨2, [], D.p 0 0 0 0⟩, ⟨5, [], D.h 1 c.parts.length⟩, ⟨7, [], I (k : Int)⟩, ⟨8, [], I (IntKind.i64.wrap ((i : Int) + 1))⟩], mem := [Obj.var 26 (Config.d c), Obj.row 3 1 c.parts.length (fun j => [I ((ys.set (((c.links.getD i default).b).toNat) (IntKind.i64.wrap ((k : Int) + 1))).getD j default)])] }) (i + 1, ys.set (((c.links.getD i default).b).toNat) (IntKind.i64.wrap ((k : Int) + 1))) (by kernel_rfl) (by kernel_rfl) ?_ ?_ ?_
      ·dsimp only
       rw [wrap1 i (by omega)]
       exact Rem.refl _
      ·dsimp only
       refine ⟨by omega, ?_⟩
       have hw : IntKind.i64.wrap ((k : Int) + 1) = (k : Int) + 1 := Ev.wrap_i64 (by omega) (by omega)
       rw [sweep, ← hinv.2]
       unfold relax relaxA relaxB
       grind
      ·dsimp only
       ((repeat' (first | intro _ | refine And.intro ?_ ?_)) <;> first | omega | trivial | assumption | (rename_i hgd; simp only [Bool.and_eq_true, decide_eq_true_eq, and_true] at hgd; omega))
    ·try simp only [boolS, isB_true, isB_false] at hz3
     try have hl := hL i (by omega)
     refine PW.skip ?_
     show PW _ _ _ _ _
     refine PW.sr [2, 5, 7, 8, 9, 79] 3 (p := (0 ≤ ((c.links.getD i default).b) ∧ ((c.links.getD i default).b) < (c.parts.length : Int)) ∧ (((c.links.getD i default).b).toNat < c.parts.length) ∧ ((((ys.getD (((c.links.getD i default).b).toNat) default) == (k : Int)) = true ∧ True → 0 ≤ ((c.links.getD i default).a) ∧ ((c.links.getD i default).a) < (c.parts.length : Int))) ∧ ((((ys.getD (((c.links.getD i default).b).toNat) default) == (k : Int)) = true ∧ True → ((c.links.getD i default).a).toNat < c.parts.length))) (by ((repeat' (first | intro _ | refine And.intro ?_ ?_)) <;> first | omega | trivial | assumption | (rename_i hgd; simp only [Bool.and_eq_true, decide_eq_true_eq, and_true] at hgd; omega))) ?_
     refine PW.cd (((ys.getD (((c.links.getD i default).b).toNat) default) == (k : Int)) && (decide ((ys.getD (((c.links.getD i default).a).toNat) default) < (0 : Int)))) (fun hz5 => ?_) (fun hz5 => ?_)
     ·try simp only [boolS, isB_true, isB_false] at hz5
      try have hl := hL i (by omega)
      refine PW.region ?_
      refine PL.rw 7 [2, 5, 7, 8] 3 (p := (0 ≤ ((c.links.getD i default).a) ∧ ((c.links.getD i default).a) < (c.parts.length : Int)) ∧ (((c.links.getD i default).a).toNat < c.parts.length)) (by omega) ?_
      refine PL.rm 1 (t := 3) (z := 1) (n := c.parts.length) (fun j => if j = ((c.links.getD i default).a).toNat then [I (IntKind.i64.wrap ((k : Int) + 1))] else (fun j => [I (ys.getD j default)]) j) (fun j => [I ((ys.set (((c.links.getD i default).a).toNat) (IntKind.i64.wrap ((k : Int) + 1))).getD j default)]) (fun j hj => by (try dsimp only); rw [getD_set (l := ys) (i := ((c.links.getD i default).a).toNat) (v := IntKind.i64.wrap ((k : Int) + 1)) (hi := (by (try simp only [List.length_set, List.length_replicate, List.length_append, List.length_cons, List.length_nil]) <;> omega))]; split <;> rfl) ?_
      refine PL.nil ?_
      show PW _ _ _ _ _
      refine PW.rr [2, 5, 7, 8] 3 trivial ?_
      refine BackR.of (s1 := { tab := [⟨2, [], D.p 0 0 0 0⟩, ⟨5, [], D.h 1 c.parts.length⟩, ⟨7, [], I (k : Int)⟩, ⟨8, [], I (IntKind.i64.wrap ((i : Int) + 1))⟩], mem := [Obj.var 26 (Config.d c), Obj.row 3 1 c.parts.length (fun j => [I ((ys.set (((c.links.getD i default).a).toNat) (IntKind.i64.wrap ((k : Int) + 1))).getD j default)])] }) (i + 1, ys.set (((c.links.getD i default).a).toNat) (IntKind.i64.wrap ((k : Int) + 1))) (by kernel_rfl) (by kernel_rfl) ?_ ?_ ?_
      ·dsimp only
       rw [wrap1 i (by omega)]
       exact Rem.refl _
      ·dsimp only
       refine ⟨by omega, ?_⟩
       have hw : IntKind.i64.wrap ((k : Int) + 1) = (k : Int) + 1 := Ev.wrap_i64 (by omega) (by omega)
       rw [sweep, ← hinv.2]
       unfold relax relaxA relaxB
       grind
      ·dsimp only
       ((repeat' (first | intro _ | refine And.intro ?_ ?_)) <;> first | omega | trivial | assumption | (rename_i hgd; simp only [Bool.and_eq_true, decide_eq_true_eq, and_true] at hgd; omega))
     ·try simp only [boolS, isB_true, isB_false] at hz5
      try have hl := hL i (by omega)
      refine PW.skip ?_
      show PW _ _ _ _ _
      refine PW.rr [2, 5, 7, 8] 3 trivial ?_
      refine BackR.of (s1 := { tab := [⟨2, [], D.p 0 0 0 0⟩, ⟨5, [], D.h 1 c.parts.length⟩, ⟨7, [], I (k : Int)⟩, ⟨8, [], I (IntKind.i64.wrap ((i : Int) + 1))⟩], mem := [Obj.var 26 (Config.d c), Obj.row 3 1 c.parts.length (fun j => [I (ys.getD j default)])] }) (i + 1, ys) (by kernel_rfl) (by kernel_rfl) ?_ ?_ ?_
      ·dsimp only
       rw [wrap1 i (by omega)]
       exact Rem.refl _
      ·dsimp only
       refine ⟨by omega, ?_⟩
       have hw : IntKind.i64.wrap ((k : Int) + 1) = (k : Int) + 1 := Ev.wrap_i64 (by omega) (by omega)
       rw [sweep, ← hinv.2]
       unfold relax relaxA relaxB
       grind
      ·dsimp only
       ((repeat' (first | intro _ | refine And.intro ?_ ?_)) <;> first | omega | trivial | assumption | (rename_i hgd; simp only [Bool.and_eq_true, decide_eq_true_eq, and_true] at hgd; omega))
   ·try simp only [boolS, isB_true, isB_false] at hz2
    try have hl := hL i (by omega)
    refine PW.exit ?_
    show PW _ _ _ _ _
    refine PW.rr [2, 5, 7] 2 trivial ?_
    refine BackR.of (s1 := { tab := [⟨2, [], D.p 0 0 0 0⟩, ⟨5, [], D.h 1 c.parts.length⟩, ⟨7, [], I (IntKind.i64.wrap ((k : Int) + 1))⟩], mem := [Obj.var 26 (Config.d c), Obj.row 3 1 c.parts.length (fun j => [I (ys.getD j default)])] }) (k + 1, ys) (by kernel_rfl) (by kernel_rfl) ?_ ?_ ?_
    ·dsimp only
     rw [wrap1 k (by omega)]
     exact Rem.refl _
    ·dsimp only
     exact ⟨by omega, by rw [show i = c.links.length by omega] at hinv; rw [hinv.2, hk.2]; rfl⟩
    ·dsimp only
     ((repeat' (first | intro _ | refine And.intro ?_ ?_)) <;> first | omega | trivial | assumption | (rename_i hgd; simp only [Bool.and_eq_true, decide_eq_true_eq, and_true] at hgd; omega))
  ·try simp only [boolS, isB_true, isB_false] at hz1
   try have hl := hL i (by omega)
   refine PW.exit ?_
   show PW _ _ _ _ _
   refine PW.sr [4] 2 trivial ?_
   refine PW.ret ?_
   refine retQ_ret (d := D.s c.parts.length 1 (fun j => [I (xs.getD j default)])) (ps := [c.parts.length ≤ c.parts.length]) (by kernel_rfl) (show (c.parts.length ≤ c.parts.length) from by ((repeat' (first | intro _ | refine And.intro ?_ ?_)) <;> first | omega | trivial | assumption | (rename_i hgd; simp only [Bool.and_eq_true, decide_eq_true_eq, and_true] at hgd; omega))) ?_
   rw [show k = c.parts.length by omega] at hk
   rw [hk.2]
   show D.s _ _ _ = D.s _ _ _
   rw [show (distsL c f).length = c.parts.length by rw [distsL, distsN_len, dists0_len]]
   rfl
end Go.Proofs.YtagdeldgpkjjjaaDoor.Pl
