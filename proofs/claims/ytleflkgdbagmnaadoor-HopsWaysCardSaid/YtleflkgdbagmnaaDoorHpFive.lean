/- Package hops' next. -/
import Derived.Test.YtleflkgdbagmnaaDoorHpMath
namespace Go.Proofs.YtleflkgdbagmnaaDoor.Pl
open Go.RowKit Go.Proofs.YtleflkgdbagmnaaDoor.Sm Go.Proofs.YtleflkgdbagmnaaDoor.Dp
set_option maxHeartbeats 4000000
set_option maxRecDepth 100000
set_option linter.unusedVariables false
set_option linter.unusedSimpArgs false
/-- the first that is so. -/
def idxF (p : Nat → Bool) : Nat → Nat → Int
  | 0, _ => -1
  | k + 1, i => if p i = true then (i : Int) else idxF p k (i + 1)
def nextB (l : Link) (a : Int) (xs : List Int) : Bool := ((l.a == a) || (l.b == a)) && decide (xs.getD (acrossI l a).toNat default < xs.getD a.toNat default)
def nextI (ls : List Link) (xs : List Int) (a : Int) : Int := idxF (fun i => nextB (ls.getD i default) a xs) ls.length 0
theorem across_in {l : Link} {a : Int} {n : Nat} (h1 : 0 ≤ l.a ∧ l.a < n) (h2 : 0 ≤ l.b ∧ l.b < n) : 0 ≤ acrossI l a ∧ acrossI l a < n := by unfold acrossI; split <;> omega
/-- ends of links lie below n. -/
def EndsIn (ls : List Link) (n : Nat) : Prop := ∀ i, i < ls.length → (0 ≤ (ls.getD i default).a ∧ (ls.getD i default).a < n) ∧ (0 ≤ (ls.getD i default).b ∧ (ls.getD i default).b < n)
theorem hops_next1_pc (l : Link) (a : Int) (xs : List Int) (h1 : 0 ≤ l.a ∧ l.a < (xs.length : Int)) (h2 : 0 ≤ l.b ∧ l.b < (xs.length : Int)) (h3 : 0 ≤ a ∧ a < (xs.length : Int)) : PC Tryd.prog [] 34 [D.r (Link.d l), D.q [I a] 0, D.q [sl' 1 (fun x => [I x]) xs] 0] (· = D.v (.bool (nextB l a xs))) := by
 refine PC.of (N := 28) Tryd.func34 rfl rfl (Nat.le_of_ble_eq_true rfl) ?_
 have hac := across_in (a := a) h1 h2
 refine PW.sr [1, 2, 3] 1 trivial ?_
 refine PW.seq ?_
 refine PW.open [] (by kernel_rfl) ?_
 refine PO.tk [0, 1, 2, 3, 4, 5, 6, 7, 8, 9, 10, 11, 12, 13, 17, 18, 19, 20] 24 [15, 16, 17, 18, 25] 6 (p := ((((l.a == a) || (l.b == a)) = true ∧ True → 0 ≤ a ∧ a < (xs.length : Int)))) (by ((repeat' (first | intro _ | refine And.intro ?_ ?_)) <;> first | omega | trivial | assumption | (rename_i hgd; simp only [Bool.and_eq_true, decide_eq_true_eq, and_true] at hgd; omega))) (fun _ _ h => h) ?_
 refine PO.one (n := 5) 14 (by kernel_rfl) ?_
 refine PO1.gc _ (A := [(15, true)]) (fun _ => hops_across_pc l a) ?_ rfl
 refine PO.tk [15, 16, 21, 22, 23] 5 [4] 0 (p := ((((l.a == a) || (l.b == a)) = true ∧ True → 0 ≤ (acrossI l a) ∧ (acrossI l a) < (xs.length : Int)))) (by ((repeat' (first | intro _ | refine And.intro ?_ ?_)) <;> first | omega | trivial | assumption | (rename_i hgd; simp only [Bool.and_eq_true, decide_eq_true_eq, and_true] at hgd; omega))) (fun _ _ h => h) ?_
 refine PO.done (by kernel_rfl) ?_
 show PW _ _ _ _ _
 refine PW.ret ?_
 refine retQ_ret (d := D.v (.bool (((l.a == a) || (l.b == a)) && (decide ((xs.getD ((acrossI l a).toNat) default) < (xs.getD a.toNat default)))))) (ps := []) (by kernel_rfl) trivial ?_
 rfl
theorem slices_IndexFunc_pc (ls : List Link) (xs : List Int) (a : Int) (hl : ls.length < 1000000) (hE : EndsIn ls xs.length) (h3 : 0 ≤ a ∧ a < (xs.length : Int))  : PC Tryd.prog [] 33 [sl' 6 Link.d ls, D.c 34 [D.q [I a] 0, D.q [sl' 1 (fun x => [I x]) xs] 0]] (· = I (nextI ls xs a)) := by
 refine PC.of (N := 19) Tryd.func33 rfl rfl (Nat.le_of_ble_eq_true rfl) ?_
 refine PW.sr [0, 1] 0 trivial ?_
 refine PW.seq ?_
 refine PW.sr [0, 1, 7, 8] 0 trivial ?_
 refine PW.block ?_
 refine PW.lp (α := Nat) (fun i => { tab := [⟨0, [], sl' 6 Link.d ls⟩, ⟨1, [], D.c 34 [D.q [I a] 0, D.q [sl' 1 (fun x => [I x]) xs] 0]⟩, ⟨7, [], I (ls.length : Int)⟩, ⟨8, [], I (i : Int)⟩], mem := [] }) (fun i => i ≤ ls.length ∧ idxF (fun i => nextB (ls.getD i default) a xs) ls.length 0 = idxF (fun i => nextB (ls.getD i default) a xs) (ls.length - i) i) (fun i => ls.length - i) [0, 1, 7, 8] 0 (0) ?_ ?_
 ·exact ⟨Nat.zero_le _, rfl⟩
 rintro i hinv
 show PW _ _ _ _ _
 refine PW.sr [0, 1, 7, 8, 9] 0 trivial ?_
 refine PW.seq ?_
 refine PW.cd (decide ((i : Int) < (ls.length : Int))) (fun hz0 => ?_) (fun hz0 => ?_)
 ·try simp only [boolS, isB_true, isB_false] at hz0
  refine PW.skip ?_
  show PW _ _ _ _ _
  refine PW.seq ?_
  refine PW.block ?_
  refine PW.sr [0, 1, 5, 7, 8] 0 trivial ?_
  refine PW.sg ?_
  refine PL.rw 5 [0, 1, 5, 7, 8, 11, 15] 0 (p := (0 ≤ (i : Int) ∧ (i : Int) < (ls.length : Int))) (by omega) ?_
  refine PL.gc (A := []) (fun _ => hops_next1_pc (ls.getD i default) a xs (hE i (by omega)).1 (hE i (by omega)).2 h3) ?_
  refine PL.nl ?_
  refine PW.cd (nextB (ls.getD i default) a xs) (fun hz1 => ?_) (fun hz1 => ?_)
  ·try simp only [boolS, isB_true, isB_false] at hz1
   refine PW.sr [4] 0 trivial ?_
   refine PW.ret ?_
   refine retQ_ret (d := I (i : Int)) (ps := []) (by kernel_rfl) trivial ?_
   show I _ = I _
   unfold nextI
   rw [hinv.2, show ls.length - i = (ls.length - i - 1) + 1 by omega, idxF, if_pos hz1]
  ·try simp only [boolS, isB_true, isB_false] at hz1
   refine PW.skip ?_
   show PW _ _ _ _ _
   refine PW.rr [0, 1, 7, 8] 0 trivial ?_
   refine BackR.of (s1 := { tab := [⟨0, [], sl' 6 Link.d ls⟩, ⟨1, [], D.c 34 [D.q [I a] 0, D.q [sl' 1 (fun x => [I x]) xs] 0]⟩, ⟨7, [], I (ls.length : Int)⟩, ⟨8, [], I (IntKind.i64.wrap ((i : Int) + 1))⟩], mem := [] }) (i + 1) (by kernel_rfl) (by kernel_rfl) ?_ ?_ ?_
   ·rw [wrap1 i (by omega)]
    exact Rem.refl _
   ·refine ⟨by omega, ?_⟩
    rw [hinv.2, show ls.length - i = (ls.length - (i + 1)) + 1 by omega, idxF, if_neg (by rw [hz1]; decide)]
   ·((repeat' (first | intro _ | refine And.intro ?_ ?_)) <;> first | omega | trivial | assumption | (rename_i hgd; simp only [Bool.and_eq_true, decide_eq_true_eq, and_true] at hgd; omega))
 ·try simp only [boolS, isB_true, isB_false] at hz0
  refine PW.exit ?_
  show PW _ _ _ _ _
  refine PW.sr [4] 0 trivial ?_
  refine PW.ret ?_
  refine retQ_ret (d := I (-1)) (ps := []) (by kernel_rfl) trivial ?_
  show I _ = I _
  unfold nextI
  rw [hinv.2, show ls.length - i = 0 by omega, idxF]
theorem hops_next_pc (ls : List Link) (xs : List Int) (a : Int) (hl : ls.length < 1000000) (hE : EndsIn ls xs.length) (h3 : 0 ≤ a ∧ a < (xs.length : Int))  : PC Tryd.prog [] 23 [sl' 6 Link.d ls, sl' 1 (fun x => [I x]) xs, I a] (· = I (nextI ls xs a)) := by
 refine PC.of (N := 10) Tryd.func23 rfl rfl (Nat.le_of_ble_eq_true rfl) ?_
 refine PW.sr [0, 4, 5] 2 trivial ?_
 refine PW.sg ?_
 refine PL.rw 1 [4, 5, 7] 2 trivial ?_
 refine PL.sl [4, 5, 7] 2 ?_
 refine PL.fz 1 (t := 3) [I a] ?_
 refine PL.fz 0 (t := 29) [sl' 1 (fun x => [I x]) xs] ?_
 refine PL.mk (f := 34) (cap := #[.tmp 5, .tmp 4]) [D.q [I a] 0, D.q [sl' 1 (fun x => [I x]) xs] 0] ?_
 refine PL.gc (A := []) (fun _ => slices_IndexFunc_pc ls xs a hl hE h3) ?_
 refine PL.rw 1 [6] 2 trivial ?_
 refine PL.nl ?_
 refine PW.ret ?_
 refine retQ_ret (d := I (nextI ls xs a)) (ps := []) (by kernel_rfl) trivial ?_
 rfl
end Go.Proofs.YtleflkgdbagmnaaDoor.Pl
