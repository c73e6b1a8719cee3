/- The document's own link of chapter 5. -/
import Derived.Test.YtagdeldgpkjjjaaDoorPlThree
namespace Go.Proofs.YtagdeldgpkjjjaaDoor.Pl
open Go.RowKit Go.Proofs.YtagdeldgpkjjjaaDoor.Sm Go.Proofs.YtagdeldgpkjjjaaDoor.Dp
set_option maxHeartbeats 4000000
set_option maxRecDepth 100000
set_option linter.unusedVariables false
set_option linter.unusedSimpArgs false
/-- is a link there already, among the first k? -/
def twiceB (ls : List Link) (l : Link) : Nat → Bool
  | 0 => false
  | k + 1 => twiceB ls l k || (decide ((ls.getD k default).a = l.a) && decide ((ls.getD k default).b = l.b))
/-- what is wrong with link i. -/
def linkE (c : Config) (i : Nat) : Int :=
  if (!isB (c.links.getD i default).a c.parts.length || !isB (c.links.getD i default).b c.parts.length || decide ((c.links.getD i default).a ≥ (c.links.getD i default).b)) = true then 10
  else if twiceB c.links (c.links.getD i default) i = true then 11
  else if (endsB c i (c.links.getD i default).a (c.links.getD i default).pa0 (c.links.getD i default).pa1 || endsB c i (c.links.getD i default).b (c.links.getD i default).pb0 (c.links.getD i default).pb1) = true then 12 else 0
theorem twice_more {ls : List Link} {l : Link} {n : Nat} (h : twiceB ls l n = true) : ∀ m, n ≤ m → twiceB ls l m = true
  | 0, hm => by
    have : n = 0 := by omega
    subst this
    exact h
  | m + 1, hm => by
    rcases Nat.lt_or_ge m n with h1 | h1
    · have : n = m + 1 := by omega
      subst this
      exact h
    · simp only [twiceB, twice_more h m h1, Bool.true_or]
theorem drumlineref5_link_pc (c : Config) (i : Nat) (hi : i < c.links.length) (hs : c.links.length < 1000000) (hp : c.parts.length < 1000000) : PC Tryd.prog [] 41 [D.r (Config.d c), I (i : Int)] (· = I (linkE c i)) := by
 refine PC.of (N := 76) Tryd.func41 rfl rfl (Nat.le_of_ble_eq_true rfl) ?_
 refine PW.sr [1, 2] 1 trivial ?_
 refine PW.sr [1, 2, 5] 2 (p := (0 ≤ (i : Int) ∧ (i : Int) < (c.links.length : Int))) (by omega) ?_
 refine PW.seq ?_
 refine PW.sg ?_
 refine PL.rw 5 [1, 2, 5, 13, 16] 2 trivial ?_
 refine PL.gc (A := []) (fun _ => drumlineref5_is_pc ((c.links.getD i default).a) (c.parts.length : Int)) ?_
 refine PL.rw 7 [1, 2, 5, 19, 21, 24] 2 trivial ?_
 refine PL.gc (A := [(19, false)]) (fun _ => drumlineref5_is_pc ((c.links.getD i default).b) (c.parts.length : Int)) ?_
 refine PL.rw 9 [1, 2, 5, 34] 2 trivial ?_
 refine PL.nl ?_
 refine PW.cd (((!(isB ((c.links.getD i default).a) (c.parts.length : Int))) || (!(isB ((c.links.getD i default).b) (c.parts.length : Int)))) || (decide (((c.links.getD i default).a) ≥ ((c.links.getD i default).b)))) (fun hz0 => ?_) (fun hz0 => ?_)
 ·try simp only [boolS, isB_true, isB_false] at hz0
  refine PW.sr [4] 2 trivial ?_
  refine PW.ret ?_
  refine retQ_ret (d := I 10) (ps := []) (by kernel_rfl) trivial ?_
  refine congrArg I ?_
  unfold linkE
  rw [if_pos (by simp only [Bool.or_eq_true, Bool.not_eq_true', decide_eq_true_eq, isB_false]; grind)]
 ·try simp only [boolS, isB_true, isB_false] at hz0
  refine PW.skip ?_
  show PW _ _ _ _ _
  refine PW.seq ?_
  refine PW.sr [1, 2, 5, 6] 2 trivial ?_
  refine PW.block ?_
  refine PW.lp (α := Nat) (fun k => { tab := [⟨1, [], I (i : Int)⟩, ⟨2, [], D.p 0 0 0 0⟩, ⟨5, [], D.p 1 0 0 0⟩, ⟨6, [], I (k : Int)⟩], mem := [Obj.var 26 (Config.d c), Obj.var 43 [I ((c.links.getD i default).a), I ((c.links.getD i default).b), I ((c.links.getD i default).pa0), I ((c.links.getD i default).pa1), I ((c.links.getD i default).pb0), I ((c.links.getD i default).pb1)]] }) (fun k => k ≤ i ∧ twiceB c.links (c.links.getD i default) k = false) (fun k => i - k) [1, 2, 5, 6] 2 (0) ?_ ?_
  ·exact ⟨Nat.zero_le _, rfl⟩
  rintro k hinv
  show PW _ _ _ _ _
  refine PW.seq ?_
  refine PW.sr [1, 2, 5, 6, 37] 2 trivial ?_
  refine PW.cd (decide ((k : Int) < (i : Int))) (fun hz1 => ?_) (fun hz1 => ?_)
  ·try simp only [boolS, isB_true, isB_false] at hz1
   refine PW.skip ?_
   show PW _ _ _ _ _
   refine PW.seq ?_
   refine PW.block ?_
   refine PW.seq ?_
   refine PW.open [] (by kernel_rfl) ?_
   refine PO.tk [0, 1, 2, 3, 4, 5, 6, 7, 8, 9, 10, 11, 12, 13, 14, 15, 16, 17, 18, 19] 20 [1, 2, 5, 6, 59] 0 (p := (0 ≤ (k : Int) ∧ (k : Int) < (c.links.length : Int)) ∧ (((((c.links.getD k default).a) == ((c.links.getD i default).a)) = true ∧ True → 0 ≤ (k : Int) ∧ (k : Int) < (c.links.length : Int)))) (by ((repeat' (first | intro _ | refine And.intro ?_ ?_)) <;> first | omega | trivial | assumption | (rename_i hgd; simp only [Bool.and_eq_true, decide_eq_true_eq, and_true] at hgd; omega))) (fun _ _ h => h) ?_
   refine PO.done (by kernel_rfl) ?_
   show PW _ _ _ _ _
   refine PW.cd ((((c.links.getD k default).a) == ((c.links.getD i default).a)) && (((c.links.getD k default).b) == ((c.links.getD i default).b))) (fun hz2 => ?_) (fun hz2 => ?_)
   ·try simp only [boolS, isB_true, isB_false] at hz2
    refine PW.sr [4] 2 trivial ?_
    refine PW.ret ?_
    refine retQ_ret (d := I 11) (ps := []) (by kernel_rfl) trivial ?_
    refine congrArg I ?_
    unfold linkE
    rw [if_neg (by simp only [Bool.or_eq_true, Bool.not_eq_true', decide_eq_true_eq, isB_false]; grind), if_pos (twice_more (n := k + 1) (by simp only [twiceB, Bool.or_eq_true, Bool.and_eq_true, decide_eq_true_eq]; grind) i (by omega))]
   ·try simp only [boolS, isB_true, isB_false] at hz2
    refine PW.skip ?_
    show PW _ _ _ _ _
    refine PW.rr [1, 2, 5, 6] 2 trivial ?_
    refine BackR.of (s1 := { tab := [⟨1, [], I (i : Int)⟩, ⟨2, [], D.p 0 0 0 0⟩, ⟨5, [], D.p 1 0 0 0⟩, ⟨6, [], I (IntKind.i64.wrap ((k : Int) + 1))⟩], mem := [Obj.var 26 (Config.d c), Obj.var 43 [I ((c.links.getD i default).a), I ((c.links.getD i default).b), I ((c.links.getD i default).pa0), I ((c.links.getD i default).pa1), I ((c.links.getD i default).pb0), I ((c.links.getD i default).pb1)]] }) (k + 1) (by kernel_rfl) (by kernel_rfl) ?_ ?_ ?_
    ·rw [wrap1 k (by omega)]
     exact Rem.refl _
    ·exact ⟨by omega, by simp only [twiceB, Bool.or_eq_false_iff, Bool.and_eq_false_iff, decide_eq_false_iff_not]; grind⟩
    ·((repeat' (first | intro _ | refine And.intro ?_ ?_)) <;> first | omega | trivial | assumption | (rename_i hgd; simp only [Bool.and_eq_true, decide_eq_true_eq, and_true] at hgd; omega))
  ·try simp only [boolS, isB_true, isB_false] at hz1
   refine PW.exit ?_
   show PW _ _ _ _ _
   refine PW.seq ?_
   refine PW.sg ?_
   refine PL.rw 6 [1, 2, 5, 60, 61, 63, 65] 2 trivial ?_
   refine PL.gc (A := []) (fun _ => drumlineref5_ends_pc c i ((c.links.getD i default).a) ((c.links.getD i default).pa0) ((c.links.getD i default).pa1) (by omega) (by omega) (by omega)) ?_
   refine PL.rw 7 [67, 68, 69, 71, 73] 2 trivial ?_
   refine PL.gc (A := [(67, false)]) (fun _ => drumlineref5_ends_pc c i ((c.links.getD i default).b) ((c.links.getD i default).pb0) ((c.links.getD i default).pb1) (by omega) (by omega) (by omega)) ?_
   refine PL.rw 1 [75] 2 trivial ?_
   refine PL.nl ?_
   refine PW.cd ((endsB c i ((c.links.getD i default).a) ((c.links.getD i default).pa0) ((c.links.getD i default).pa1)) || (endsB c i ((c.links.getD i default).b) ((c.links.getD i default).pb0) ((c.links.getD i default).pb1))) (fun hz3 => ?_) (fun hz3 => ?_)
   ·try simp only [boolS, isB_true, isB_false] at hz3
    refine PW.sr [4] 2 trivial ?_
    refine PW.ret ?_
    refine retQ_ret (d := I 12) (ps := []) (by kernel_rfl) trivial ?_
    refine congrArg I ?_
    have hki : k = i := by omega
    subst hki
    unfold linkE
    rw [if_neg (by simp only [Bool.or_eq_true, Bool.not_eq_true', decide_eq_true_eq, isB_false]; grind), if_neg (by rw [hinv.2]; simp), if_pos (by simp only [Bool.or_eq_true]; grind)]
   ·try simp only [boolS, isB_true, isB_false] at hz3
    refine PW.skip ?_
    show PW _ _ _ _ _
    refine PW.sr [4] 2 trivial ?_
    refine PW.ret ?_
    refine retQ_ret (d := I 0) (ps := []) (by kernel_rfl) trivial ?_
    refine congrArg I ?_
    have hki : k = i := by omega
    subst hki
    unfold linkE
    rw [if_neg (by simp only [Bool.or_eq_true, Bool.not_eq_true', decide_eq_true_eq, isB_false]; grind), if_neg (by rw [hinv.2]; simp), if_neg (by simp only [Bool.or_eq_true]; grind)]
end Go.Proofs.YtagdeldgpkjjjaaDoor.Pl
