/- Package plan's checkLink. -/
import Derived.Test.YtagdeldgpkjjjaaDoorPlEight
namespace Go.Proofs.YtagdeldgpkjjjaaDoor.Pl
open Go.RowKit Go.Proofs.YtagdeldgpkjjjaaDoor.Sm Go.Proofs.YtagdeldgpkjjjaaDoor.Dp
set_option maxHeartbeats 4000000
set_option maxRecDepth 100000
set_option linter.unusedVariables false
set_option linter.unusedSimpArgs false
/-- the errors of package plan: what their variables hold. -/
def sentD (e : Nat → Addr) (k : Nat) : D := D.v (.iface 128 (.pointer (some (e k))))
def errG (e : Nat → Addr) : List (Nat × List D) := [(1, [sentD e 0]), (2, [sentD e 1]), (3, [sentD e 2]), (4, [sentD e 3]), (5, [sentD e 4]), (6, [sentD e 5]), (7, [sentD e 6])]
/-- what checkLink tells. -/
def errD (e : Nat → Addr) (n : Int) : D := if n = 0 then D.v .nilIface else if n = 10 then sentD e 4 else if n = 11 then sentD e 5 else sentD e 6
theorem plan_checkLink_pc (e : Nat → Addr) (c : Config) (i : Nat) (hi : i < c.links.length) (hs : c.links.length < 1000000) (hp : c.parts.length < 1000000) : PC Tryd.prog (errG e) 44 [D.r (Config.d c), I (i : Int)] (· = errD e (linkE c i)) := by
 refine PC.of (N := 76) Tryd.func44 rfl rfl (Nat.le_of_ble_eq_true rfl) ?_
 refine PW.sr [1, 2] 1 trivial ?_
 refine PW.seq ?_
 refine PW.open [1] (by kernel_rfl) ?_
 refine PO.tk [0, 1, 2, 3, 4, 5, 6, 7, 8] 12 [2, 15, 19] 3 (p := (0 ≤ (i : Int) ∧ (i : Int) < (c.links.length : Int)) ∧ (0 ≤ (i : Int) ∧ (i : Int) ≤ (c.links.length : Int))) (by omega) (fun _ _ h => h) ?_
 refine PO.one (n := 2) 9 (by kernel_rfl) ?_
 refine PO1.mm rfl [2, 5, 15, 19] 2 trivial ?_
 refine PO.one (n := 1) 10 (by kernel_rfl) ?_
 refine PO1.mm rfl [2, 5, 19] 2 trivial ?_
 refine PO.tk [11] 1 [2, 5, 6] 0 trivial (fun _ _ h => h) ?_
 refine PO.done (by kernel_rfl) ?_
 show PW _ _ _ _ _
 refine PW.seq ?_
 refine PW.sr [2, 5, 6, 37] 2 trivial ?_
 refine PW.cd (((decide (((c.links.getD i default).a) < (0 : Int))) || (decide (((c.links.getD i default).a) ≥ ((c.links.getD i default).b)))) || (decide (((c.links.getD i default).b) ≥ (c.parts.length : Int)))) (fun hz0 => ?_) (fun hz0 => ?_)
 ·try simp only [boolS, isB_true, isB_false] at hz0
  refine PW.sr [4] 2 trivial ?_
  refine PW.ret ?_
  refine retQ_ret (d := D.v (.iface 128 (.pointer (some (e 4))))) (ps := []) (by kernel_rfl) trivial ?_
  have h : linkE c i = 10 := by unfold linkE isB; rw [if_pos (by grind)]
  rw [h]
  rfl
 ·try simp only [boolS, isB_true, isB_false] at hz0
  refine PW.skip ?_
  show PW _ _ _ _ _
  refine PW.seq ?_
  refine PW.sr [2, 5, 6, 39, 40, 41] 2 trivial ?_
  refine PW.block ?_
  refine PW.lp (α := Nat) (fun m => { tab := [⟨2, [], D.p 0 0 0 0⟩, ⟨5, [], D.p 1 0 0 0⟩, ⟨6, [], D.s i 6 (fun i => Link.d (c.links.getD i default))⟩, ⟨39, [], D.s i 6 (fun i => Link.d (c.links.getD i default))⟩, ⟨40, [], I (i : Int)⟩, ⟨41, [], I (m : Int)⟩], mem := [Obj.var 26 (Config.d c), Obj.var 43 [I ((c.links.getD i default).a), I ((c.links.getD i default).b), I ((c.links.getD i default).pa0), I ((c.links.getD i default).pa1), I ((c.links.getD i default).pb0), I ((c.links.getD i default).pb1)]], gl := (errG e) }) (fun m => m ≤ i ∧ twiceB c.links (c.links.getD i default) m = false) (fun m => i - m) [2, 5, 6, 39, 40, 41] 2 (0) ?_ ?_
  ·exact ⟨Nat.zero_le _, rfl⟩
  rintro m hinv
  show PW _ _ _ _ _
  refine PW.sr [2, 5, 6, 39, 40, 41, 42] 2 trivial ?_
  refine PW.seq ?_
  refine PW.cd (decide ((m : Int) < (i : Int))) (fun hz1 => ?_) (fun hz1 => ?_)
  ·try simp only [boolS, isB_true, isB_false] at hz1
   refine PW.skip ?_
   show PW _ _ _ _ _
   refine PW.seq ?_
   refine PW.block ?_
   refine PW.sr [2, 5, 6, 8, 39, 40, 41] 3 (p := (0 ≤ (m : Int) ∧ (m : Int) < (i : Int))) (by omega) ?_
   refine PW.sr [2, 5, 6, 39, 40, 41, 56] 3 trivial ?_
   refine PW.cd ((((c.links.getD m default).a) == ((c.links.getD i default).a)) && (((c.links.getD m default).b) == ((c.links.getD i default).b))) (fun hz2 => ?_) (fun hz2 => ?_)
   ·try simp only [boolS, isB_true, isB_false] at hz2
    refine PW.sr [4] 3 trivial ?_
    refine PW.ret ?_
    refine retQ_ret (d := D.v (.iface 128 (.pointer (some (e 5))))) (ps := []) (by kernel_rfl) trivial ?_
    have h1 : (!isB (c.links.getD i default).a c.parts.length || !isB (c.links.getD i default).b c.parts.length || decide ((c.links.getD i default).a ≥ (c.links.getD i default).b)) = false := by unfold isB; grind
    have h2 : twiceB c.links (c.links.getD i default) i = true := twice_more (n := m + 1) (by simp only [twiceB, hinv.2]; grind) i (by omega)
    have h : linkE c i = 11 := by unfold linkE; rw [h1, h2]; rfl
    rw [h]
    rfl
   ·try simp only [boolS, isB_true, isB_false] at hz2
    refine PW.skip ?_
    show PW _ _ _ _ _
    refine PW.rr [2, 5, 6, 39, 40, 41] 3 trivial ?_
    refine BackR.of (s1 := { tab := [⟨2, [], D.p 0 0 0 0⟩, ⟨5, [], D.p 1 0 0 0⟩, ⟨6, [], D.s i 6 (fun i => Link.d (c.links.getD i default))⟩, ⟨39, [], D.s i 6 (fun i => Link.d (c.links.getD i default))⟩, ⟨40, [], I (i : Int)⟩, ⟨41, [], I (IntKind.i64.wrap ((m : Int) + 1))⟩], mem := [Obj.var 26 (Config.d c), Obj.var 43 [I ((c.links.getD i default).a), I ((c.links.getD i default).b), I ((c.links.getD i default).pa0), I ((c.links.getD i default).pa1), I ((c.links.getD i default).pb0), I ((c.links.getD i default).pb1)]], gl := (errG e) }) (m + 1) (by kernel_rfl) (by kernel_rfl) ?_ ?_ ?_
    ·rw [wrap1 m (by omega)]
     exact Rem.refl _
    ·exact ⟨by omega, by simp only [twiceB, hinv.2]; grind⟩
    ·((repeat' (first | intro _ | refine And.intro ?_ ?_)) <;> first | omega | trivial | assumption | (rename_i hgd; simp only [Bool.and_eq_true, decide_eq_true_eq, and_true] at hgd; omega))
  ·try simp only [boolS, isB_true, isB_false] at hz1
   refine PW.exit ?_
   show PW _ _ _ _ _
   refine PW.seq ?_
   refine PW.sg ?_
   refine PL.rw 1 [2, 6, 59] 2 trivial ?_
   refine PL.gc (G := (errG e)) (A := []) (fun _ => PC.more (plan_ends_pc (c.links.getD i default))) ?_
   refine PL.rw 1 [2, 6, 60, 61] 2 trivial ?_
   refine PL.nl ?_
   refine PW.block ?_
   refine PW.rounds 3 ?_
   refine PR.succ ?_
   refine PW.sr [2, 6, 60, 61, 62] 2 trivial ?_
   refine PW.seq ?_
   refine PW.cd true (fun hz3 => ?_) (fun hz3 => by cases hz3)
   refine PW.skip ?_
   show PW _ _ _ _ _
   refine PW.seq ?_
   refine PW.block ?_
   refine PW.sr [2, 6, 10, 60, 61] 3 (p := (0 ≤ (0 : Int) ∧ (0 : Int) < ((2 : Nat) : Int))) (by omega) ?_
   refine PW.seq ?_
   refine PW.open [] (by kernel_rfl) ?_
   refine PO.tk [0, 1, 2, 3, 4, 5, 6, 7] 10 [2, 6, 60, 61, 69, 70, 71] 2 (p := (0 ≤ ((c.links.getD i default).a) ∧ ((c.links.getD i default).a) < (c.parts.length : Int))) (by omega) (fun _ _ h => h) ?_
   refine PO.one (n := 1) 8 (by kernel_rfl) ?_
   refine PO1.gc _ (G := (errG e)) (A := []) (fun _ => PC.more (plan_free_pc (c.parts.getD (((c.links.getD i default).a).toNat) default) c.links i ((c.links.getD i default).a) ((c.links.getD i default).pa0) ((c.links.getD i default).pa1) (by omega) (by omega))) ?_ rfl
   refine PO.tk [9] 1 [2, 6, 60, 61, 73] 0 trivial (fun _ _ h => h) ?_
   refine PO.done (by kernel_rfl) ?_
   show PW _ _ _ _ _
   refine PW.cd (!(!endsQ (c.parts.getD (((c.links.getD i default).a).toNat) default).nodes c.links i ((c.links.getD i default).a) ((c.links.getD i default).pa0) ((c.links.getD i default).pa1))) (fun hz4 => ?_) (fun hz4 => ?_)
   ·try simp only [boolS, isB_true, isB_false] at hz4
    refine PW.sr [4] 3 trivial ?_
    refine PW.ret ?_
    refine retQ_ret (d := D.v (.iface 128 (.pointer (some (e 6))))) (ps := []) (by kernel_rfl) trivial ?_
    have h1 : (!isB (c.links.getD i default).a c.parts.length || !isB (c.links.getD i default).b c.parts.length || decide ((c.links.getD i default).a ≥ (c.links.getD i default).b)) = false := by unfold isB; grind
    have h2 : twiceB c.links (c.links.getD i default) i = false := by rw [← hinv.2, show m = i by omega]
    have h : linkE c i = 12 := by unfold linkE; rw [h1, h2, endsQ_eq, endsQ_eq]; grind
    rw [h]
    rfl
   ·try simp only [boolS, isB_true, isB_false] at hz4
    refine PW.skip ?_
    show PW _ _ _ _ _
    refine PW.rr [2, 6, 60, 61] 3 trivial ?_
    show PR _ _ _ _ _ _
    refine PR.succ ?_
    refine PW.sr [2, 6, 60, 61, 62] 3 trivial ?_
    refine PW.seq ?_
    refine PW.cd true (fun hz5 => ?_) (fun hz5 => by cases hz5)
    refine PW.skip ?_
    show PW _ _ _ _ _
    refine PW.seq ?_
    refine PW.block ?_
    refine PW.sr [2, 6, 10, 60, 61] 4 (p := (0 ≤ (1 : Int) ∧ (1 : Int) < ((2 : Nat) : Int))) (by omega) ?_
    refine PW.seq ?_
    refine PW.open [] (by kernel_rfl) ?_
    refine PO.tk [0, 1, 2, 3, 4, 5, 6, 7] 10 [2, 6, 60, 61, 69, 70, 71] 2 (p := (0 ≤ ((c.links.getD i default).b) ∧ ((c.links.getD i default).b) < (c.parts.length : Int))) (by omega) (fun _ _ h => h) ?_
    refine PO.one (n := 1) 8 (by kernel_rfl) ?_
    refine PO1.gc _ (G := (errG e)) (A := []) (fun _ => PC.more (plan_free_pc (c.parts.getD (((c.links.getD i default).b).toNat) default) c.links i ((c.links.getD i default).b) ((c.links.getD i default).pb0) ((c.links.getD i default).pb1) (by omega) (by omega))) ?_ rfl
    refine PO.tk [9] 1 [2, 6, 60, 61, 73] 0 trivial (fun _ _ h => h) ?_
    refine PO.done (by kernel_rfl) ?_
    show PW _ _ _ _ _
    refine PW.cd (!(!endsQ (c.parts.getD (((c.links.getD i default).b).toNat) default).nodes c.links i ((c.links.getD i default).b) ((c.links.getD i default).pb0) ((c.links.getD i default).pb1))) (fun hz6 => ?_) (fun hz6 => ?_)
    ·try simp only [boolS, isB_true, isB_false] at hz6
     refine PW.sr [4] 4 trivial ?_
     refine PW.ret ?_
     refine retQ_ret (d := D.v (.iface 128 (.pointer (some (e 6))))) (ps := []) (by kernel_rfl) trivial ?_
     have h1 : (!isB (c.links.getD i default).a c.parts.length || !isB (c.links.getD i default).b c.parts.length || decide ((c.links.getD i default).a ≥ (c.links.getD i default).b)) = false := by unfold isB; grind
     have h2 : twiceB c.links (c.links.getD i default) i = false := by rw [← hinv.2, show m = i by omega]
     have h : linkE c i = 12 := by unfold linkE; rw [h1, h2, endsQ_eq, endsQ_eq]; grind
     rw [h]
     rfl
    ·try simp only [boolS, isB_true, isB_false] at hz6
     refine PW.skip ?_
     show PW _ _ _ _ _
     refine PW.rr [2, 6, 60, 61] 4 trivial ?_
     show PR _ _ _ _ _ _
     refine PR.succ ?_
     refine PW.sr [2, 6, 60, 61, 62] 4 trivial ?_
     refine PW.seq ?_
     refine PW.cd false (fun hz7 => by cases hz7) (fun hz7 => ?_)
     refine PW.exit ?_
     show PW _ _ _ _ _
     refine PW.sr [4] 4 trivial ?_
     refine PW.ret ?_
     refine retQ_ret (d := D.v (.nilIface)) (ps := []) (by kernel_rfl) trivial ?_
     have h1 : (!isB (c.links.getD i default).a c.parts.length || !isB (c.links.getD i default).b c.parts.length || decide ((c.links.getD i default).a ≥ (c.links.getD i default).b)) = false := by unfold isB; grind
     have h2 : twiceB c.links (c.links.getD i default) i = false := by rw [← hinv.2, show m = i by omega]
     have h : linkE c i = 0 := by unfold linkE; rw [h1, h2, endsQ_eq, endsQ_eq]; grind
     rw [h]
     rfl
end Go.Proofs.YtagdeldgpkjjjaaDoor.Pl
