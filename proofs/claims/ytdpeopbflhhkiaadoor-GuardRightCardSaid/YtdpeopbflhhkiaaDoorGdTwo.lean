/- Chapter 10's law GuardRight. -/
import Derived.Test.YtdpeopbflhhkiaaDoorGdLaw
import Derived.Test.YtdpeopbflhhkiaaDoorCkTwo
namespace Go.Proofs.YtdpeopbflhhkiaaDoor.Pl
open Go.RowKit Go.Proofs.YtdpeopbflhhkiaaDoor.Sm Go.Proofs.YtdpeopbflhhkiaaDoor.Dp
set_option maxHeartbeats 4000000
set_option maxRecDepth 100000
set_option linter.unusedVariables false
set_option linter.unusedSimpArgs false
theorem real_small {x p : Int} (hx : 0 ≤ x ∧ x ≤ 1000000) (hp : -1000000 ≤ p ∧ p ≤ 1000000) : -2000002 ≤ realI x p ∧ realI x p ≤ 2000002 := by
  rw [real_is (by omega) (by omega)]
  have h1 := mul_abs (A := 1000000) (B := 1000000) (by omega) (show -1000000 ≤ x ∧ x ≤ 1000000 by omega) hp
  generalize x * p = z at h1 ⊢
  omega
theorem guard_right {c : Config} (hR : InR c) (hW : c.window = 3 * edgeI c) {s o x d r : Int} (hs : -549755813888 ≤ s ∧ s ≤ 549755813888) (ho : -(2 * edgeI c) ≤ o ∧ o ≤ 2 * edgeI c) (hx : 0 ≤ x ∧ x ≤ c.cycle) (hd : -c.drift ≤ d ∧ d ≤ c.drift) (hr : -c.rate ≤ r ∧ r ≤ c.rate) : passB ⟨true, s, []⟩ x r c.window (s + o + realI x (d + r)) = true := by
  have r1 := hR.cyc
  have r2 := hR.dri
  have r3 := hR.rat
  have r8 := hR.edg
  have h1 := real_apart hR (x := x) (p := d) (q := 0) (r := r) hx hd (by omega) hr
  rw [Int.zero_add] at h1
  have h2 := real_small (x := x) (p := d + r) (by omega) (by omega)
  have h3 := real_small (x := x) (p := r) (by omega) (by omega)
  have hb : lateB ⟨true, s, []⟩ x (s + o + realI x (d + r)) = true := lateB_iff.2 ⟨rfl, by dsimp only; omega, by omega, by omega⟩
  have hi := (late_is r hb).1
  dsimp only at hi
  rw [passB, hb, decide_eq_true (by omega), decide_eq_true (by omega)]
  rfl
theorem drumlinelaw10_GuardRight_pc (e : Nat → Addr) (hA : Apart e) (n s o d r a : Int) (c : Config) (hM : PC Tryd.prog (errG3 e) 5 [I n] (· = D.r (Config.d c))) (hp0 : c.parts.length < 1000000) (hl0 : c.links.length < 1000000) (N : Nums c) (hr : rangedB c = true) (ha : 0 ≤ a ∧ a ≤ 65535) : PC Tryd.prog (errG3 e) 3 [I n, I s, I o, I d, I r, D.v (.int .u16 a)] (· = D.v (.bool true)) := by
 refine PC.of (N := 88) Tryd.func3 rfl rfl (Nat.le_of_ble_eq_true rfl) ?_
 obtain ⟨h, he, hj⟩ := N.all
 have hR := inR_of h
 have n1 := N.cyc
 have n5 := N.dri
 have n6 := N.rat
 have n7 := N.win
 have r8 := hR.edg
 have wd : IntKind.i64.wrap (0 - c.drift) = -c.drift := by rw [Ev.wrap_i64 (by omega) (by omega)]; omega
 have wr : IntKind.i64.wrap (0 - c.rate) = -c.rate := by rw [Ev.wrap_i64 (by omega) (by omega)]; omega
 have we : IntKind.i64.wrap (0 - 2 * edgeI c) = -(2 * edgeI c) := by rw [Ev.wrap_i64 (by omega) (by omega)]; omega
 have wa : IntKind.i64.wrap a = a := Ev.wrap_i64 (by omega) (by omega)
 refine PW.sr [0, 1, 2, 3, 4, 5] 0 trivial ?_
 refine PW.seq ?_
 refine PW.sg ?_
 refine PL.gc (G := (errG3 e)) (A := []) (fun _ => PC.more (drumlinelaw10_alive_pc)) ?_
 refine PL.rw 9 [0, 1, 2, 3, 4, 5, 25] 0 trivial ?_
 refine PL.nl ?_
 refine PW.cd ((false || (decide (s < ((-549755813888) : Int)))) || (decide (s > (549755813888 : Int)))) (fun hz0 => ?_) (fun hz0 => ?_)
 ·try simp only [boolS, isB_true, isB_false] at hz0
  refine PW.sg ?_
  refine PL.gc (G := (errG3 e)) (A := []) (fun _ => PC.more (drumlinelaw10_alive_pc)) ?_
  refine PL.rw 1 [12] 0 trivial ?_
  refine PL.nl ?_
  refine PW.ret ?_
  refine retQ_ret (d := D.v (.bool true)) (ps := []) (by kernel_rfl) trivial ?_
  rfl
 ·try simp only [boolS, isB_true, isB_false] at hz0
  refine PW.skip ?_
  show PW _ _ _ _ _
  refine PW.sg ?_
  refine PL.rw 1 [1, 2, 3, 4, 5, 27] 0 trivial ?_
  refine PL.gc (A := []) (fun _ => hM) ?_
  refine PL.rw 2 [1, 2, 3, 4, 5, 13] 1 trivial ?_
  refine PL.nl ?_
  refine PW.seq ?_
  refine PW.sg ?_
  refine PL.rw 27 [1, 2, 3, 4, 5, 13, 53, 54, 55] 1 trivial ?_
  refine PL.gc (d := I (2 * edgeI c)) (A := [(53, false)]) (fun _ => (bounds_Near_pc e hA c hp0 hl0).eq (congrArg (fun x => I (2 * x)) (if_pos hr))) ?_
  refine PL.rw 5 [1, 2, 3, 4, 5, 13, 59, 60, 61] 1 trivial ?_
  refine PL.gc (d := I (2 * edgeI c)) (A := [(59, false)]) (fun _ => (bounds_Near_pc e hA c hp0 hl0).eq (congrArg (fun x => I (2 * x)) (if_pos hr))) ?_
  refine PL.rw 3 [1, 2, 3, 4, 5, 13, 65] 1 trivial ?_
  refine PL.nl ?_
  refine PW.cd ((((((decide (d < (IntKind.i64.wrap (0 - c.drift)))) || (decide (d > c.drift))) || (decide (r < (IntKind.i64.wrap (0 - c.rate))))) || (decide (r > c.rate))) || (decide (o > (2 * edgeI c)))) || (decide (o < (IntKind.i64.wrap (0 - (2 * edgeI c)))))) (fun hz1 => ?_) (fun hz1 => ?_)
  ·try simp only [boolS, isB_true, isB_false] at hz1
   refine PW.sr [12] 1 trivial ?_
   refine PW.ret ?_
   refine retQ_ret (d := D.v (.bool true)) (ps := []) (by kernel_rfl) trivial ?_
   rfl
  ·try simp only [boolS, isB_true, isB_false] at hz1
   refine PW.skip ?_
   show PW _ _ _ _ _
   refine PW.sg ?_
   refine PL.rw 4 [1, 2, 3, 4, 13, 67, 69] 1 trivial ?_
   refine PL.div (k := .i64) (A := []) (IntKind.i64.wrap a) c.cycle ((IntKind.i64.wrap a).tmod c.cycle) rfl (by first | exact .inl ⟨rfl, rfl⟩ | exact .inr ⟨rfl, rfl⟩) (by kernel_rfl) (by kernel_rfl) (by kernel_rfl) (by kernel_rfl) (by kernel_rfl) (fun _ => by omega) ?_
   refine PL.rw 1 [1, 2, 3, 4, 13, 14] 1 trivial ?_
   refine PL.nl ?_
   refine PW.sr [1, 2, 3, 4, 13, 14, 15] 2 trivial ?_
   refine PW.seq ?_
   refine PW.open [] (by kernel_rfl) ?_
   refine PO.tk [0, 1, 2, 3, 4, 5, 6, 7, 8, 9, 10, 11] 16 [73, 74, 75, 77, 80, 81, 84] 4 trivial (fun _ _ h => h) ?_
   refine PO.one (n := 3) 12 (by kernel_rfl) ?_
   refine PO1.gc _ (G := (errG3 e)) (A := []) (fun _ => PC.more (clock_Real_pc ((IntKind.i64.wrap a).tmod c.cycle) (IntKind.i64.wrap (d + r)))) ?_ rfl
   refine PO.tk [13] 3 [73, 74, 75, 77, 86] 2 trivial (fun _ _ h => h) ?_
   refine PO.one (n := 1) 14 (by kernel_rfl) ?_
   refine PO1.gc _ (G := (errG3 e)) (A := []) (fun _ => PC.more (PC.argnil (ds := [D.r [D.v (.bool true), I s, D.v (.slice none 0 0)], I ((IntKind.i64.wrap a).tmod c.cycle), I r, I c.window, I (IntKind.i64.wrap ((IntKind.i64.wrap (s + o)) + (realI ((IntKind.i64.wrap a).tmod c.cycle) (IntKind.i64.wrap (d + r)))))]) 0 2 1 (fun i => [I (([] : List Int).getD i default)]) rfl rfl (guard_Pass_pc (⟨true, s, []⟩ : Guard) ((IntKind.i64.wrap a).tmod c.cycle) r c.window (IntKind.i64.wrap ((IntKind.i64.wrap (s + o)) + (realI ((IntKind.i64.wrap a).tmod c.cycle) (IntKind.i64.wrap (d + r))))) (by unfold Is64 at *; omega)))) ?_ rfl
   refine PO.tk [15] 1 [12] 0 trivial (fun _ _ h => h) ?_
   refine PO.done (by kernel_rfl) ?_
   show PW _ _ _ _ _
   refine PW.ret ?_
   refine retQ_ret (d := D.v (.bool (passB (⟨true, s, []⟩ : Guard) ((IntKind.i64.wrap a).tmod c.cycle) r c.window (IntKind.i64.wrap ((IntKind.i64.wrap (s + o)) + (realI ((IntKind.i64.wrap a).tmod c.cycle) (IntKind.i64.wrap (d + r)))))))) (ps := []) (by kernel_rfl) trivial ?_
   simp only [wd, wr, we] at hz1
   have w1 : IntKind.i64.wrap (s + o) = s + o := Ev.wrap_i64 (by omega) (by omega)
   have w2 : IntKind.i64.wrap (d + r) = d + r := Ev.wrap_i64 (by omega) (by omega)
   have hx : 0 ≤ (IntKind.i64.wrap a).tmod c.cycle ∧ (IntKind.i64.wrap a).tmod c.cycle < c.cycle := ⟨Int.tmod_nonneg _ (by omega), Int.tmod_lt_of_pos _ (by omega)⟩
   generalize (IntKind.i64.wrap a).tmod c.cycle = x at hx ⊢
   have h2 := real_small (x := x) (p := d + r) (by omega) (by omega)
   rw [w1, w2, Ev.wrap_i64 (x := s + o + realI x (d + r)) (by omega) (by omega), guard_right hR n7 (by omega) (by omega) (by omega) (by omega) (by omega)]
end Go.Proofs.YtdpeopbflhhkiaaDoor.Pl
