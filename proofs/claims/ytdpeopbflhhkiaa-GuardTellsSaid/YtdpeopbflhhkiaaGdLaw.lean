/- Chapter 10's laws: alive, GuardTells, GuardWindow, GuardShifts. -/
import Derived.Test.YtdpeopbflhhkiaaGdOne
import Derived.Test.YtdpeopbflhhkiaaCkLaw
namespace Go.Proofs.Ytdpeopbflhhkiaa.Pl
open Go.RowKit Go.Proofs.Ytdpeopbflhhkiaa.Sm Go.Proofs.Ytdpeopbflhhkiaa.Dp
set_option maxHeartbeats 4000000
set_option maxRecDepth 100000
set_option linter.unusedVariables false
set_option linter.unusedSimpArgs false
theorem gd1 : lateI ⟨true, 1000, []⟩ 230 0 1233 = 3 := by kernel_rfl
theorem gd2 : lateB ⟨true, 1000, []⟩ 230 1233 = true := by kernel_rfl
theorem gd3 : passB ⟨true, 1000, []⟩ 230 0 2 1233 = false := by kernel_rfl
theorem gd4 : passB ⟨true, 1000, []⟩ 230 0 3 1233 = true := by kernel_rfl
theorem gd5 : passB ⟨false, 0, []⟩ 0 0 0 5 = true := by kernel_rfl
theorem pass_win {s x p w d : Int} (hs : -549755813888 ≤ s ∧ s ≤ 549755813888) (hx : 0 ≤ x ∧ x ≤ 255) (hp : -32768 ≤ p ∧ p ≤ 32767) (hd : -50 ≤ d ∧ d ≤ 50) : passB ⟨true, s, []⟩ x p w (IntKind.i64.wrap (IntKind.i64.wrap (s + realI x p) + d)) = decide (-w ≤ d ∧ d ≤ w) := by
  have h1 := mul_abs (A := 255) (B := 32768) (by omega) (show -255 ≤ x ∧ x ≤ 255 by omega) (show -32768 ≤ p ∧ p ≤ 32768 by omega)
  have h2 := real_is (x := x) (p := p) (by omega) (by omega)
  have h3 : -9000000 ≤ realI x p ∧ realI x p ≤ 9000000 := by
    rw [h2]
    generalize x * p = z at h1 h2
    omega
  rw [Ev.wrap_i64 (x := s + realI x p) (by omega) (by omega), Ev.wrap_i64 (by omega) (by omega)]
  have hb : lateB ⟨true, s, []⟩ x (s + realI x p + d) = true := lateB_iff.2 ⟨rfl, by dsimp only; omega, by omega, by omega⟩
  have hi := (late_is p hb).1
  dsimp only at hi
  have hd2 : lateI ⟨true, s, []⟩ x p (s + realI x p + d) = d := by omega
  rw [passB, hb, hd2]
  simp
/-- how many of the first k ticks pass. -/
def cntW (V : Int) (k : Nat) : Int := max 0 (min ((k : Int) - 50 + V) (2 * V + 1))
theorem drumlinelaw10_alive_pc  : PC Try.prog [] 6 [] (· = D.v (.bool true)) := by
 refine PC.of (N := 28) Try.func6 rfl rfl (Nat.le_of_ble_eq_true rfl) ?_
 refine PW.sr [] 0 trivial ?_
 refine PW.sr [1] 1 trivial ?_
 refine PW.sg ?_
 refine PL.rw 1 [1, 6] 1 trivial ?_
 refine PL.gc (A := []) (fun _ => PC.argnil (ds := [D.r [D.v (.bool true), I 1000, D.v (.slice none 0 0)], I 230, I 0, I 1233]) 0 2 1 (fun i => [I (([] : List Int).getD i default)]) rfl rfl (guard_Late_pc (⟨true, 1000, []⟩ : Guard) 230 0 1233)) ?_
 refine PL.rw 5 [1, 2, 3] 1 trivial ?_
 refine PL.nl ?_
 refine PW.sg ?_
 refine PL.rw 7 [1, 15, 16] 1 trivial ?_
 refine PL.gc (A := [(15, true)]) (fun _ => PC.argnil (ds := [D.r [D.v (.bool true), I 1000, D.v (.slice none 0 0)], I 230, I 0, I 2, I 1233]) 0 2 1 (fun i => [I (([] : List Int).getD i default)]) rfl rfl (guard_Pass_pc (⟨true, 1000, []⟩ : Guard) 230 0 2 1233 (by unfold Is64 at *; omega))) ?_
 refine PL.rw 4 [20, 21] 1 trivial ?_
 refine PL.gc (A := [(20, true)]) (fun _ => PC.argnil (ds := [D.r [D.v (.bool true), I 1000, D.v (.slice none 0 0)], I 230, I 0, I 3, I 1233]) 0 2 1 (fun i => [I (([] : List Int).getD i default)]) rfl rfl (guard_Pass_pc (⟨true, 1000, []⟩ : Guard) 230 0 3 1233 (by unfold Is64 at *; omega))) ?_
 refine PL.rw 3 [24, 25] 1 trivial ?_
 refine PL.gc (A := [(24, true)]) (fun _ => PC.argnil (ds := [D.r [D.v (.bool false), I 0, D.v (.slice none 0 0)], I 0, I 0, I 0, I 5]) 0 2 1 (fun i => [I (([] : List Int).getD i default)]) rfl rfl (guard_Pass_pc (⟨false, 0, []⟩ : Guard) 0 0 0 5 (by unfold Is64 at *; omega))) ?_
 refine PL.rw 2 [0] 1 trivial ?_
 refine PL.nl ?_
 refine PW.ret ?_
 refine retQ_ret (d := D.v (.bool ((((((lateI (⟨true, 1000, []⟩ : Guard) 230 0 1233) == (3 : Int)) && (lateB (⟨true, 1000, []⟩ : Guard) 230 1233)) && (!(passB (⟨true, 1000, []⟩ : Guard) 230 0 2 1233))) && (passB (⟨true, 1000, []⟩ : Guard) 230 0 3 1233)) && (passB (⟨false, 0, []⟩ : Guard) 0 0 0 5)))) (ps := []) (by kernel_rfl) trivial ?_
 rfl
theorem drumlinelaw10_GuardTells_pc (x : Guard) (a p w t : Int) (hw : Is64 w) (hx : x.ages.length ≤ maxLen) : PC Try.prog [] 3 [D.r (Guard.d x), I a, I p, I w, I t] (· = D.v (.bool true)) := by
 refine PC.of (N := 63) Try.func3 rfl rfl (Nat.le_of_ble_eq_true rfl) ?_
 refine PW.sr [1, 2, 3, 4, 5] 1 trivial ?_
 refine PW.seq ?_
 refine PW.sg ?_
 refine PL.gc (A := []) (fun _ => drumlinelaw10_alive_pc) ?_
 refine PL.rw 7 [1, 2, 3, 4, 5, 22] 1 trivial ?_
 refine PL.nl ?_
 refine PW.cd (false || (decide ((x.ages.length : Int) > (20 : Int)))) (fun hz0 => ?_) (fun hz0 => ?_)
 ·try simp only [boolS] at hz0
  refine PW.sg ?_
  refine PL.gc (A := []) (fun _ => drumlinelaw10_alive_pc) ?_
  refine PL.rw 1 [10] 1 trivial ?_
  refine PL.nl ?_
  refine PW.ret ?_
  refine retQ_ret (d := D.v (.bool true)) (ps := []) (by kernel_rfl) trivial ?_
  rfl
 ·try simp only [boolS] at hz0
  refine PW.skip ?_
  show PW _ _ _ _ _
  refine PW.sg ?_
  refine PL.rw 4 [1, 2, 3, 4, 5, 25, 26, 27, 28] 1 trivial ?_
  refine PL.gc (A := []) (fun _ => guard_Late_pc x a p t) ?_
  refine PL.rw 5 [1, 2, 3, 4, 5, 11, 12] 1 trivial ?_
  refine PL.nl ?_
  refine PW.sg ?_
  refine PL.rw 4 [1, 2, 3, 4, 5, 11, 12, 33, 34, 35, 36] 1 trivial ?_
  refine PL.gc (A := []) (fun _ => drumlineref10_Late_pc x a p t) ?_
  refine PL.rw 5 [1, 2, 3, 4, 5, 11, 12, 13, 14] 1 trivial ?_
  refine PL.nl ?_
  refine PW.seq ?_
  refine PW.open [] (by kernel_rfl) ?_
  refine PO.tk [0, 1, 2, 3, 4, 5, 6, 7, 8, 9, 10, 11, 12, 13, 15, 16, 17, 18, 19] 24 [48, 49, 50, 51, 52, 53, 55, 56, 57, 58, 59] 5 trivial (fun _ _ h => h) ?_
  refine PO.one (n := 4) 14 (by kernel_rfl) ?_
  refine PO1.gc _ (A := [(48, true)]) (fun _ => guard_Pass_pc x a p w t (by unfold Is64 at *; omega)) ?_ rfl
  refine PO.one (n := 3) 20 (by kernel_rfl) ?_
  refine PO1.gc _ (A := [(48, true)]) (fun _ => drumlineref10_Pass_pc x a p w t (by unfold Is64 at *; omega)) ?_ rfl
  refine PO.tk [21, 22, 23] 3 [10] 0 trivial (fun _ _ h => h) ?_
  refine PO.done (by kernel_rfl) ?_
  show PW _ _ _ _ _
  refine PW.ret ?_
  refine retQ_ret (d := D.v (.bool ((((lateI x a p t) == (lateI x a p t)) && ((lateB x a t) == (lateB x a t))) && ((passB x a p w t) == (passB x a p w t))))) (ps := []) (by kernel_rfl) trivial ?_
  simp
theorem drumlinelaw10_GuardWindow_pc (s a w p : Int) (ha : 0 ≤ a ∧ a ≤ 255) (hw : 0 ≤ w ∧ w ≤ 255) (hp : -32768 ≤ p ∧ p ≤ 32767) : PC Try.prog [] 4 [I s, D.v (.int .u8 a), D.v (.int .u8 w), D.v (.int .i16 p)] (· = D.v (.bool true)) := by
 refine PC.of (N := 59) Try.func4 rfl rfl (Nat.le_of_ble_eq_true rfl) ?_
 have wa : IntKind.i64.wrap a = a := Ev.wrap_i64 (by omega) (by omega)
 have wp : IntKind.i64.wrap p = p := Ev.wrap_i64 (by omega) (by omega)
 have ww : IntKind.i64.wrap w = w := Ev.wrap_i64 (by omega) (by omega)
 have hV : 0 ≤ ((IntKind.i64.wrap w).tmod 40) ∧ ((IntKind.i64.wrap w).tmod 40) ≤ 39 := ⟨Int.tmod_nonneg _ (by omega), by have := Int.tmod_lt_of_pos (IntKind.i64.wrap w) (show (0 : Int) < 40 by omega); omega⟩
 refine PW.sr [0, 1, 2, 3] 0 trivial ?_
 refine PW.seq ?_
 refine PW.sg ?_
 refine PL.gc (A := []) (fun _ => drumlinelaw10_alive_pc) ?_
 refine PL.rw 9 [0, 1, 2, 3, 24] 0 trivial ?_
 refine PL.nl ?_
 refine PW.cd ((false || (decide (s < ((-549755813888) : Int)))) || (decide (s > (549755813888 : Int)))) (fun hz0 => ?_) (fun hz0 => ?_)
 ·try simp only [boolS] at hz0
  refine PW.sg ?_
  refine PL.gc (A := []) (fun _ => drumlinelaw10_alive_pc) ?_
  refine PL.rw 1 [8] 0 trivial ?_
  refine PL.nl ?_
  refine PW.ret ?_
  refine retQ_ret (d := D.v (.bool true)) (ps := []) (by kernel_rfl) trivial ?_
  rfl
 ·try simp only [boolS] at hz0
  refine PW.skip ?_
  show PW _ _ _ _ _
  refine PW.sr [0, 1, 2, 3, 9] 1 trivial ?_
  refine PW.sr [0, 3, 9, 10, 11] 1 trivial ?_
  refine PW.sg ?_
  refine PL.rw 4 [3, 9, 10, 11, 33, 34, 36] 1 trivial ?_
  refine PL.gc (A := []) (fun _ => clock_Real_pc (IntKind.i64.wrap a) (IntKind.i64.wrap p)) ?_
  refine PL.rw 2 [3, 9, 10, 11, 12] 1 trivial ?_
  refine PL.nl ?_
  refine PW.sr [3, 9, 10, 11, 12, 13] 1 trivial ?_
  refine PW.seq ?_
  refine PW.sr [3, 9, 10, 11, 12, 13, 14] 1 trivial ?_
  refine PW.block ?_
  refine PW.lp (α := Nat × Nat) (fun (k, m) => { tab := [⟨3, [], D.v (.int .i16 p)⟩, ⟨9, [], D.p 0 0 0 0⟩, ⟨10, [], I (IntKind.i64.wrap a)⟩, ⟨11, [], I ((IntKind.i64.wrap w).tmod 40)⟩, ⟨12, [], I (IntKind.i64.wrap (s + (realI (IntKind.i64.wrap a) (IntKind.i64.wrap p))))⟩, ⟨13, [], I (m : Int)⟩, ⟨14, [], I ((k : Int) - 50)⟩], mem := [Obj.var 24 [D.v (.bool true), I s, D.v (.slice none 0 0)]] }) (fun (k, m) => k ≤ 101 ∧ (m : Int) = cntW ((IntKind.i64.wrap w).tmod 40) k) (fun (k, m) => 101 - k) [3, 9, 10, 11, 12, 13, 14] 1 (0, 0) ?_ ?_
  ·dsimp only
   exact ⟨Nat.zero_le _, by unfold cntW; omega⟩
  rintro ⟨k, m⟩ hinv
  dsimp only at hinv
  have hm : (m : Int) ≤ 79 := by rw [hinv.2]; unfold cntW; omega
  show PW _ _ _ _ _
  refine PW.seq ?_
  refine PW.sr [3, 9, 10, 11, 12, 13, 14, 40] 1 trivial ?_
  refine PW.cd (decide (((k : Int) - 50) ≤ (50 : Int))) (fun hz1 => ?_) (fun hz1 => ?_)
  ·try simp only [boolS] at hz1
   refine PW.skip ?_
   show PW _ _ _ _ _
   refine PW.seq ?_
   refine PW.block ?_
   refine PW.sg ?_
   refine PL.rw 8 [3, 9, 10, 11, 12, 13, 14, 43, 44, 46, 47, 50] 1 trivial ?_
   refine PL.gc (A := []) (fun _ => PC.argnil (ds := [D.r [D.v (.bool true), I s, D.v (.slice none 0 0)], I (IntKind.i64.wrap a), I (IntKind.i64.wrap p), I ((IntKind.i64.wrap w).tmod 40), I (IntKind.i64.wrap ((IntKind.i64.wrap (s + (realI (IntKind.i64.wrap a) (IntKind.i64.wrap p)))) + ((k : Int) - 50)))]) 0 2 1 (fun i => [I (([] : List Int).getD i default)]) rfl rfl (guard_Pass_pc (⟨true, s, []⟩ : Guard) (IntKind.i64.wrap a) (IntKind.i64.wrap p) ((IntKind.i64.wrap w).tmod 40) (IntKind.i64.wrap ((IntKind.i64.wrap (s + (realI (IntKind.i64.wrap a) (IntKind.i64.wrap p)))) + ((k : Int) - 50))) (by unfold Is64 at *; omega))) ?_
   refine PL.nl ?_
   refine PW.cd (passB (⟨true, s, []⟩ : Guard) (IntKind.i64.wrap a) (IntKind.i64.wrap p) ((IntKind.i64.wrap w).tmod 40) (IntKind.i64.wrap ((IntKind.i64.wrap (s + (realI (IntKind.i64.wrap a) (IntKind.i64.wrap p)))) + ((k : Int) - 50)))) (fun hz2 => ?_) (fun hz2 => ?_)
   ·try simp only [boolS] at hz2
    refine PW.rr [3, 9, 10, 11, 12, 13, 14] 1 trivial ?_
    show PW _ _ _ _ _
    refine PW.rr [3, 9, 10, 11, 12, 13, 14] 1 trivial ?_
    refine BackR.of (s1 := { tab := [⟨3, [], D.v (.int .i16 p)⟩, ⟨9, [], D.p 0 0 0 0⟩, ⟨10, [], I (IntKind.i64.wrap a)⟩, ⟨11, [], I ((IntKind.i64.wrap w).tmod 40)⟩, ⟨12, [], I (IntKind.i64.wrap (s + (realI (IntKind.i64.wrap a) (IntKind.i64.wrap p))))⟩, ⟨13, [], I (IntKind.i64.wrap ((m : Int) + 1))⟩, ⟨14, [], I (IntKind.i64.wrap (((k : Int) - 50) + 1))⟩], mem := [Obj.var 24 [D.v (.bool true), I s, D.v (.slice none 0 0)]] }) (k + 1, m + 1) (by kernel_rfl) (by kernel_rfl) ?_ ?_ ?_
    ·dsimp only
     first | rw [show IntKind.i64.wrap (((k : Int) - 50) + 1) = ((k + 1 : Nat) : Int) - 50 from by rw [Ev.wrap_i64 (by omega) (by omega)]; omega, show IntKind.i64.wrap ((m : Int) + 1) = ((m + 1 : Nat) : Int) from by rw [Ev.wrap_i64 (by omega) (by omega)]; omega] | rw [show IntKind.i64.wrap (((k : Int) - 50) + 1) = ((k + 1 : Nat) : Int) - 50 from by rw [Ev.wrap_i64 (by omega) (by omega)]; omega]
     exact Rem.refl _
    ·dsimp only
     have hpw := pass_win (s := s) (x := IntKind.i64.wrap a) (p := IntKind.i64.wrap p) (w := ((IntKind.i64.wrap w).tmod 40)) (d := (k : Int) - 50) (by omega) (by omega) (by omega) (by omega)
     rw [hpw] at hz2
     simp only [decide_eq_true_eq, decide_eq_false_iff_not] at hz2
     refine ⟨by omega, ?_⟩
     have hi := hinv.2
     unfold cntW at hi ⊢
     omega
    ·dsimp only
     ((repeat' (first | intro _ | refine And.intro ?_ ?_)) <;> first | omega | trivial | assumption | (rename_i hgd; simp only [Bool.and_eq_true, decide_eq_true_eq, and_true] at hgd; omega))
   ·try simp only [boolS] at hz2
    refine PW.skip ?_
    show PW _ _ _ _ _
    refine PW.rr [3, 9, 10, 11, 12, 13, 14] 1 trivial ?_
    refine BackR.of (s1 := { tab := [⟨3, [], D.v (.int .i16 p)⟩, ⟨9, [], D.p 0 0 0 0⟩, ⟨10, [], I (IntKind.i64.wrap a)⟩, ⟨11, [], I ((IntKind.i64.wrap w).tmod 40)⟩, ⟨12, [], I (IntKind.i64.wrap (s + (realI (IntKind.i64.wrap a) (IntKind.i64.wrap p))))⟩, ⟨13, [], I (m : Int)⟩, ⟨14, [], I (IntKind.i64.wrap (((k : Int) - 50) + 1))⟩], mem := [Obj.var 24 [D.v (.bool true), I s, D.v (.slice none 0 0)]] }) (k + 1, m) (by kernel_rfl) (by kernel_rfl) ?_ ?_ ?_
    ·dsimp only
     first | rw [show IntKind.i64.wrap (((k : Int) - 50) + 1) = ((k + 1 : Nat) : Int) - 50 from by rw [Ev.wrap_i64 (by omega) (by omega)]; omega, show IntKind.i64.wrap ((m : Int) + 1) = ((m + 1 : Nat) : Int) from by rw [Ev.wrap_i64 (by omega) (by omega)]; omega] | rw [show IntKind.i64.wrap (((k : Int) - 50) + 1) = ((k + 1 : Nat) : Int) - 50 from by rw [Ev.wrap_i64 (by omega) (by omega)]; omega]
     exact Rem.refl _
    ·dsimp only
     have hpw := pass_win (s := s) (x := IntKind.i64.wrap a) (p := IntKind.i64.wrap p) (w := ((IntKind.i64.wrap w).tmod 40)) (d := (k : Int) - 50) (by omega) (by omega) (by omega) (by omega)
     rw [hpw] at hz2
     simp only [decide_eq_true_eq, decide_eq_false_iff_not] at hz2
     refine ⟨by omega, ?_⟩
     have hi := hinv.2
     unfold cntW at hi ⊢
     omega
    ·dsimp only
     ((repeat' (first | intro _ | refine And.intro ?_ ?_)) <;> first | omega | trivial | assumption | (rename_i hgd; simp only [Bool.and_eq_true, decide_eq_true_eq, and_true] at hgd; omega))
  ·try simp only [boolS] at hz1
   refine PW.exit ?_
   show PW _ _ _ _ _
   refine PW.sr [8] 1 trivial ?_
   refine PW.ret ?_
   refine retQ_ret (d := D.v (.bool ((m : Int) == (IntKind.i64.wrap ((IntKind.i64.wrap (2 * ((IntKind.i64.wrap w).tmod 40))) + 1))))) (ps := []) (by kernel_rfl) trivial ?_
   have hm2 : (m : Int) = 2 * ((IntKind.i64.wrap w).tmod 40) + 1 := by
     rw [hinv.2]
     unfold cntW
     omega
   rw [Ev.wrap_i64 (x := 2 * ((IntKind.i64.wrap w).tmod 40)) (by omega) (by omega), Ev.wrap_i64 (by omega) (by omega), hm2]
   simp
theorem drumlinelaw10_GuardShifts_pc (s t d a w : Int) (ha : 0 ≤ a ∧ a ≤ 65535) (hw : 0 ≤ w ∧ w ≤ 65535) : PC Try.prog [] 5 [I s, I t, I d, D.v (.int .u16 a), D.v (.int .u16 w)] (· = D.v (.bool true)) := by
 refine PC.of (N := 96) Try.func5 rfl rfl (Nat.le_of_ble_eq_true rfl) ?_
 have wa : IntKind.i64.wrap a = a := Ev.wrap_i64 (by omega) (by omega)
 have ww : IntKind.i64.wrap w = w := Ev.wrap_i64 (by omega) (by omega)
 refine PW.sr [0, 1, 2, 3, 4] 0 trivial ?_
 refine PW.seq ?_
 refine PW.sg ?_
 refine PL.gc (A := []) (fun _ => drumlinelaw10_alive_pc) ?_
 refine PL.rw 25 [0, 1, 2, 3, 4, 40] 0 trivial ?_
 refine PL.nl ?_
 refine PW.cd ((((((false || (decide (s < ((-274877906944) : Int)))) || (decide (s > (274877906944 : Int)))) || (decide (t < ((-274877906944) : Int)))) || (decide (t > (274877906944 : Int)))) || (decide (d < ((-274877906944) : Int)))) || (decide (d > (274877906944 : Int)))) (fun hz0 => ?_) (fun hz0 => ?_)
 ·try simp only [boolS] at hz0
  refine PW.sg ?_
  refine PL.gc (A := []) (fun _ => drumlinelaw10_alive_pc) ?_
  refine PL.rw 1 [10] 0 trivial ?_
  refine PL.nl ?_
  refine PW.ret ?_
  refine retQ_ret (d := D.v (.bool true)) (ps := []) (by kernel_rfl) trivial ?_
  rfl
 ·try simp only [boolS] at hz0
  refine PW.skip ?_
  show PW _ _ _ _ _
  refine PW.sg ?_
  refine PL.rw 5 [0, 1, 2, 3, 4, 44, 46, 47] 0 trivial ?_
  refine PL.gc (A := []) (fun _ => PC.argnil (ds := [D.r [D.v (.bool true), I s, D.v (.slice none 0 0)], I (IntKind.i64.wrap a), I 7, I t]) 0 2 1 (fun i => [I (([] : List Int).getD i default)]) rfl rfl (guard_Late_pc (⟨true, s, []⟩ : Guard) (IntKind.i64.wrap a) 7 t)) ?_
  refine PL.rw 5 [0, 1, 2, 3, 4, 11, 12] 0 trivial ?_
  refine PL.nl ?_
  refine PW.sg ?_
  refine PL.rw 9 [0, 1, 2, 3, 4, 11, 12, 55, 57, 60] 0 trivial ?_
  refine PL.gc (A := []) (fun _ => PC.argnil (ds := [D.r [D.v (.bool true), I (IntKind.i64.wrap (s + d)), D.v (.slice none 0 0)], I (IntKind.i64.wrap a), I 7, I (IntKind.i64.wrap (t + d))]) 0 2 1 (fun i => [I (([] : List Int).getD i default)]) rfl rfl (guard_Late_pc (⟨true, IntKind.i64.wrap (s + d), []⟩ : Guard) (IntKind.i64.wrap a) 7 (IntKind.i64.wrap (t + d)))) ?_
  refine PL.rw 5 [0, 1, 2, 3, 4, 11, 12, 13, 14] 0 trivial ?_
  refine PL.nl ?_
  refine PW.sg ?_
  refine PL.rw 17 [0, 1, 2, 3, 4, 73, 75, 77, 79, 80] 0 trivial ?_
  refine PL.gc (A := [(73, true)]) (fun _ => PC.argnil (ds := [D.r [D.v (.bool true), I s, D.v (.slice none 0 0)], I (IntKind.i64.wrap a), I 7, I (IntKind.i64.wrap w), I t]) 0 2 1 (fun i => [I (([] : List Int).getD i default)]) rfl rfl (guard_Pass_pc (⟨true, s, []⟩ : Guard) (IntKind.i64.wrap a) 7 (IntKind.i64.wrap w) t (by unfold Is64 at *; omega))) ?_
  refine PL.rw 11 [73, 81, 85, 87, 89, 92] 0 trivial ?_
  refine PL.gc (A := [(73, true)]) (fun _ => PC.argnil (ds := [D.r [D.v (.bool true), I (IntKind.i64.wrap (s + d)), D.v (.slice none 0 0)], I (IntKind.i64.wrap a), I 7, I (IntKind.i64.wrap w), I (IntKind.i64.wrap (t + d))]) 0 2 1 (fun i => [I (([] : List Int).getD i default)]) rfl rfl (guard_Pass_pc (⟨true, IntKind.i64.wrap (s + d), []⟩ : Guard) (IntKind.i64.wrap a) 7 (IntKind.i64.wrap w) (IntKind.i64.wrap (t + d)) (by unfold Is64 at *; omega))) ?_
  refine PL.rw 3 [10] 0 trivial ?_
  refine PL.nl ?_
  refine PW.ret ?_
  refine retQ_ret (d := D.v (.bool ((((lateB (⟨true, s, []⟩ : Guard) (IntKind.i64.wrap a) t) && (lateB (⟨true, IntKind.i64.wrap (s + d), []⟩ : Guard) (IntKind.i64.wrap a) (IntKind.i64.wrap (t + d)))) && ((lateI (⟨true, s, []⟩ : Guard) (IntKind.i64.wrap a) 7 t) == (lateI (⟨true, IntKind.i64.wrap (s + d), []⟩ : Guard) (IntKind.i64.wrap a) 7 (IntKind.i64.wrap (t + d))))) && ((passB (⟨true, s, []⟩ : Guard) (IntKind.i64.wrap a) 7 (IntKind.i64.wrap w) t) == (passB (⟨true, IntKind.i64.wrap (s + d), []⟩ : Guard) (IntKind.i64.wrap a) 7 (IntKind.i64.wrap w) (IntKind.i64.wrap (t + d))))))) (ps := []) (by kernel_rfl) trivial ?_
  have e1 : IntKind.i64.wrap (s + d) = s + d := Ev.wrap_i64 (by omega) (by omega)
  have e2 : IntKind.i64.wrap (t + d) = t + d := Ev.wrap_i64 (by omega) (by omega)
  rw [e1, e2]
  have l1 : lateB ⟨true, s, []⟩ (IntKind.i64.wrap a) t = true := lateB_iff.2 ⟨rfl, by dsimp only; omega, by omega, by omega⟩
  have l2 : lateB ⟨true, s + d, []⟩ (IntKind.i64.wrap a) (t + d) = true := lateB_iff.2 ⟨rfl, by dsimp only; omega, by omega, by omega⟩
  have i1 := (late_is 7 l1).1
  have i2 := (late_is 7 l2).1
  dsimp only at i1 i2
  have hI : lateI ⟨true, s, []⟩ (IntKind.i64.wrap a) 7 t = lateI ⟨true, s + d, []⟩ (IntKind.i64.wrap a) 7 (t + d) := by omega
  simp [passB, l1, l2, hI]
end Go.Proofs.Ytdpeopbflhhkiaa.Pl
