/- Chapter 8's laws alive, ClockTells, ClockReads, ClockRounds, ClockThere, ClockOrder. -/
import Derived.Test.YtagdeldgpkjjjaaCkOne
namespace Go.Proofs.Ytagdeldgpkjjjaa.Pl
open Go.RowKit Go.Proofs.Ytagdeldgpkjjjaa.Sm Go.Proofs.Ytagdeldgpkjjjaa.Dp
set_option maxHeartbeats 4000000
set_option maxRecDepth 100000
set_option linter.unusedVariables false
set_option linter.unusedSimpArgs false
theorem ck1 : realI 20000 100 = 19998 := by kernel_rfl
theorem ck2 : localI 19998 100 = 19999 := by kernel_rfl
theorem tmod_abs {a b : Int} (hb : 1 ≤ b) : -b < a.tmod b ∧ a.tmod b < b := ⟨tmod_lo hb, Int.tmod_lt_of_pos a (by omega)⟩
theorem scale_is {x p : Int} (hx : -1099511627776 ≤ x ∧ x ≤ 1099511627776) (hp : -1000000 ≤ p ∧ p ≤ 1000000) : scaleI x p = x * p / 1000000 := if_pos ⟨hx, hp⟩
theorem real_is {x p : Int} (hx : -1099511627776 ≤ x ∧ x ≤ 1099511627776) (hp : -1000000 ≤ p ∧ p ≤ 1000000) : realI x p = x - x * p / 1000000 := by
  have := scale_in x p
  have e := scale_is hx hp
  rw [realI, Ev.wrap_i64 (by omega) (by omega), e]
theorem local_is {x p : Int} (hx : -1099511627776 ≤ x ∧ x ≤ 1099511627776) (hp : -1000000 ≤ p ∧ p ≤ 1000000) : localI x p = x + x * p / 1000000 := by
  have := scale_in x p
  have e := scale_is hx hp
  rw [localI, Ev.wrap_i64 (by omega) (by omega), e]
theorem there {n p : Int} (hn : -1000000 ≤ n ∧ n ≤ 1000000) (hp : -1000 ≤ p ∧ p ≤ 1000) : -3 ≤ IntKind.i64.wrap (localI (realI n p) p - n) ∧ IntKind.i64.wrap (localI (realI n p) p - n) ≤ 3 := by
  have h1 := mul_abs (A := 1000000) (B := 1000) (by omega) hn hp
  rw [real_is (by omega) (by omega)]
  have h2 := mul_abs (x := n * p / 1000000) (p := p) (A := 1000) (B := 1000) (by omega) (by omega) hp
  rw [local_is (by omega) (by omega), Int.sub_mul]
  generalize n * p / 1000000 * p = y at h2 ⊢
  generalize n * p = z at h1 h2 ⊢
  rw [Ev.wrap_i64 (by omega) (by omega)]
  omega
theorem order {x y a b : Int} (hx : 0 ≤ x) (hxy : x ≤ y) (hy : y ≤ 4294967295) (ha : -1000000 < a) (hab : a ≤ b) (hb : b < 1000000) : realI x b ≤ realI x a ∧ realI x a ≤ realI y a ∧ localI x a ≤ localI y b := by
  rw [real_is (by omega) (by omega), real_is (by omega) (by omega), real_is (by omega) (by omega), local_is (by omega) (by omega), local_is (by omega) (by omega)]
  have h1 : x * a ≤ x * b := Int.mul_le_mul_of_nonneg_left hab hx
  have h2 : (y - x) * a ≤ (y - x) * 1000000 := Int.mul_le_mul_of_nonneg_left (by omega) (by omega)
  have h3 : (y - x) * -1000000 ≤ (y - x) * b := Int.mul_le_mul_of_nonneg_left (by omega) (by omega)
  rw [Int.sub_mul, Int.sub_mul] at h2 h3
  omega
theorem drumlinelaw8_alive_pc  : PC Try.prog [] 8 [] (· = D.v (.bool true)) := by
 refine PC.of (N := 26) Try.func8 rfl rfl (Nat.le_of_ble_eq_true rfl) ?_
 refine PW.sr [] 0 trivial ?_
 refine PW.sg ?_
 refine PL.gc (d := D.t [I (-1), I 9, D.v (.bool true)]) (A := []) (fun _ => (clock_Round_pc (-1) 10 (by omega) (by omega)).eq (by kernel_rfl)) ?_
 refine PL.rw 7 [1, 2, 3] 0 trivial ?_
 refine PL.nl ?_
 refine PW.sg ?_
 refine PL.gc (d := I 19998) (A := []) (fun _ => (clock_Real_pc 20000 100).eq (by rw [ck1])) ?_
 refine PL.rw 2 [1, 2, 3, 11] 0 trivial ?_
 refine PL.gc (d := I 19999) (A := [(11, true)]) (fun _ => (clock_Local_pc 19998 100).eq (by rw [ck2])) ?_
 refine PL.rw 14 [0] 0 trivial ?_
 refine PL.nl ?_
 refine PW.ret ?_
 refine retQ_ret (d := D.v (.bool ((((true && true) && true) && true) && true))) (ps := []) (by kernel_rfl) trivial ?_
 rfl
theorem drumlinelaw8_ClockTells_pc (x y p : Int) : PC Try.prog [] 3 [I x, I y, I p] (· = D.v (.bool true)) := by
 refine PC.of (N := 25) Try.func3 rfl rfl (Nat.le_of_ble_eq_true rfl) ?_
 refine PW.sr [0, 1, 2] 0 trivial ?_
 refine PW.seq ?_
 refine PW.sg ?_
 refine PL.gc (A := []) (fun _ => drumlinelaw8_alive_pc) ?_
 refine PL.rw 1 [0, 1, 2, 8] 0 trivial ?_
 refine PL.nl ?_
 refine PW.cd false (fun hz0 => by cases hz0) (fun hz0 => ?_)
 refine PW.skip ?_
 show PW _ _ _ _ _
 refine PW.sg ?_
 refine PL.rw 2 [0, 1, 2, 9, 10] 0 trivial ?_
 refine PL.gc (A := []) (fun _ => clock_Real_pc x p) ?_
 refine PL.rw 2 [1, 2, 11, 12, 13] 0 trivial ?_
 refine PL.gc (A := []) (fun _ => drumlineref5_Real_pc x p) ?_
 refine PL.rw 4 [1, 2, 16, 17, 18] 0 trivial ?_
 refine PL.gc (A := [(16, true)]) (fun _ => clock_Local_pc y p) ?_
 refine PL.rw 2 [16, 19, 20, 21] 0 trivial ?_
 refine PL.gc (A := [(16, true)]) (fun _ => drumlineref5_Local_pc y p) ?_
 refine PL.rw 3 [6] 0 trivial ?_
 refine PL.nl ?_
 refine PW.ret ?_
 refine retQ_ret (d := D.v (.bool (((realI x p) == (realI x p)) && ((localI y p) == (localI y p))))) (ps := []) (by kernel_rfl) trivial ?_
 simp
theorem drumlinelaw8_ClockReads_pc (s c l p t : Int) : PC Try.prog [] 4 [I s, I c, I l, I p, I t] (· = D.v (.bool true)) := by
 refine PC.of (N := 43) Try.func4 rfl rfl (Nat.le_of_ble_eq_true rfl) ?_
 refine PW.sr [0, 1, 2, 3, 4] 0 trivial ?_
 refine PW.seq ?_
 refine PW.sg ?_
 refine PL.gc (A := []) (fun _ => drumlinelaw8_alive_pc) ?_
 refine PL.rw 1 [0, 1, 2, 3, 4, 16] 0 trivial ?_
 refine PL.nl ?_
 refine PW.cd false (fun hz0 => by cases hz0) (fun hz0 => ?_)
 refine PW.skip ?_
 show PW _ _ _ _ _
 refine PW.sg ?_
 refine PL.rw 5 [0, 1, 2, 3, 4, 18, 19, 20, 21, 22] 0 trivial ?_
 refine PL.gc (A := []) (fun _ => clock_Reading_pc s c l p t) ?_
 refine PL.rw 5 [0, 1, 2, 3, 4, 11, 12] 0 trivial ?_
 refine PL.nl ?_
 refine PW.sg ?_
 refine PL.rw 5 [11, 12, 27, 28, 29, 30, 31] 0 trivial ?_
 refine PL.gc (A := []) (fun _ => drumlineref5_Reading_pc s c l p t) ?_
 refine PL.rw 5 [11, 12, 13, 14] 0 trivial ?_
 refine PL.nl ?_
 refine PW.sr [10] 0 trivial ?_
 refine PW.ret ?_
 refine retQ_ret (d := D.v (.bool (((readI s c l p t) == (readI s c l p t)) && ((readB s c l p t) == (readB s c l p t))))) (ps := []) (by kernel_rfl) trivial ?_
 simp
theorem drumlinelaw8_ClockRounds_pc (n l : Int) (hn : -9223372036854775808 ≤ n ∧ n ≤ 9223372036854775807) (hl : -9223372036854775808 ≤ l ∧ l ≤ 9223372036854775807) : PC Try.prog [] 5 [I n, I l] (· = D.v (.bool true)) := by
 refine PC.of (N := 51) Try.func5 rfl rfl (Nat.le_of_ble_eq_true rfl) ?_
 refine PW.sr [0, 1] 0 trivial ?_
 refine PW.seq ?_
 refine PW.sg ?_
 refine PL.gc (A := []) (fun _ => drumlinelaw8_alive_pc) ?_
 refine PL.rw 1 [0, 1, 12] 0 trivial ?_
 refine PL.nl ?_
 refine PW.cd false (fun hz0 => by cases hz0) (fun hz0 => ?_)
 refine PW.skip ?_
 show PW _ _ _ _ _
 refine PW.sg ?_
 refine PL.rw 2 [0, 1, 14, 15] 0 trivial ?_
 refine PL.gc (A := []) (fun _ => clock_Round_pc n l (by omega) (by omega)) ?_
 refine PL.rw 7 [0, 1, 5, 6, 7] 0 trivial ?_
 refine PL.nl ?_
 refine PW.sg ?_
 refine PL.rw 2 [1, 5, 6, 7, 21, 22] 0 trivial ?_
 refine PL.gc (A := []) (fun _ => drumlineref5_Round_pc n l (by omega) (by omega)) ?_
 refine PL.rw 7 [1, 5, 6, 7, 8, 9, 10] 0 trivial ?_
 refine PL.nl ?_
 refine PW.seq ?_
 refine PW.sr [1, 6, 7, 39] 0 trivial ?_
 refine PW.cd ((((floorI n l) != (floorI n l)) || ((tickN n l) != (tickN n l))) || (!((floorB l) == (floorB l)))) (fun hz1 => ?_) (fun hz1 => ?_)
 ·try simp only [boolS] at hz1
  refine PW.sr [4] 0 trivial ?_
  refine PW.ret ?_
  refine retQ_ret (d := D.v (.bool false)) (ps := []) (by kernel_rfl) trivial ?_
  exfalso
  simp at hz1
 ·try simp only [boolS] at hz1
  refine PW.skip ?_
  show PW _ _ _ _ _
  refine PW.sr [4] 0 trivial ?_
  refine PW.ret ?_
  refine retQ_ret (d := D.v (.bool ((!(floorB l)) || ((decide ((tickN n l) ≥ (0 : Int))) && (decide ((tickN n l) < l)))))) (ps := []) (by kernel_rfl) trivial ?_
  by_cases h1 : 1 ≤ l
  · have := tickN_in (n := n) h1
    simp [this]
  · have h0 : floorB l = false := by unfold floorB; simp; omega
    rw [h0]
    rfl
theorem drumlinelaw8_ClockThere_pc (x p : Int) : PC Try.prog [] 6 [D.v (.int .i32 x), D.v (.int .i16 p)] (· = D.v (.bool true)) := by
 refine PC.of (N := 29) Try.func6 rfl rfl (Nat.le_of_ble_eq_true rfl) ?_
 have hx := tmod_abs (a := x) (b := 1000001) (by omega)
 have hp := tmod_abs (a := p) (b := 1001) (by omega)
 have e1 : IntKind.i64.wrap (x.tmod 1000001) = x.tmod 1000001 := Ev.wrap_i64 (by omega) (by omega)
 have e2 : IntKind.i64.wrap (p.tmod 1001) = p.tmod 1001 := Ev.wrap_i64 (by omega) (by omega)
 have hth := there (n := x.tmod 1000001) (p := p.tmod 1001) (by omega) (by omega)
 refine PW.sr [0, 1] 0 trivial ?_
 refine PW.sr [1, 5] 0 trivial ?_
 refine PW.sr [5, 6] 0 trivial ?_
 refine PW.seq ?_
 refine PW.sg ?_
 refine PL.gc (A := []) (fun _ => drumlinelaw8_alive_pc) ?_
 refine PL.rw 1 [5, 6, 15] 0 trivial ?_
 refine PL.nl ?_
 refine PW.cd false (fun hz0 => by cases hz0) (fun hz0 => ?_)
 refine PW.skip ?_
 show PW _ _ _ _ _
 refine PW.sg ?_
 refine PL.rw 2 [5, 6, 16, 17] 0 trivial ?_
 refine PL.gc (A := []) (fun _ => clock_Real_pc (IntKind.i64.wrap (x.tmod 1000001)) (IntKind.i64.wrap (p.tmod 1001))) ?_
 refine PL.rw 1 [5, 18, 19] 0 trivial ?_
 refine PL.gc (A := []) (fun _ => clock_Local_pc (realI (IntKind.i64.wrap (x.tmod 1000001)) (IntKind.i64.wrap (p.tmod 1001))) (IntKind.i64.wrap (p.tmod 1001))) ?_
 refine PL.rw 3 [7] 0 trivial ?_
 refine PL.nl ?_
 refine PW.sr [4] 0 trivial ?_
 refine PW.ret ?_
 refine retQ_ret (d := D.v (.bool ((decide ((IntKind.i64.wrap ((localI (realI (IntKind.i64.wrap (x.tmod 1000001)) (IntKind.i64.wrap (p.tmod 1001))) (IntKind.i64.wrap (p.tmod 1001))) - (IntKind.i64.wrap (x.tmod 1000001)))) ≥ ((-3) : Int))) && (decide ((IntKind.i64.wrap ((localI (realI (IntKind.i64.wrap (x.tmod 1000001)) (IntKind.i64.wrap (p.tmod 1001))) (IntKind.i64.wrap (p.tmod 1001))) - (IntKind.i64.wrap (x.tmod 1000001)))) ≤ (3 : Int)))))) (ps := []) (by kernel_rfl) trivial ?_
 rw [e1, e2]
 simp only [D.v.injEq, Value.bool.injEq, boolS]
 omega
theorem drumlinelaw8_ClockOrder_pc (x y p q : Int) (hx : 0 ≤ x ∧ x ≤ 4294967295) (hy : 0 ≤ y ∧ y ≤ 4294967295) : PC Try.prog [] 7 [D.v (.int .u32 x), D.v (.int .u32 y), D.v (.int .i32 p), D.v (.int .i32 q)] (· = D.v (.bool true)) := by
 refine PC.of (N := 61) Try.func7 rfl rfl (Nat.le_of_ble_eq_true rfl) ?_
 have hp := tmod_abs (a := p) (b := 1000000) (by omega)
 have hq := tmod_abs (a := q) (b := 1000000) (by omega)
 have e1 : IntKind.i64.wrap (p.tmod 1000000) = p.tmod 1000000 := Ev.wrap_i64 (by omega) (by omega)
 have e2 : IntKind.i64.wrap (q.tmod 1000000) = q.tmod 1000000 := Ev.wrap_i64 (by omega) (by omega)
 have e3 : IntKind.i64.wrap x = x := Ev.wrap_i64 (by omega) (by omega)
 have e4 : IntKind.i64.wrap y = y := Ev.wrap_i64 (by omega) (by omega)
 refine PW.sr [0, 1, 2, 3] 0 trivial ?_
 refine PW.sr [0, 1, 9, 10] 0 trivial ?_
 refine PW.seq ?_
 refine PW.sg ?_
 refine PL.gc (A := []) (fun _ => drumlinelaw8_alive_pc) ?_
 refine PL.rw 11 [0, 1, 9, 10, 28] 0 trivial ?_
 refine PL.nl ?_
 refine PW.cd ((false || (decide (x > y))) || (decide ((IntKind.i64.wrap (p.tmod 1000000)) > (IntKind.i64.wrap (q.tmod 1000000))))) (fun hz0 => ?_) (fun hz0 => ?_)
 ·try simp only [boolS] at hz0
  refine PW.sg ?_
  refine PL.gc (A := []) (fun _ => drumlinelaw8_alive_pc) ?_
  refine PL.rw 1 [8] 0 trivial ?_
  refine PL.nl ?_
  refine PW.ret ?_
  refine retQ_ret (d := D.v (.bool true)) (ps := []) (by kernel_rfl) trivial ?_
  rfl
 ·try simp only [boolS] at hz0
  refine PW.skip ?_
  show PW _ _ _ _ _
  refine PW.sg ?_
  refine PL.rw 3 [0, 1, 9, 10, 31, 32] 0 trivial ?_
  refine PL.gc (A := []) (fun _ => clock_Real_pc (IntKind.i64.wrap x) (IntKind.i64.wrap (p.tmod 1000000))) ?_
  refine PL.rw 3 [0, 1, 9, 10, 33, 35, 36] 0 trivial ?_
  refine PL.gc (A := []) (fun _ => clock_Real_pc (IntKind.i64.wrap x) (IntKind.i64.wrap (q.tmod 1000000))) ?_
  refine PL.rw 5 [0, 1, 9, 10, 39, 41, 42] 0 trivial ?_
  refine PL.gc (A := [(39, true)]) (fun _ => clock_Real_pc (IntKind.i64.wrap x) (IntKind.i64.wrap (p.tmod 1000000))) ?_
  refine PL.rw 3 [0, 1, 9, 10, 39, 43, 45, 46] 0 trivial ?_
  refine PL.gc (A := [(39, true)]) (fun _ => clock_Real_pc (IntKind.i64.wrap y) (IntKind.i64.wrap (p.tmod 1000000))) ?_
  refine PL.rw 6 [1, 10, 50, 52, 53] 0 trivial ?_
  refine PL.gc (A := [(50, true)]) (fun _ => clock_Local_pc (IntKind.i64.wrap x) (IntKind.i64.wrap (p.tmod 1000000))) ?_
  refine PL.rw 3 [50, 54, 56, 57] 0 trivial ?_
  refine PL.gc (A := [(50, true)]) (fun _ => clock_Local_pc (IntKind.i64.wrap y) (IntKind.i64.wrap (q.tmod 1000000))) ?_
  refine PL.rw 3 [8] 0 trivial ?_
  refine PL.nl ?_
  refine PW.ret ?_
  refine retQ_ret (d := D.v (.bool (((decide ((realI (IntKind.i64.wrap x) (IntKind.i64.wrap (p.tmod 1000000))) ≥ (realI (IntKind.i64.wrap x) (IntKind.i64.wrap (q.tmod 1000000))))) && (decide ((realI (IntKind.i64.wrap x) (IntKind.i64.wrap (p.tmod 1000000))) ≤ (realI (IntKind.i64.wrap y) (IntKind.i64.wrap (p.tmod 1000000)))))) && (decide ((localI (IntKind.i64.wrap x) (IntKind.i64.wrap (p.tmod 1000000))) ≤ (localI (IntKind.i64.wrap y) (IntKind.i64.wrap (q.tmod 1000000)))))))) (ps := []) (by kernel_rfl) trivial ?_
  simp only [e1, e2, e3, e4, boolS, not_true_eq_false, false_or, Bool.not_true] at hz0 ⊢
  have ho := order (x := x) (y := y) (a := p.tmod 1000000) (b := q.tmod 1000000) (by omega) (by omega) (by omega) (by omega) (by omega) (by omega)
  simp only [D.v.injEq, Value.bool.injEq, boolS]
  omega
end Go.Proofs.Ytagdeldgpkjjjaa.Pl
