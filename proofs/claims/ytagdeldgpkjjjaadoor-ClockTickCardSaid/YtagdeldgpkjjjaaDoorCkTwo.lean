/- Chapter 8's laws ClockApart, ClockTick. -/
import Derived.Test.YtagdeldgpkjjjaaDoorCkLaw
import Derived.Test.YtagdeldgpkjjjaaDoorBdFour
import Derived.Test.YtagdeldgpkjjjaaDoorMdFits
import Derived.Test.YtagdeldgpkjjjaaDoorMdFour
namespace Go.Proofs.YtagdeldgpkjjjaaDoor.Pl
open Go.RowKit Go.Proofs.YtagdeldgpkjjjaaDoor.Sm Go.Proofs.YtagdeldgpkjjjaaDoor.Dp
set_option maxHeartbeats 4000000
set_option maxRecDepth 100000
set_option linter.unusedVariables false
set_option linter.unusedSimpArgs false
theorem real_apart {c : Config} (hR : InR c) {x p q r : Int} (hx : 0 ≤ x ∧ x ≤ c.cycle) (hp : -c.drift ≤ p ∧ p ≤ c.drift) (hq : -c.drift ≤ q ∧ q ≤ c.drift) (hr : -c.rate ≤ r ∧ r ≤ c.rate) : -edgeI c < realI x (p + r) - realI x (q + r) ∧ realI x (p + r) - realI x (q + r) < edgeI c := by
  have r1 := hR.cyc
  have r2 := hR.dri
  have r3 := hR.rat
  have r6 := hR.dc
  have r7 := hR.dc2
  have hu := upI_in (n := 2 * c.drift * c.cycle) (by omega)
  have he : edgeI c = upI (2 * c.drift * c.cycle) + 1 := rfl
  rw [real_is (by omega) (by omega), real_is (by omega) (by omega)]
  have h1 := mul_abs (x := x) (p := q - p) (A := c.cycle) (B := 2 * c.drift) (by omega) (by omega) (by omega)
  have e1 : c.cycle * (2 * c.drift) = 2 * c.drift * c.cycle := Int.mul_comm ..
  have e2 : x * (q - p) = x * (q + r) - x * (p + r) := by rw [← Int.mul_sub]; congr 1; omega
  rw [e1, e2] at h1
  omega
theorem tick_near {c : Config} (hR : InR c) {u v p q r : Int} (hu : 0 ≤ u) (huv : u + v ≤ c.cycle) (hv : 0 ≤ v ∧ v ≤ 2 * edgeI c) (hp : -c.drift ≤ p ∧ p ≤ c.drift) (hq : -c.drift ≤ q ∧ q ≤ c.drift) (hr : -c.rate ≤ r ∧ r ≤ c.rate) : -tickI c ≤ localI (u + v) (p + r) - localI u (q + r) ∧ localI (u + v) (p + r) - localI u (q + r) ≤ tickI c := by
  have r1 := hR.cyc
  have r2 := hR.dri
  have r3 := hR.rat
  have r6 := hR.dc
  have r7 := hR.dc2
  have r8 := hR.edg
  have r9 := hR.erd
  have h2 := upI_in (n := 2 * c.drift * c.cycle) (by omega)
  have h3 := upI_in (n := 2 * edgeI c * (c.rate + c.drift)) (by omega)
  have he : edgeI c = upI (2 * c.drift * c.cycle) + 1 := rfl
  have ht : tickI c = 3 * edgeI c + upI (2 * edgeI c * (c.rate + c.drift)) + 1 := rfl
  rw [local_is (by omega) (by omega), local_is (by omega) (by omega)]
  have h1 := mul_abs (x := u + v) (p := p - q) (A := c.cycle) (B := 2 * c.drift) (by omega) (by omega) (by omega)
  have h4 := mul_abs (x := v) (p := q + r) (A := 2 * edgeI c) (B := c.rate + c.drift) (by omega) (by omega) (by omega)
  have e1 : c.cycle * (2 * c.drift) = 2 * c.drift * c.cycle := Int.mul_comm ..
  have e2 : (u + v) * (p + r) = u * (q + r) + ((u + v) * (p - q) + v * (q + r)) := by
    have a1 : (u + v) * (p + r) = (u + v) * (p - q) + (u + v) * (q + r) := by rw [← Int.mul_add]; congr 1; omega
    rw [a1, Int.add_mul u v (q + r)]
    omega
  rw [e1] at h1
  rw [e2]
  generalize (u + v) * (p - q) = y at h1 ⊢
  generalize v * (q + r) = z at h4 ⊢
  generalize u * (q + r) = s
  generalize 2 * edgeI c * (c.rate + c.drift) = m at h3 h4 ht ⊢
  generalize 2 * c.drift * c.cycle = d at h1 h2 he ⊢
  omega
theorem local_in {x : Int} (p : Int) (hx : -1099511627776 ≤ x ∧ x ≤ 1099511627776) : -2199023255552 ≤ localI x p ∧ localI x p ≤ 2199023255552 := by
  have := scale_in x p
  rw [localI, Ev.wrap_i64 (by omega) (by omega)]
  omega
theorem readI_is {s l p t : Int} (hs : -1099511627776 ≤ s ∧ s ≤ 1099511627776) (ht : -1099511627776 ≤ t ∧ t ≤ 1099511627776) (hd : -1099511627776 ≤ t - s ∧ t - s ≤ 1099511627776) (hl : 1 ≤ l ∧ l ≤ 1000000) (hp : -1000000 ≤ p ∧ p ≤ 1000000) : readB s 7 l p t = true ∧ readI s 7 l p t = 7 * l + localI (t - s) p := by
  have e := Ev.wrap_i64 (x := t - s) (by omega) (by omega)
  have hb : readB s 7 l p t = true := readB_iff.2 ⟨hs, ht, by rw [e]; exact hd, by omega, hl, hp⟩
  have hi := local_in p hd
  refine ⟨hb, ?_⟩
  rw [readI, if_pos hb, e, Ev.wrap_i64 (x := 7 * l) (by omega) (by omega), Ev.wrap_i64 (by omega) (by omega)]
theorem reads_law {c : Config} (hR : InR c) {a b m p q r : Int} (ha : -549755813888 ≤ a ∧ a ≤ 549755813888) (hb : -549755813888 ≤ b ∧ b ≤ 549755813888) (hab : a - b ≤ 2 * edgeI c ∧ b - a ≤ 2 * edgeI c) (hm : 0 ≤ m ∧ m < c.cycle - 2 * edgeI c) (hp : -c.drift ≤ p ∧ p ≤ c.drift) (hq : -c.drift ≤ q ∧ q ≤ c.drift) (hr : -c.rate ≤ r ∧ r ≤ c.rate) {t : Int} (ht : t = (if b > a then b else a) + m) : readB a 7 c.cycle (p + r) t = true ∧ readB b 7 c.cycle (q + r) t = true ∧ -tickI c ≤ readI a 7 c.cycle (p + r) t - readI b 7 c.cycle (q + r) t ∧ readI a 7 c.cycle (p + r) t - readI b 7 c.cycle (q + r) t ≤ tickI c := by
  have r1 := hR.cyc
  have r2 := hR.dri
  have r3 := hR.rat
  have r8 := hR.edg
  have ht' : (a < b ∧ t = b + m) ∨ (b ≤ a ∧ t = a + m) := by
    by_cases h : b > a
    · rw [if_pos h] at ht; exact .inl ⟨h, ht⟩
    · rw [if_neg h] at ht; exact .inr ⟨by omega, ht⟩
  clear ht
  have k1 := readI_is (s := a) (l := c.cycle) (p := p + r) (t := t) (by omega) (by omega) (by omega) (by omega) (by omega)
  have k2 := readI_is (s := b) (l := c.cycle) (p := q + r) (t := t) (by omega) (by omega) (by omega) (by omega) (by omega)
  refine ⟨k1.1, k2.1, ?_⟩
  rw [k1.2, k2.2]
  rcases ht' with ⟨h, e⟩ | ⟨h, e⟩
  · have hn := tick_near hR (u := m) (v := b - a) (p := p) (q := q) (r := r) hm.1 (by omega) (by omega) hp hq hr
    rw [show m + (b - a) = t - a by omega] at hn
    rw [show t - b = m by omega]
    omega
  · have hn := tick_near hR (u := m) (v := a - b) (p := q) (q := p) (r := r) hm.1 (by omega) (by omega) hq hp hr
    rw [show m + (a - b) = t - b by omega] at hn
    rw [show t - a = m by omega]
    omega
theorem drumlinelaw8_ClockApart_pc (e : Nat → Addr) (hA : Apart e) (n x p q r : Int) (c : Config) (hM : PC Tryd.prog (errG3 e) 6 [I n] (· = D.r (Config.d c))) (hp0 : c.parts.length < 1000000) (hl0 : c.links.length < 1000000) (N : Nums c) (hr : rangedB c = true) : PC Tryd.prog (errG3 e) 3 [I n, I x, I p, I q, I r] (· = D.v (.bool true)) := by
 refine PC.of (N := 86) Tryd.func3 rfl rfl (Nat.le_of_ble_eq_true rfl) ?_
 obtain ⟨h, he, hj⟩ := N.all
 have hR := inR_of h
 have n1 := N.cyc
 have n5 := N.dri
 have n6 := N.rat
 have r8 := hR.edg
 have r14 := hR.eru
 have hti : tickI c = 3 * edgeI c + upI (2 * edgeI c * (c.rate + c.drift)) + 1 := rfl
 have wd : IntKind.i64.wrap (0 - c.drift) = -c.drift := by rw [Ev.wrap_i64 (by omega) (by omega)]; omega
 have wr : IntKind.i64.wrap (0 - c.rate) = -c.rate := by rw [Ev.wrap_i64 (by omega) (by omega)]; omega
 have w5 : IntKind.i64.wrap (c.cycle - 2 * edgeI c) = c.cycle - 2 * edgeI c := Ev.wrap_i64 (by omega) (by omega)
 refine PW.sr [0, 1, 2, 3, 4] 0 trivial ?_
 refine PW.seq ?_
 refine PW.sg ?_
 refine PL.gc (G := (errG3 e)) (A := []) (fun _ => PC.more (drumlinelaw8_alive_pc)) ?_
 refine PL.rw 1 [0, 1, 2, 3, 4, 14] 0 trivial ?_
 refine PL.nl ?_
 refine PW.cd false (fun hz0 => by cases hz0) (fun hz0 => ?_)
 refine PW.skip ?_
 show PW _ _ _ _ _
 refine PW.sg ?_
 refine PL.rw 1 [1, 2, 3, 4, 15] 0 trivial ?_
 refine PL.gc (A := []) (fun _ => hM) ?_
 refine PL.rw 2 [1, 2, 3, 4, 11] 1 trivial ?_
 refine PL.nl ?_
 refine PW.seq ?_
 refine PW.sr [1, 2, 3, 4, 11, 63] 1 trivial ?_
 refine PW.cd ((((((((decide (x < (0 : Int))) || (decide (x > c.cycle))) || (decide (p < (IntKind.i64.wrap (0 - c.drift))))) || (decide (p > c.drift))) || (decide (q < (IntKind.i64.wrap (0 - c.drift))))) || (decide (q > c.drift))) || (decide (r < (IntKind.i64.wrap (0 - c.rate))))) || (decide (r > c.rate))) (fun hz1 => ?_) (fun hz1 => ?_)
 ·try simp only [boolS, isB_true, isB_false] at hz1
  refine PW.sr [10] 1 trivial ?_
  refine PW.ret ?_
  refine retQ_ret (d := D.v (.bool true)) (ps := []) (by kernel_rfl) trivial ?_
  rfl
 ·try simp only [boolS, isB_true, isB_false] at hz1
  refine PW.skip ?_
  show PW _ _ _ _ _
  refine PW.sg ?_
  refine PL.rw 4 [1, 3, 4, 11, 64, 67] 1 trivial ?_
  refine PL.gc (G := (errG3 e)) (A := []) (fun _ => PC.more (clock_Real_pc x (IntKind.i64.wrap (p + r)))) ?_
  refine PL.rw 4 [11, 68, 69, 72] 1 trivial ?_
  refine PL.gc (G := (errG3 e)) (A := []) (fun _ => PC.more (clock_Real_pc x (IntKind.i64.wrap (q + r)))) ?_
  refine PL.rw 2 [11, 12] 1 trivial ?_
  refine PL.nl ?_
  refine PW.sg ?_
  refine PL.rw 2 [11, 12, 75, 76] 1 trivial ?_
  refine PL.gc (d := I (edgeI c)) (A := []) (fun _ => (bounds_Edge_pc e hA c hp0 hl0).eq (congrArg I (if_pos hr))) ?_
  refine PL.rw 5 [79, 81, 82] 1 trivial ?_
  refine PL.gc (d := I (edgeI c)) (A := [(79, true)]) (fun _ => (bounds_Edge_pc e hA c hp0 hl0).eq (congrArg I (if_pos hr))) ?_
  refine PL.rw 3 [10] 1 trivial ?_
  refine PL.nl ?_
  refine PW.ret ?_
  refine retQ_ret (d := D.v (.bool ((decide ((IntKind.i64.wrap ((realI x (IntKind.i64.wrap (p + r))) - (realI x (IntKind.i64.wrap (q + r))))) < (edgeI c))) && (decide ((IntKind.i64.wrap (0 - (IntKind.i64.wrap ((realI x (IntKind.i64.wrap (p + r))) - (realI x (IntKind.i64.wrap (q + r))))))) < (edgeI c)))))) (ps := []) (by kernel_rfl) trivial ?_
  simp only [wd, wr] at hz1
  have w2 : IntKind.i64.wrap (p + r) = p + r := Ev.wrap_i64 (by omega) (by omega)
  have w3 : IntKind.i64.wrap (q + r) = q + r := Ev.wrap_i64 (by omega) (by omega)
  have hap := real_apart hR (x := x) (p := p) (q := q) (r := r) (by omega) (by omega) (by omega) (by omega)
  rw [w2, w3, Ev.wrap_i64 (x := realI x (p + r) - realI x (q + r)) (by omega) (by omega), Ev.wrap_i64 (by omega) (by omega)]
  simp only [D.v.injEq, Value.bool.injEq, boolS]
  omega
theorem drumlinelaw8_ClockTick_pc (e : Nat → Addr) (hA : Apart e) (n p q r a b t : Int) (c : Config) (hM : PC Tryd.prog (errG3 e) 6 [I n] (· = D.r (Config.d c))) (hp0 : c.parts.length < 1000000) (hl0 : c.links.length < 1000000) (N : Nums c) (hr : rangedB c = true) (ht : 0 ≤ t ∧ t ≤ 4294967295) : PC Tryd.prog (errG3 e) 4 [I n, D.r [I p, I q], I r, D.r [I a, I b], D.v (.int .u32 t)] (· = D.v (.bool true)) := by
 refine PC.of (N := 154) Tryd.func4 rfl rfl (Nat.le_of_ble_eq_true rfl) ?_
 obtain ⟨h, he, hj⟩ := N.all
 have hR := inR_of h
 have n1 := N.cyc
 have n5 := N.dri
 have n6 := N.rat
 have r8 := hR.edg
 have r14 := hR.eru
 have hti : tickI c = 3 * edgeI c + upI (2 * edgeI c * (c.rate + c.drift)) + 1 := rfl
 have wd : IntKind.i64.wrap (0 - c.drift) = -c.drift := by rw [Ev.wrap_i64 (by omega) (by omega)]; omega
 have wr : IntKind.i64.wrap (0 - c.rate) = -c.rate := by rw [Ev.wrap_i64 (by omega) (by omega)]; omega
 have w5 : IntKind.i64.wrap (c.cycle - 2 * edgeI c) = c.cycle - 2 * edgeI c := Ev.wrap_i64 (by omega) (by omega)
 refine PW.sr [0, 2, 4, 6, 8] 2 trivial ?_
 refine PW.seq ?_
 refine PW.sg ?_
 refine PL.gc (G := (errG3 e)) (A := []) (fun _ => PC.more (drumlinelaw8_alive_pc)) ?_
 refine PL.rw 1 [0, 2, 4, 6, 8, 22] 2 trivial ?_
 refine PL.nl ?_
 refine PW.cd false (fun hz0 => by cases hz0) (fun hz0 => ?_)
 refine PW.skip ?_
 show PW _ _ _ _ _
 refine PW.sg ?_
 refine PL.rw 1 [2, 4, 6, 8, 23] 2 trivial ?_
 refine PL.gc (A := []) (fun _ => hM) ?_
 refine PL.rw 2 [2, 4, 6, 8, 11] 3 trivial ?_
 refine PL.nl ?_
 refine PW.seq ?_
 refine PW.open [] (by kernel_rfl) ?_
 refine PO.tk [0, 1, 2, 3, 4, 5] 6 [2, 4, 8, 11, 12, 13] 0 (p := (0 ≤ (0 : Int) ∧ (0 : Int) < ((2 : Nat) : Int)) ∧ (0 ≤ (1 : Int) ∧ (1 : Int) < ((2 : Nat) : Int))) (by omega) (fun _ _ h => h) ?_
 refine PO.done (by kernel_rfl) ?_
 show PW _ _ _ _ _
 refine PW.seq ?_
 refine PW.open [] (by kernel_rfl) ?_
 refine PO.tk [0, 1, 2, 3, 4, 5] 6 [2, 4, 11, 12, 13, 14, 15] 0 (p := (0 ≤ (0 : Int) ∧ (0 : Int) < ((2 : Nat) : Int)) ∧ (0 ≤ (1 : Int) ∧ (1 : Int) < ((2 : Nat) : Int))) (by omega) (fun _ _ h => h) ?_
 refine PO.done (by kernel_rfl) ?_
 show PW _ _ _ _ _
 refine PW.seq ?_
 refine PW.sr [2, 4, 11, 12, 13, 14, 15, 85] 3 trivial ?_
 refine PW.cd ((((((((((decide (p < (IntKind.i64.wrap (0 - c.drift)))) || (decide (p > c.drift))) || (decide (q < (IntKind.i64.wrap (0 - c.drift))))) || (decide (q > c.drift))) || (decide (r < (IntKind.i64.wrap (0 - c.rate))))) || (decide (r > c.rate))) || (decide (a < ((-549755813888) : Int)))) || (decide (a > (549755813888 : Int)))) || (decide (b < ((-549755813888) : Int)))) || (decide (b > (549755813888 : Int)))) (fun hz1 => ?_) (fun hz1 => ?_)
 ·try simp only [boolS, isB_true, isB_false] at hz1
  refine PW.sr [10] 3 trivial ?_
  refine PW.ret ?_
  refine retQ_ret (d := D.v (.bool true)) (ps := []) (by kernel_rfl) trivial ?_
  rfl
 ·try simp only [boolS, isB_true, isB_false] at hz1
  refine PW.skip ?_
  show PW _ _ _ _ _
  refine PW.seq ?_
  refine PW.sg ?_
  refine PL.rw 4 [2, 4, 11, 12, 13, 14, 15, 88, 89] 3 trivial ?_
  refine PL.gc (d := I (2 * edgeI c)) (A := []) (fun _ => (bounds_Near_pc e hA c hp0 hl0).eq (congrArg (fun x => I (2 * x)) (if_pos hr))) ?_
  refine PL.rw 6 [2, 4, 11, 12, 13, 14, 15, 92, 95, 96] 3 trivial ?_
  refine PL.gc (d := I (2 * edgeI c)) (A := [(92, false)]) (fun _ => (bounds_Near_pc e hA c hp0 hl0).eq (congrArg (fun x => I (2 * x)) (if_pos hr))) ?_
  refine PL.rw 2 [2, 4, 11, 12, 13, 14, 15, 99] 3 trivial ?_
  refine PL.nl ?_
  refine PW.cd ((decide ((IntKind.i64.wrap (a - b)) > (2 * edgeI c))) || (decide ((IntKind.i64.wrap (b - a)) > (2 * edgeI c)))) (fun hz2 => ?_) (fun hz2 => ?_)
  ·try simp only [boolS, isB_true, isB_false] at hz2
   refine PW.sr [10] 3 trivial ?_
   refine PW.ret ?_
   refine retQ_ret (d := D.v (.bool true)) (ps := []) (by kernel_rfl) trivial ?_
   rfl
  ·try simp only [boolS, isB_true, isB_false] at hz2
   refine PW.skip ?_
   show PW _ _ _ _ _
   refine PW.seq ?_
   refine PW.open [] (by kernel_rfl) ?_
   refine PO.tk [0, 1, 2, 3, 4, 5, 6, 7] 13 [2, 11, 12, 13, 14, 15, 102, 104, 106, 107] 5 trivial (fun _ _ h => h) ?_
   refine PO.one (n := 4) 8 (by kernel_rfl) ?_
   refine PO1.gc _ (G := (errG3 e)) (d := I (2 * edgeI c)) (A := []) (fun _ => PC.more ((drumlineref5_Near_pc c hp0 hl0).eq (congrArg (fun x => I (2 * x)) (if_pos hr)))) ?_ rfl
   refine PO.tk [9] 4 [2, 11, 12, 13, 14, 15, 102, 104, 109] 3 trivial (fun _ _ h => h) ?_
   refine PO.one (n := 2) 10 (by kernel_rfl) ?_
   refine PO1.div (k := .i64) (A := []) (IntKind.i64.wrap t) (IntKind.i64.wrap (c.cycle - (2 * edgeI c))) ((IntKind.i64.wrap t).tmod (IntKind.i64.wrap (c.cycle - (2 * edgeI c)))) rfl rfl (by first | exact .inl ⟨rfl, rfl⟩ | exact .inr ⟨rfl, rfl⟩) (by kernel_rfl) (by kernel_rfl) (by kernel_rfl) (by kernel_rfl) (by kernel_rfl) (fun _ => by omega) ?_
   refine PO.tk [11, 12] 2 [2, 11, 12, 13, 14, 15, 16] 0 trivial (fun _ _ h => h) ?_
   refine PO.done (by kernel_rfl) ?_
   show PW _ _ _ _ _
   refine PW.sg ?_
   refine PL.rw 7 [2, 11, 13, 15, 16, 113, 115, 118, 119] 3 trivial ?_
   refine PL.gc (G := (errG3 e)) (A := []) (fun _ => PC.more (clock_Reading_pc a 7 c.cycle (IntKind.i64.wrap (p + r)) (IntKind.i64.wrap ((if b > a then b else a) + ((IntKind.i64.wrap t).tmod (IntKind.i64.wrap (c.cycle - (2 * edgeI c)))))))) ?_
   refine PL.rw 5 [2, 11, 13, 15, 16, 17, 18] 3 trivial ?_
   refine PL.nl ?_
   refine PW.sg ?_
   refine PL.rw 7 [11, 17, 18, 124, 126, 129, 130] 3 trivial ?_
   refine PL.gc (G := (errG3 e)) (A := []) (fun _ => PC.more (clock_Reading_pc b 7 c.cycle (IntKind.i64.wrap (q + r)) (IntKind.i64.wrap ((if b > a then b else a) + ((IntKind.i64.wrap t).tmod (IntKind.i64.wrap (c.cycle - (2 * edgeI c)))))))) ?_
   refine PL.rw 5 [11, 17, 18, 19, 20] 3 trivial ?_
   refine PL.nl ?_
   refine PW.sg ?_
   refine PL.rw 9 [11, 17, 19, 138, 141, 142] 3 trivial ?_
   refine PL.gc (d := I (tickI c)) (A := [(138, true)]) (fun _ => (bounds_Tick_pc e hA c hp0 hl0).eq (congrArg I (if_pos hr))) ?_
   refine PL.rw 7 [146, 149, 150] 3 trivial ?_
   refine PL.gc (d := I (tickI c)) (A := [(146, true)]) (fun _ => (bounds_Tick_pc e hA c hp0 hl0).eq (congrArg I (if_pos hr))) ?_
   refine PL.rw 3 [10] 3 trivial ?_
   refine PL.nl ?_
   refine PW.ret ?_
   refine retQ_ret (d := D.v (.bool ((((readB a 7 c.cycle (IntKind.i64.wrap (p + r)) (IntKind.i64.wrap ((if b > a then b else a) + ((IntKind.i64.wrap t).tmod (IntKind.i64.wrap (c.cycle - (2 * edgeI c))))))) && (readB b 7 c.cycle (IntKind.i64.wrap (q + r)) (IntKind.i64.wrap ((if b > a then b else a) + ((IntKind.i64.wrap t).tmod (IntKind.i64.wrap (c.cycle - (2 * edgeI c)))))))) && (decide ((IntKind.i64.wrap ((readI a 7 c.cycle (IntKind.i64.wrap (p + r)) (IntKind.i64.wrap ((if b > a then b else a) + ((IntKind.i64.wrap t).tmod (IntKind.i64.wrap (c.cycle - (2 * edgeI c))))))) - (readI b 7 c.cycle (IntKind.i64.wrap (q + r)) (IntKind.i64.wrap ((if b > a then b else a) + ((IntKind.i64.wrap t).tmod (IntKind.i64.wrap (c.cycle - (2 * edgeI c))))))))) ≤ (tickI c)))) && (decide ((IntKind.i64.wrap ((readI b 7 c.cycle (IntKind.i64.wrap (q + r)) (IntKind.i64.wrap ((if b > a then b else a) + ((IntKind.i64.wrap t).tmod (IntKind.i64.wrap (c.cycle - (2 * edgeI c))))))) - (readI a 7 c.cycle (IntKind.i64.wrap (p + r)) (IntKind.i64.wrap ((if b > a then b else a) + ((IntKind.i64.wrap t).tmod (IntKind.i64.wrap (c.cycle - (2 * edgeI c))))))))) ≤ (tickI c)))))) (ps := []) (by kernel_rfl) trivial ?_
   simp only [wd, wr] at hz1
   have wt : IntKind.i64.wrap t = t := Ev.wrap_i64 (by omega) (by omega)
   have w2 : IntKind.i64.wrap (p + r) = p + r := Ev.wrap_i64 (by omega) (by omega)
   have w3 : IntKind.i64.wrap (q + r) = q + r := Ev.wrap_i64 (by omega) (by omega)
   rw [Ev.wrap_i64 (x := a - b) (by omega) (by omega), Ev.wrap_i64 (x := b - a) (by omega) (by omega)] at hz2
   have hm : 0 ≤ t.tmod (c.cycle - 2 * edgeI c) ∧ t.tmod (c.cycle - 2 * edgeI c) < c.cycle - 2 * edgeI c := ⟨Int.tmod_nonneg _ ht.1, Int.tmod_lt_of_pos _ (by omega)⟩
   simp only [wt, w5, w2, w3]
   generalize t.tmod (c.cycle - 2 * edgeI c) = m at hm ⊢
   have hif : a ≤ (if b > a then b else a) ∧ (if b > a then b else a) ≤ 549755813888 := by split <;> omega
   rw [Ev.wrap_i64 (x := (if b > a then b else a) + m) (by omega) (by omega)]
   obtain ⟨g1, g2, g3⟩ := reads_law hR (a := a) (b := b) (m := m) (p := p) (q := q) (r := r) (by omega) (by omega) (by omega) hm (by omega) (by omega) (by omega) rfl
   rw [g1, g2]
   generalize readI a 7 c.cycle (p + r) ((if b > a then b else a) + m) = X at g3 ⊢
   generalize readI b 7 c.cycle (q + r) ((if b > a then b else a) + m) = Y at g3 ⊢
   have d1 : decide (X - Y ≤ tickI c) = true := decide_eq_true (by omega)
   have d2 : decide (Y - X ≤ tickI c) = true := decide_eq_true (by omega)
   rw [Ev.wrap_i64 (x := X - Y) (by omega) (by omega), Ev.wrap_i64 (x := Y - X) (by omega) (by omega), d1, d2]
   rfl
end Go.Proofs.YtagdeldgpkjjjaaDoor.Pl
