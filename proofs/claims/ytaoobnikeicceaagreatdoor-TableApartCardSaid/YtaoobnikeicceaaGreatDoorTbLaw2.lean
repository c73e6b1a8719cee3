/- Chapter 9's laws: TableApart, TableWhich, TableOwns. -/
import Derived.Test.YtaoobnikeicceaaGreatDoorTbLaw
import Derived.Test.YtaoobnikeicceaaGreatDoorTbMath
namespace Go.Proofs.YtaoobnikeicceaaGreatDoor.Pl
open Go.RowKit Go.Proofs.YtaoobnikeicceaaGreatDoor.Sm Go.Proofs.YtaoobnikeicceaaGreatDoor.Dp
set_option maxHeartbeats 4000000
set_option maxRecDepth 100000
set_option linter.unusedVariables false
set_option linter.unusedSimpArgs false
theorem portD_eq (o : Option Port) : portD o = D.t [D.r (Port.d (o.getD ⟨0, 0, 0, 0⟩)), D.v (.bool o.isSome)] := by cases o <;> rfl
theorem drumlinelaw9_TableApart_pc (e : Nat → Addr) (hA : Apart e) (n x p : Int) (c : Config) (hM : PC Tryz.prog (errG3 e) 16 [I n] (· = D.r (Config.d c))) (hp0 : c.parts.length < 1000000) (hl0 : c.links.length < 1000000) (hpp : (IntKind.i64.wrap x).tmod (c.parts.length : Int) = p) (hp1 : 1 ≤ c.parts.length) (F : Sched c p) : PC Tryz.prog (errG3 e) 5 [I n, D.v (.int .u8 x)] (· = D.v (.bool true)) := by
 refine PC.of (N := 72) Tryz.func5 rfl rfl (Nat.le_of_ble_eq_true rfl) ?_
 have f4 := F.many
 refine PW.sr [0, 1] 0 trivial ?_
 refine PW.seq ?_
 refine PW.sg ?_
 refine PL.gc (A := []) (fun _ => drumlinelaw9_alive_pc e hA) ?_
 refine PL.rw 1 [0, 1, 9] 0 trivial ?_
 refine PL.nl ?_
 refine PW.cd false (fun hz0 => by cases hz0) (fun hz0 => ?_)
 refine PW.skip ?_
 show PW _ _ _ _ _
 refine PW.sg ?_
 refine PL.rw 1 [1, 10] 0 trivial ?_
 refine PL.gc (A := []) (fun _ => hM) ?_
 refine PL.rw 2 [1, 5] 1 trivial ?_
 refine PL.nl ?_
 refine PW.seq ?_
 refine PW.open [] (by kernel_rfl) ?_
 refine PO.tk [0, 1, 2, 3, 4, 5] 9 [5, 12, 14, 17] 3 trivial (fun _ _ h => h) ?_
 refine PO.one (n := 2) 6 (by kernel_rfl) ?_
 refine PO1.div (k := .i64) (A := []) (IntKind.i64.wrap x) (c.parts.length : Int) ((IntKind.i64.wrap x).tmod (c.parts.length : Int)) rfl rfl (by first | exact .inl ⟨rfl, rfl⟩ | exact .inr ⟨rfl, rfl⟩) (by kernel_rfl) (by kernel_rfl) (by kernel_rfl) (by kernel_rfl) (by kernel_rfl) (fun _ => by omega) ?_
 refine PO.one (n := 1) 7 (by kernel_rfl) ?_
 refine PO1.gc _ (d := sl' 3 Slot.d (slotsOf c p)) (A := []) (fun _ => (table_Slots_pc0 e hA c ((IntKind.i64.wrap x).tmod (c.parts.length : Int)) hp0 hl0).list.eq (by rw [hpp])) ?_ rfl
 refine PO.tk [8] 1 [5, 6] 0 trivial (fun _ _ h => h) ?_
 refine PO.done (by kernel_rfl) ?_
 show PW _ _ _ _ _
 refine PW.seq ?_
 refine PW.sr [5, 6, 7] 1 trivial ?_
 refine PW.block ?_
 refine PW.lp (α := Nat) (fun i => { tab := [⟨5, [], D.p 0 0 0 0⟩, ⟨6, [], sl' 3 Slot.d (slotsOf c p)⟩, ⟨7, [], I (i : Int)⟩], mem := [Obj.var 25 (Config.d c)], gl := (errG3 e) }) (fun i => i ≤ (slotsOf c p).length) (fun i => (slotsOf c p).length - i) [5, 6, 7] 1 (0) ?_ ?_
 ·exact Nat.zero_le _
 rintro i hinv
 have hwi : 0 < i → IntKind.i64.wrap ((i : Int) - 1) = (i : Int) - 1 := fun h => Ev.wrap_i64 (by omega) (by omega)
 show PW _ _ _ _ _
 refine PW.seq ?_
 refine PW.sr [5, 6, 7, 23] 1 trivial ?_
 refine PW.cd (decide ((i : Int) < ((slotsOf c p).length : Int))) (fun hz1 => ?_) (fun hz1 => ?_)
 ·try simp only [boolS, isB_true, isB_false, Bool.false_or, false_or, Classical.not_not] at hz1
  refine PW.skip ?_
  show PW _ _ _ _ _
  refine PW.seq ?_
  refine PW.block ?_
  refine PW.seq ?_
  refine PW.open [] (by kernel_rfl) ?_
  refine PO.tk [0, 1, 2, 3, 4, 5, 6, 7, 8, 9, 10, 11, 12, 13, 14, 15, 16, 17, 18, 19, 20, 21, 22, 23, 24, 25, 26, 27, 28, 29, 30, 31, 32, 33, 34, 35, 36, 37, 38, 39, 40, 41, 42] 43 [5, 6, 7, 68] 0 (p := (((decide ((i : Int) > (0 : Int))) = true ∧ True → 0 ≤ (i : Int) ∧ (i : Int) < ((slotsOf c p).length : Int))) ∧ (((decide ((i : Int) > (0 : Int))) = true ∧ True → 0 ≤ (IntKind.i64.wrap ((i : Int) - 1)) ∧ (IntKind.i64.wrap ((i : Int) - 1)) < ((slotsOf c p).length : Int))) ∧ ((((decide ((i : Int) > (0 : Int))) && (decide ((IntKind.i64.wrap ((((slotsOf c p).getD i default).at_) - (((slotsOf c p).getD ((IntKind.i64.wrap ((i : Int) - 1)).toNat) default).at_))) ≤ (IntKind.i64.wrap (2 * c.window))))) = false ∧ True → 0 ≤ (i : Int) ∧ (i : Int) < ((slotsOf c p).length : Int))) ∧ (((((decide ((i : Int) > (0 : Int))) && (decide ((IntKind.i64.wrap ((((slotsOf c p).getD i default).at_) - (((slotsOf c p).getD ((IntKind.i64.wrap ((i : Int) - 1)).toNat) default).at_))) ≤ (IntKind.i64.wrap (2 * c.window))))) || (decide ((((slotsOf c p).getD i default).at_) < c.window))) = false ∧ True → 0 ≤ (i : Int) ∧ (i : Int) < ((slotsOf c p).length : Int)))) (by ((repeat' (first | intro _ | refine And.intro ?_ ?_)) <;> first | omega | trivial | assumption | (rename_i hgd; simp only [Bool.and_eq_true, decide_eq_true_eq, and_true] at hgd; omega))) (fun _ _ h => h) ?_
  refine PO.done (by kernel_rfl) ?_
  show PW _ _ _ _ _
  refine PW.cd ((((decide ((i : Int) > (0 : Int))) && (decide ((IntKind.i64.wrap ((((slotsOf c p).getD i default).at_) - (((slotsOf c p).getD ((IntKind.i64.wrap ((i : Int) - 1)).toNat) default).at_))) ≤ (IntKind.i64.wrap (2 * c.window))))) || (decide ((((slotsOf c p).getD i default).at_) < c.window))) || (decide ((IntKind.i64.wrap ((((slotsOf c p).getD i default).at_) + c.window)) > c.cycle))) (fun hz2 => ?_) (fun hz2 => ?_)
  ·try simp only [boolS, isB_true, isB_false, Bool.false_or, false_or, Classical.not_not] at hz2
   refine PW.sr [4] 1 trivial ?_
   refine PW.ret ?_
   refine retQ_ret (d := D.v (.bool false)) (ps := []) (by kernel_rfl) trivial ?_
   exfalso
   have hX := F.at_ i (by omega)
   have f2 := F.win
   have f3 := F.cyc
   have f4 := F.many
   have hw2 : IntKind.i64.wrap (((slotsOf c p).getD i default).at_ + c.window) = ((slotsOf c p).getD i default).at_ + c.window := Ev.wrap_i64 (by omega) (by omega)
   have hw3 : IntKind.i64.wrap (2 * c.window) = 2 * c.window := Ev.wrap_i64 (by omega) (by omega)
   rw [hw2, hw3] at hz2
   by_cases h0 : 0 < i
   · have hi1 : (IntKind.i64.wrap ((i : Int) - 1)).toNat = i - 1 := by rw [Ev.wrap_i64 (by omega) (by omega)]; omega
     have hY := F.at_ (i - 1) (by omega)
     rw [hi1, Ev.wrap_i64 (x := ((slotsOf c p).getD i default).at_ - ((slotsOf c p).getD (i - 1) default).at_) (by omega) (by omega)] at hz2
     omega
   · omega
  ·try simp only [boolS, isB_true, isB_false, Bool.false_or, false_or, Classical.not_not] at hz2
   refine PW.skip ?_
   show PW _ _ _ _ _
   refine PW.rr [5, 6, 7] 1 trivial ?_
   refine BackR.of (s1 := { tab := [⟨5, [], D.p 0 0 0 0⟩, ⟨6, [], sl' 3 Slot.d (slotsOf c p)⟩, ⟨7, [], I (IntKind.i64.wrap ((i : Int) + 1))⟩], mem := [Obj.var 25 (Config.d c)], gl := (errG3 e) }) (i + 1) (by kernel_rfl) (by kernel_rfl) ?_ ?_ ?_
   ·rw [wrap1 i (by omega)]
    exact Rem.refl _
   ·((repeat' (first | intro _ | refine And.intro ?_ ?_)) <;> first | omega | trivial | assumption | (rename_i hgd; simp only [Bool.and_eq_true, decide_eq_true_eq, and_true] at hgd; omega))
   ·((repeat' (first | intro _ | refine And.intro ?_ ?_)) <;> first | omega | trivial | assumption | (rename_i hgd; simp only [Bool.and_eq_true, decide_eq_true_eq, and_true] at hgd; omega))
 ·try simp only [boolS, isB_true, isB_false, Bool.false_or, false_or, Classical.not_not] at hz1
  refine PW.exit ?_
  show PW _ _ _ _ _
  refine PW.sr [4] 1 trivial ?_
  refine PW.ret ?_
  refine retQ_ret (d := D.v (.bool (decide (((slotsOf c p).length : Int) ≥ (5 : Int))))) (ps := []) (by kernel_rfl) trivial ?_
  have f4 := F.many
  rw [decide_eq_true (by omega)]
theorem drumlinelaw9_TableWhich_pc (e : Nat → Addr) (hA : Apart e) (n x p s y d : Int) (j : Nat) (c : Config) (hM : PC Tryz.prog (errG3 e) 16 [I n] (· = D.r (Config.d c))) (hp0 : c.parts.length < 1000000) (hl0 : c.links.length < 1000000) (hpp : (IntKind.i64.wrap x).tmod (c.parts.length : Int) = p) (hp1 : 1 ≤ c.parts.length) (F : Sched c p) (hjj : (IntKind.i64.wrap s).tmod ((slotsOf c p).length : Int) = (j : Int)) (hj : j < (slotsOf c p).length) (hdd : (IntKind.i64.wrap y).tmod c.slot = d) (hdi : -100 < d ∧ d < 100) : PC Tryz.prog (errG3 e) 6 [I n, D.v (.int .u8 x), D.v (.int .u8 s), D.v (.int .i16 y)] (· = D.v (.bool true)) := by
 refine PC.of (N := 72) Tryz.func6 rfl rfl (Nat.le_of_ble_eq_true rfl) ?_
 have f4 := F.many
 have f5 := F.slt
 have hjn : (j : Int).toNat = j := Int.toNat_natCast j
 refine PW.sr [0, 1, 2, 3] 0 trivial ?_
 refine PW.seq ?_
 refine PW.sg ?_
 refine PL.gc (A := []) (fun _ => drumlinelaw9_alive_pc e hA) ?_
 refine PL.rw 1 [0, 1, 2, 3, 16] 0 trivial ?_
 refine PL.nl ?_
 refine PW.cd false (fun hz0 => by cases hz0) (fun hz0 => ?_)
 refine PW.skip ?_
 show PW _ _ _ _ _
 refine PW.sg ?_
 refine PL.rw 1 [1, 2, 3, 17] 0 trivial ?_
 refine PL.gc (A := []) (fun _ => hM) ?_
 refine PL.rw 2 [1, 2, 3, 9] 1 trivial ?_
 refine PL.nl ?_
 refine PW.sg ?_
 refine PL.rw 5 [2, 3, 9, 20, 23] 1 trivial ?_
 refine PL.div (k := .i64) (A := []) (IntKind.i64.wrap x) (c.parts.length : Int) ((IntKind.i64.wrap x).tmod (c.parts.length : Int)) rfl (by first | exact .inl ⟨rfl, rfl⟩ | exact .inr ⟨rfl, rfl⟩) (by kernel_rfl) (by kernel_rfl) (by kernel_rfl) (by kernel_rfl) (by kernel_rfl) (fun _ => by omega) ?_
 refine PL.row 1 [2, 3, 9, 10] 1 (s' := { tab := [⟨2, [], D.v (.int .u8 s)⟩, ⟨3, [], D.v (.int .i16 y)⟩, ⟨9, [], D.p 0 0 0 0⟩, ⟨10, [], I ((IntKind.i64.wrap x).tmod (c.parts.length : Int))⟩], mem := [Obj.var 25 (Config.d c)], gl := (errG3 e) }) (p := True) (by kernel_rfl) (by kernel_rfl) (by kernel_rfl) (by kernel_rfl) (by kernel_rfl) trivial ?_
 refine PL.eq (s' := { tab := [⟨2, [], D.v (.int .u8 s)⟩, ⟨3, [], D.v (.int .i16 y)⟩, ⟨9, [], D.p 0 0 0 0⟩, ⟨10, [], I p⟩], mem := [Obj.var 25 (Config.d c)], gl := (errG3 e) }) (by rw [hpp]) ?_
 refine PL.nl ?_
 refine PW.sg ?_
 refine PL.rw 2 [2, 3, 9, 10, 25, 26] 1 trivial ?_
 refine PL.gc (A := []) (fun _ => (table_Slots_pc0 e hA c p hp0 hl0).list) ?_
 refine PL.rw 1 [2, 3, 9, 10, 11] 1 trivial ?_
 refine PL.nl ?_
 refine PW.seq ?_
 refine PW.sr [2, 3, 9, 10, 11, 30] 1 trivial ?_
 refine PW.cd (((slotsOf c p).length : Int) == (0 : Int)) (fun hz1 => ?_) (fun hz1 => ?_)
 ·try simp only [boolS, isB_true, isB_false, Bool.false_or, false_or, Classical.not_not] at hz1
  refine PW.sr [8] 1 trivial ?_
  refine PW.ret ?_
  refine retQ_ret (d := D.v (.bool false)) (ps := []) (by kernel_rfl) trivial ?_
  exfalso
  have f4 := F.many
  omega
 ·try simp only [boolS, isB_true, isB_false, Bool.false_or, false_or, Classical.not_not] at hz1
  refine PW.skip ?_
  show PW _ _ _ _ _
  refine PW.sg ?_
  refine PL.rw 4 [3, 9, 10, 11, 32, 34] 1 trivial ?_
  refine PL.div (k := .i64) (A := []) (IntKind.i64.wrap s) ((slotsOf c p).length : Int) ((IntKind.i64.wrap s).tmod ((slotsOf c p).length : Int)) rfl (by first | exact .inl ⟨rfl, rfl⟩ | exact .inr ⟨rfl, rfl⟩) (by kernel_rfl) (by kernel_rfl) (by kernel_rfl) (by kernel_rfl) (by kernel_rfl) (fun _ => by omega) ?_
  refine PL.row 1 [3, 9, 10, 11, 12] 1 (s' := { tab := [⟨3, [], D.v (.int .i16 y)⟩, ⟨9, [], D.p 0 0 0 0⟩, ⟨10, [], I p⟩, ⟨11, [], sl' 3 Slot.d (slotsOf c p)⟩, ⟨12, [], I ((IntKind.i64.wrap s).tmod ((slotsOf c p).length : Int))⟩], mem := [Obj.var 25 (Config.d c)], gl := (errG3 e) }) (p := True) (by kernel_rfl) (by kernel_rfl) (by kernel_rfl) (by kernel_rfl) (by kernel_rfl) trivial ?_
  refine PL.eq (s' := { tab := [⟨3, [], D.v (.int .i16 y)⟩, ⟨9, [], D.p 0 0 0 0⟩, ⟨10, [], I p⟩, ⟨11, [], sl' 3 Slot.d (slotsOf c p)⟩, ⟨12, [], I (j : Int)⟩], mem := [Obj.var 25 (Config.d c)], gl := (errG3 e) }) (by rw [hjj]) ?_
  refine PL.nl ?_
  refine PW.seq ?_
  refine PW.open [] (by kernel_rfl) ?_
  refine PO.tk [0, 1, 2, 3, 4, 5, 6, 7, 8, 9, 10] 15 [3, 9, 12, 36, 37, 42, 44, 46] 4 (p := (0 ≤ (j : Int) ∧ (j : Int) < ((slotsOf c p).length : Int))) (by omega) (fun _ _ h => h) ?_
  refine PO.one (n := 3) 11 (by kernel_rfl) ?_
  refine PO1.div (k := .i64) (A := []) (IntKind.i64.wrap y) c.slot ((IntKind.i64.wrap y).tmod c.slot) rfl rfl (by first | exact .inl ⟨rfl, rfl⟩ | exact .inr ⟨rfl, rfl⟩) (by kernel_rfl) (by kernel_rfl) (by kernel_rfl) (by kernel_rfl) (by kernel_rfl) (fun _ => by omega) ?_
  refine PO.tk [12] 3 [3, 9, 12, 36, 37, 48] 2 trivial (fun _ _ h => h) ?_
  refine PO.one (n := 1) 13 (by kernel_rfl) ?_
  refine PO1.gc _ (A := []) (fun _ => table_Which_pc e hA c p (IntKind.i64.wrap ((((slotsOf c p).getD j default).at_) + ((IntKind.i64.wrap y).tmod c.slot))) hp0 hl0) ?_ rfl
  refine PO.tk [14] 1 [3, 9, 12, 13] 0 trivial (fun _ _ h => h) ?_
  refine PO.done (by kernel_rfl) ?_
  show PW _ _ _ _ _
  refine PW.sg ?_
  refine PL.rw 4 [9, 12, 13, 51, 53] 1 trivial ?_
  refine PL.div (k := .i64) (A := []) (IntKind.i64.wrap y) c.slot ((IntKind.i64.wrap y).tmod c.slot) rfl (by first | exact .inl ⟨rfl, rfl⟩ | exact .inr ⟨rfl, rfl⟩) (by kernel_rfl) (by kernel_rfl) (by kernel_rfl) (by kernel_rfl) (by kernel_rfl) (fun _ => by omega) ?_
  refine PL.row 1 [9, 12, 13, 14] 1 (s' := { tab := [⟨9, [], D.p 0 0 0 0⟩, ⟨12, [], I (j : Int)⟩, ⟨13, [], I (whichI c p (IntKind.i64.wrap ((((slotsOf c p).getD j default).at_) + ((IntKind.i64.wrap y).tmod c.slot))))⟩, ⟨14, [], I ((IntKind.i64.wrap y).tmod c.slot)⟩], mem := [Obj.var 25 (Config.d c)], gl := (errG3 e) }) (p := True) (by kernel_rfl) (by kernel_rfl) (by kernel_rfl) (by kernel_rfl) (by kernel_rfl) trivial ?_
  refine PL.eq (s' := { tab := [⟨9, [], D.p 0 0 0 0⟩, ⟨12, [], I (j : Int)⟩, ⟨13, [], I (whichI c p (IntKind.i64.wrap ((((slotsOf c p).getD j default).at_) + ((IntKind.i64.wrap y).tmod c.slot))))⟩, ⟨14, [], I d⟩], mem := [Obj.var 25 (Config.d c)], gl := (errG3 e) }) (by rw [hdd]) ?_
  refine PL.nl ?_
  refine PW.seq ?_
  refine PW.sr [12, 13, 65] 1 trivial ?_
  refine PW.cd ((decide (d ≤ c.window)) && (decide (d ≥ (IntKind.i64.wrap (0 - c.window))))) (fun hz2 => ?_) (fun hz2 => ?_)
  ·try simp only [boolS, isB_true, isB_false, Bool.false_or, false_or, Classical.not_not] at hz2
   refine PW.sr [8] 1 trivial ?_
   refine PW.ret ?_
   refine retQ_ret (d := D.v (.bool ((whichI c p (IntKind.i64.wrap ((((slotsOf c p).getD j default).at_) + ((IntKind.i64.wrap y).tmod c.slot)))) == (j : Int)))) (ps := []) (by kernel_rfl) trivial ?_
   have f2 := F.win
   have hX := F.at_ j hj
   have hT : IntKind.i64.wrap (((slotsOf c p).getD j default).at_ + (IntKind.i64.wrap y).tmod c.slot) = 60 + 100 * (j : Int) + d := by rw [hdd, Ev.wrap_i64 (by omega) (by omega)]; omega
   have hn : IntKind.i64.wrap (0 - c.window) = -c.window := by rw [Ev.wrap_i64 (by omega) (by omega)]; omega
   rw [hn] at hz2
   rw [hT]
   rw [F.hit hj rfl (by omega)]
   simp
  ·try simp only [boolS, isB_true, isB_false, Bool.false_or, false_or, Classical.not_not] at hz2
   refine PW.skip ?_
   show PW _ _ _ _ _
   refine PW.sr [8] 1 trivial ?_
   refine PW.ret ?_
   refine retQ_ret (d := D.v (.bool ((whichI c p (IntKind.i64.wrap ((((slotsOf c p).getD j default).at_) + ((IntKind.i64.wrap y).tmod c.slot)))) != (j : Int)))) (ps := []) (by kernel_rfl) trivial ?_
   have f2 := F.win
   have hX := F.at_ j hj
   have hT : IntKind.i64.wrap (((slotsOf c p).getD j default).at_ + (IntKind.i64.wrap y).tmod c.slot) = 60 + 100 * (j : Int) + d := by rw [hdd, Ev.wrap_i64 (by omega) (by omega)]; omega
   have hn : IntKind.i64.wrap (0 - c.window) = -c.window := by rw [Ev.wrap_i64 (by omega) (by omega)]; omega
   rw [hn] at hz2
   rw [hT]
   have hmi := F.miss hj rfl (d := d) (by omega)
   simpa using hmi
theorem drumlinelaw9_TableOwns_pc (e : Nat → Addr) (hA : Apart e) (n x p y z kk xx : Int) (c : Config) (hM : PC Tryz.prog (errG3 e) 16 [I n] (· = D.r (Config.d c))) (hp0 : c.parts.length < 1000000) (hl0 : c.links.length < 1000000) (hpp : (IntKind.i64.wrap x).tmod (c.parts.length : Int) = p) (hp1 : 1 ≤ c.parts.length) (F : Sched c p) (hkk : (IntKind.i64.wrap z).tmod 8 = kk) (hxx : (IntKind.i64.wrap y).tmod 14 = xx) (hx0 : 0 ≤ xx) : PC Tryz.prog (errG3 e) 7 [I n, D.v (.int .u8 x), D.v (.int .u8 y), D.v (.int .u8 z)] (· = D.v (.bool true)) := by
 refine PC.of (N := 106) Tryz.func7 rfl rfl (Nat.le_of_ble_eq_true rfl) ?_
 have f4 := F.many
 have f6 := F.here
 rw [isB_true] at f6
 refine PW.sr [0, 1, 2, 3] 0 trivial ?_
 refine PW.seq ?_
 refine PW.sg ?_
 refine PL.gc (A := []) (fun _ => drumlinelaw9_alive_pc e hA) ?_
 refine PL.rw 1 [0, 1, 2, 3, 20] 0 trivial ?_
 refine PL.nl ?_
 refine PW.cd false (fun hz0 => by cases hz0) (fun hz0 => ?_)
 refine PW.skip ?_
 show PW _ _ _ _ _
 refine PW.sg ?_
 refine PL.rw 1 [1, 2, 3, 21] 0 trivial ?_
 refine PL.gc (A := []) (fun _ => hM) ?_
 refine PL.rw 2 [1, 2, 3, 9] 1 trivial ?_
 refine PL.nl ?_
 refine PW.sg ?_
 refine PL.rw 5 [2, 3, 9, 24, 27] 1 trivial ?_
 refine PL.div (k := .i64) (A := []) (IntKind.i64.wrap x) (c.parts.length : Int) ((IntKind.i64.wrap x).tmod (c.parts.length : Int)) rfl (by first | exact .inl ⟨rfl, rfl⟩ | exact .inr ⟨rfl, rfl⟩) (by kernel_rfl) (by kernel_rfl) (by kernel_rfl) (by kernel_rfl) (by kernel_rfl) (fun _ => by omega) ?_
 refine PL.row 9 [9, 10, 11, 12] 1 (s' := { tab := [⟨9, [], D.p 0 0 0 0⟩, ⟨10, [], I ((IntKind.i64.wrap x).tmod (c.parts.length : Int))⟩, ⟨11, [], I ((IntKind.i64.wrap z).tmod 8)⟩, ⟨12, [], I ((IntKind.i64.wrap y).tmod 14)⟩], mem := [Obj.var 25 (Config.d c)], gl := (errG3 e) }) (p := True) (by kernel_rfl) (by kernel_rfl) (by kernel_rfl) (by kernel_rfl) (by kernel_rfl) trivial ?_
 refine PL.eq (s' := { tab := [⟨9, [], D.p 0 0 0 0⟩, ⟨10, [], I p⟩, ⟨11, [], I kk⟩, ⟨12, [], I xx⟩], mem := [Obj.var 25 (Config.d c)], gl := (errG3 e) }) (by rw [hpp, hkk, hxx]) ?_
 refine PL.nl ?_
 refine PW.sg ?_
 refine PL.rw 2 [9, 10, 11, 12, 35, 36] 1 trivial ?_
 refine PL.gc (A := []) (fun _ => (table_Slots_pc0 e hA c p hp0 hl0).list) ?_
 refine PL.rw 1 [9, 10, 11, 12, 13] 1 trivial ?_
 refine PL.nl ?_
 refine PW.sr [9, 10, 11, 12, 13, 14] 1 trivial ?_
 refine PW.seq ?_
 refine PW.sr [9, 10, 11, 12, 13, 14, 15] 1 trivial ?_
 refine PW.block ?_
 refine PW.lp (α := Nat × Nat) (fun (i, m) => { tab := [⟨9, [], D.p 0 0 0 0⟩, ⟨10, [], I p⟩, ⟨11, [], I kk⟩, ⟨12, [], I xx⟩, ⟨13, [], sl' 3 Slot.d (slotsOf c p)⟩, ⟨14, [], I (m : Int)⟩, ⟨15, [], I (i : Int)⟩], mem := [Obj.var 25 (Config.d c)], gl := (errG3 e) }) (fun (i, m) => i ≤ (slotsOf c p).length ∧ m = (cntA (fun i => atB kk xx ((slotsOf c p).getD i default)) i)) (fun (i, m) => (slotsOf c p).length - i) [9, 10, 11, 12, 13, 14, 15] 1 (0, 0) ?_ ?_
 ·dsimp only
  exact ⟨Nat.zero_le _, rfl⟩
 rintro ⟨i, m⟩ hinv
 dsimp only at hinv
 have hml := cntA_le (fun i => atB kk xx ((slotsOf c p).getD i default)) i
 show PW _ _ _ _ _
 refine PW.seq ?_
 refine PW.sr [9, 10, 11, 12, 13, 14, 15, 41] 1 trivial ?_
 refine PW.cd (decide ((i : Int) < ((slotsOf c p).length : Int))) (fun hz1 => ?_) (fun hz1 => ?_)
 ·try simp only [boolS, isB_true, isB_false, Bool.false_or, false_or, Classical.not_not] at hz1
  refine PW.skip ?_
  show PW _ _ _ _ _
  refine PW.seq ?_
  refine PW.block ?_
  refine PW.sr [9, 10, 11, 12, 13, 14, 15, 59] 1 (p := (0 ≤ (i : Int) ∧ (i : Int) < ((slotsOf c p).length : Int)) ∧ ((((((slotsOf c p).getD i default).kind) == kk) = true ∧ True → 0 ≤ (i : Int) ∧ (i : Int) < ((slotsOf c p).length : Int)))) (by ((repeat' (first | intro _ | refine And.intro ?_ ?_)) <;> first | omega | trivial | assumption | (rename_i hgd; simp only [Bool.and_eq_true, decide_eq_true_eq, and_true] at hgd; omega))) ?_
  refine PW.cd (((((slotsOf c p).getD i default).kind) == kk) && ((((slotsOf c p).getD i default).node) == xx)) (fun hz2 => ?_) (fun hz2 => ?_)
  ·try simp only [boolS, isB_true, isB_false, Bool.false_or, false_or, Classical.not_not] at hz2
   refine PW.sr [9, 10, 11, 12, 13, 14, 15] 1 trivial ?_
   refine PW.sg ?_
   refine PL.rw 4 [9, 10, 11, 12, 13, 14, 15, 62, 63, 64, 65] 1 trivial ?_
   refine PL.gc (A := []) (fun _ => table_Find_pc e hA c p kk xx hp0 hl0) ?_
   refine PL.rw 2 [9, 10, 11, 12, 13, 14, 15, 68] 1 trivial ?_
   refine PL.nl ?_
   refine PW.cd ((findI c p kk xx) != (i : Int)) (fun hz3 => ?_) (fun hz3 => ?_)
   ·try simp only [boolS, isB_true, isB_false, Bool.false_or, false_or, Classical.not_not] at hz3
    refine PW.sr [8] 1 trivial ?_
    refine PW.ret ?_
    refine retQ_ret (d := D.v (.bool false)) (ps := []) (by kernel_rfl) trivial ?_
    exfalso
    have hat : atB kk xx ((slotsOf c p).getD i default) = true := by simp [atB]; simpa using hz2
    have hfa := find_at F.fit F.here (by omega) hat
    omega
   ·try simp only [boolS, isB_true, isB_false, Bool.false_or, false_or, Classical.not_not] at hz3
    refine PW.skip ?_
    show PW _ _ _ _ _
    refine PW.rr [9, 10, 11, 12, 13, 14, 15] 1 trivial ?_
    refine BackR.of (s1 := { tab := [⟨9, [], D.p 0 0 0 0⟩, ⟨10, [], I p⟩, ⟨11, [], I kk⟩, ⟨12, [], I xx⟩, ⟨13, [], sl' 3 Slot.d (slotsOf c p)⟩, ⟨14, [], I (IntKind.i64.wrap ((m : Int) + 1))⟩, ⟨15, [], I (IntKind.i64.wrap ((i : Int) + 1))⟩], mem := [Obj.var 25 (Config.d c)], gl := (errG3 e) }) (i + 1, m + 1) (by kernel_rfl) (by kernel_rfl) ?_ ?_ ?_
    ·dsimp only
     first | rw [wrap1 i (by omega), wrap1 m (by omega)] | rw [wrap1 i (by omega)]
     exact Rem.refl _
    ·dsimp only
     refine ⟨by omega, ?_⟩
     rw [cntA, ← hinv.2]
     first | rw [if_pos (by simp [atB]; simpa using hz2)] | (rw [if_neg (by simp [atB]; simp at hz2; grind)]; omega)
    ·dsimp only
     ((repeat' (first | intro _ | refine And.intro ?_ ?_)) <;> first | omega | trivial | assumption | (rename_i hgd; simp only [Bool.and_eq_true, decide_eq_true_eq, and_true] at hgd; omega))
  ·try simp only [boolS, isB_true, isB_false, Bool.false_or, false_or, Classical.not_not] at hz2
   refine PW.skip ?_
   show PW _ _ _ _ _
   refine PW.rr [9, 10, 11, 12, 13, 14, 15] 1 trivial ?_
   refine BackR.of (s1 := { tab := [⟨9, [], D.p 0 0 0 0⟩, ⟨10, [], I p⟩, ⟨11, [], I kk⟩, ⟨12, [], I xx⟩, ⟨13, [], sl' 3 Slot.d (slotsOf c p)⟩, ⟨14, [], I (m : Int)⟩, ⟨15, [], I (IntKind.i64.wrap ((i : Int) + 1))⟩], mem := [Obj.var 25 (Config.d c)], gl := (errG3 e) }) (i + 1, m) (by kernel_rfl) (by kernel_rfl) ?_ ?_ ?_
   ·dsimp only
    first | rw [wrap1 i (by omega), wrap1 m (by omega)] | rw [wrap1 i (by omega)]
    exact Rem.refl _
   ·dsimp only
    refine ⟨by omega, ?_⟩
    rw [cntA, ← hinv.2]
    first | rw [if_pos (by simp [atB]; simpa using hz2)] | (rw [if_neg (by simp [atB]; simp at hz2; grind)]; omega)
   ·dsimp only
    ((repeat' (first | intro _ | refine And.intro ?_ ?_)) <;> first | omega | trivial | assumption | (rename_i hgd; simp only [Bool.and_eq_true, decide_eq_true_eq, and_true] at hgd; omega))
 ·try simp only [boolS, isB_true, isB_false, Bool.false_or, false_or, Classical.not_not] at hz1
  refine PW.exit ?_
  show PW _ _ _ _ _
  refine PW.sg ?_
  refine PL.rw 3 [9, 10, 11, 12, 14, 70, 71, 72] 1 trivial ?_
  refine PL.gc (G := (errG3 e)) (ds0 := [D.r (Config.d c), I p, I xx]) (d := D.t [D.r [I (((portQ c p xx).getD ⟨0, 0, 0, 0⟩).node), I (((portQ c p xx).getD ⟨0, 0, 0, 0⟩).link), I (((portQ c p xx).getD ⟨0, 0, 0, 0⟩).gate), I (((portQ c p xx).getD ⟨0, 0, 0, 0⟩).side)], D.v (.bool ((portQ c p xx).isSome))]) (A := []) (fun _ => PC.more ((drumlineref5_Port_pc c p xx hp0 hl0).eq (portD_eq _))) ?_
  refine PL.rw 6 [9, 10, 11, 12, 14, 17] 2 trivial ?_
  refine PL.nl ?_
  refine PW.sr [9, 10, 11, 12, 14, 17, 18] 2 trivial ?_
  refine PW.seq ?_
  refine PW.sr [14, 18, 102] 2 (p := (((kk == (2 : Int)) = true ∧ True → 0 ≤ p ∧ p < (c.parts.length : Int)))) (by ((repeat' (first | intro _ | refine And.intro ?_ ?_)) <;> first | omega | trivial | assumption | (rename_i hgd; simp only [Bool.and_eq_true, decide_eq_true_eq, and_true] at hgd; omega))) ?_
  refine PW.cd (((kk == (2 : Int)) && (decide (xx < ((c.parts.getD p.toNat default).nodes)))) || (((portQ c p xx).isSome) && (((kk == (3 : Int)) || (kk == (4 : Int))) || (kk == (5 : Int))))) (fun hz4 => ?_) (fun hz4 => ?_)
  ·try simp only [boolS, isB_true, isB_false, Bool.false_or, false_or, Classical.not_not] at hz4
   refine PW.rr [14, 18] 2 trivial ?_
   show PW _ _ _ _ _
   refine PW.sr [8] 2 trivial ?_
   refine PW.ret ?_
   refine retQ_ret (d := D.v (.bool ((m : Int) == (1 : Int)))) (ps := []) (by kernel_rfl) trivial ?_
   have how := owns F.fit F.here (k := kk) (x := xx) hx0
   have hil : i = (slotsOf c p).length := by omega
   rw [← hil, ← hinv.2] at how
   have hno : nodesI c p = (c.parts.getD p.toNat default).nodes := rfl
   have hm1 : m = 1 := by rw [how, if_pos (by rw [hno]; grind)]
   rw [hm1]
   rfl
  ·try simp only [boolS, isB_true, isB_false, Bool.false_or, false_or, Classical.not_not] at hz4
   refine PW.skip ?_
   show PW _ _ _ _ _
   refine PW.sr [8] 2 trivial ?_
   refine PW.ret ?_
   refine retQ_ret (d := D.v (.bool ((m : Int) == (0 : Int)))) (ps := []) (by kernel_rfl) trivial ?_
   have how := owns F.fit F.here (k := kk) (x := xx) hx0
   have hil : i = (slotsOf c p).length := by omega
   rw [← hil, ← hinv.2] at how
   have hno : nodesI c p = (c.parts.getD p.toNat default).nodes := rfl
   have hm1 : m = 0 := by rw [how, if_neg (by rw [hno]; grind)]
   rw [hm1]
   rfl
end Go.Proofs.YtaoobnikeicceaaGreatDoor.Pl
