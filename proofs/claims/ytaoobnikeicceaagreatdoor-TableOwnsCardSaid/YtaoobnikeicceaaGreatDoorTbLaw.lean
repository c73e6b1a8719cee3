/- Chapter 9's laws: same, alive, TableTells, TableMade. -/
import Derived.Test.YtaoobnikeicceaaGreatDoorTbThree
import Derived.Test.YtaoobnikeicceaaGreatDoorTbEq
import Derived.Test.YtaoobnikeicceaaGreatDoorMdA
namespace Go.Proofs.YtaoobnikeicceaaGreatDoor.Pl
open Go.RowKit Go.Proofs.YtaoobnikeicceaaGreatDoor.Sm Go.Proofs.YtaoobnikeicceaaGreatDoor.Dp
set_option maxHeartbeats 4000000
set_option maxRecDepth 100000
set_option linter.unusedVariables false
set_option linter.unusedSimpArgs false
theorem drumlinelaw9_same_pc (xs : List Slot) (hl : xs.length < 1000000) : PC Tryz.prog [] 9 [sl' 3 Slot.d xs, sl' 3 Slot.d xs] (· = D.v (.bool true)) := by
 refine PC.of (N := 26) Tryz.func9 rfl rfl (Nat.le_of_ble_eq_true rfl) ?_
 refine PW.sr [0, 1] 0 trivial ?_
 refine PW.seq ?_
 refine PW.sr [0, 1, 10] 0 trivial ?_
 refine PW.cd ((xs.length : Int) != (xs.length : Int)) (fun hz0 => ?_) (fun hz0 => ?_)
 ·try simp only [boolS, isB_true, isB_false] at hz0
  refine PW.sr [4] 0 trivial ?_
  refine PW.ret ?_
  refine retQ_ret (d := D.v (.bool false)) (ps := []) (by kernel_rfl) trivial ?_
  exfalso
  simp at hz0
 ·try simp only [boolS, isB_true, isB_false] at hz0
  refine PW.skip ?_
  show PW _ _ _ _ _
  refine PW.seq ?_
  refine PW.sr [0, 1, 5] 0 trivial ?_
  refine PW.block ?_
  refine PW.lp (α := Nat) (fun i => { tab := [⟨0, [], sl' 3 Slot.d xs⟩, ⟨1, [], sl' 3 Slot.d xs⟩, ⟨5, [], I (i : Int)⟩], mem := [] }) (fun i => i ≤ xs.length) (fun i => xs.length - i) [0, 1, 5] 0 (0) ?_ ?_
  ·exact Nat.zero_le _
  rintro i hinv
  show PW _ _ _ _ _
  refine PW.seq ?_
  refine PW.sr [0, 1, 5, 14] 0 trivial ?_
  refine PW.cd (decide ((i : Int) < (xs.length : Int))) (fun hz1 => ?_) (fun hz1 => ?_)
  ·try simp only [boolS, isB_true, isB_false] at hz1
   refine PW.skip ?_
   show PW _ _ _ _ _
   refine PW.seq ?_
   refine PW.block ?_
   refine PW.seq ?_
   refine PW.open [] (by kernel_rfl) ?_
   refine PO.tk [0, 1, 2, 3, 4, 5, 6, 7] 9 [0, 1, 5, 20, 24] 1 (p := (0 ≤ (i : Int) ∧ (i : Int) < (xs.length : Int)) ∧ (0 ≤ (i : Int) ∧ (i : Int) < (xs.length : Int))) (by omega) (fun _ _ h => h) ?_
   refine PO.one (n := 0) 8 (by kernel_rfl) ?_
   refine PO1.eqS (A := []) (xs.getD i default) (xs.getD i default) (!(Slot.eqB (xs.getD i default) (xs.getD i default))) rfl rfl (by first | exact .inl ⟨rfl, rfl⟩ | exact .inr ⟨rfl, rfl⟩) (by kernel_rfl) (by kernel_rfl) (by kernel_rfl) (by kernel_rfl) ?_
   refine PO.done (by kernel_rfl) ?_
   show PW _ _ _ _ _
   refine PW.cd (!(Slot.eqB (xs.getD i default) (xs.getD i default))) (fun hz2 => ?_) (fun hz2 => ?_)
   ·try simp only [boolS, isB_true, isB_false] at hz2
    refine PW.sr [4] 0 trivial ?_
    refine PW.ret ?_
    refine retQ_ret (d := D.v (.bool false)) (ps := []) (by kernel_rfl) trivial ?_
    exfalso
    rw [Slot.eqB_self] at hz2
    simp at hz2
   ·try simp only [boolS, isB_true, isB_false] at hz2
    refine PW.skip ?_
    show PW _ _ _ _ _
    refine PW.rr [0, 1, 5] 0 trivial ?_
    refine BackR.of (s1 := { tab := [⟨0, [], sl' 3 Slot.d xs⟩, ⟨1, [], sl' 3 Slot.d xs⟩, ⟨5, [], I (IntKind.i64.wrap ((i : Int) + 1))⟩], mem := [] }) (i + 1) (by kernel_rfl) (by kernel_rfl) ?_ ?_ ?_
    ·rw [wrap1 i (by omega)]
     exact Rem.refl _
    ·((repeat' (first | intro _ | refine And.intro ?_ ?_)) <;> first | omega | trivial | assumption | (rename_i hgd; simp only [Bool.and_eq_true, decide_eq_true_eq, and_true] at hgd; omega))
    ·((repeat' (first | intro _ | refine And.intro ?_ ?_)) <;> first | omega | trivial | assumption | (rename_i hgd; simp only [Bool.and_eq_true, decide_eq_true_eq, and_true] at hgd; omega))
  ·try simp only [boolS, isB_true, isB_false] at hz1
   refine PW.exit ?_
   show PW _ _ _ _ _
   refine PW.sr [4] 0 trivial ?_
   refine PW.ret ?_
   refine retQ_ret (d := D.v (.bool true)) (ps := []) (by kernel_rfl) trivial ?_
   rfl
def sample9C : Config := ⟨[⟨4, 1⟩, ⟨4, 1⟩], [⟨0, 1, 2, 3, 0, 1⟩], 20000, 30, 50, 15, 100, 100000, 2, 0, 4, 4, 4⟩
theorem drumlinelaw9_sample_pc  : PC Tryz.prog [] 18 [] (· = D.r (Config.d sample9C)) := by
 refine PC.of (N := 11) Tryz.func18 rfl rfl (Nat.le_of_ble_eq_true rfl) ?_
 refine PW.sr [0] 1 trivial ?_
 refine PW.sr [0, 1] 2 trivial ?_
 refine PW.sg ?_
 refine PL.rw 7 [0, 5, 9] 4 trivial ?_
 refine PL.sl [0, 5, 9] 4 ?_
 refine PL.eq (s' := { tab := [⟨0, [], D.p 0 0 0 0⟩, ⟨5, [], D.h 2 2⟩, ⟨9, [], D.h 3 1⟩], mem := [Obj.var 25 [D.v (.slice none 0 0), D.v (.slice none 0 0), I 0, I 0, I 0, I 0, I 0, I 0, I 0, I 0, I 0, I 0, I 0], Obj.var 46 [I 4, I 1], Obj.row 46 2 2 (fun k => ([[I 4, I 1], [I 4, I 1]][k]?).getD []), Obj.row 59 6 1 (fun k => ([[I 0, I 1, I 2, I 3, I 0, I 1]][k]?).getD [])] }) (by kernel_rfl) ?_
 refine PL.frzR 2 (t := 46) (z := 2) (m := 2) (f := (fun k => ([[I 4, I 1], [I 4, I 1]][k]?).getD [])) (f' := (fun i => Part.d (([(⟨4, 1⟩ : Part), (⟨4, 1⟩ : Part)]).getD i default))) (s' := { tab := [⟨0, [], D.p 0 0 0 0⟩, ⟨5, [], sl' 2 Part.d ([(⟨4, 1⟩ : Part), (⟨4, 1⟩ : Part)])⟩, ⟨9, [], D.h 3 1⟩], mem := [Obj.var 25 [D.v (.slice none 0 0), D.v (.slice none 0 0), I 0, I 0, I 0, I 0, I 0, I 0, I 0, I 0, I 0, I 0, I 0], Obj.var 46 [I 4, I 1], Obj.dead, Obj.row 59 6 1 (fun k => ([[I 0, I 1, I 2, I 3, I 0, I 1]][k]?).getD [])] }) rfl (fun j hj => match j, hj with | 0, _ => rfl | 1, _ => rfl | j + 2, hj => absurd hj (by omega)) (Nat.zero_le _) (by kernel_rfl) ?_
 refine PL.eq (s' := { tab := [⟨0, [], D.p 0 0 0 0⟩, ⟨5, [], sl' 2 Part.d ([(⟨4, 1⟩ : Part), (⟨4, 1⟩ : Part)])⟩, ⟨9, [], D.h 3 1⟩], mem := [Obj.var 25 [D.v (.slice none 0 0), D.v (.slice none 0 0), I 0, I 0, I 0, I 0, I 0, I 0, I 0, I 0, I 0, I 0, I 0], Obj.var 46 [I 4, I 1], Obj.dead, Obj.row 59 6 1 (fun k => ([[I 0, I 1, I 2, I 3, I 0, I 1]][k]?).getD [])] }) (by kernel_rfl) ?_
 refine PL.frzR 3 (t := 59) (z := 6) (m := 1) (f := (fun k => ([[I 0, I 1, I 2, I 3, I 0, I 1]][k]?).getD [])) (f' := (fun i => Link.d (([(⟨0, 1, 2, 3, 0, 1⟩ : Link)]).getD i default))) (s' := { tab := [⟨0, [], D.p 0 0 0 0⟩, ⟨5, [], sl' 2 Part.d ([(⟨4, 1⟩ : Part), (⟨4, 1⟩ : Part)])⟩, ⟨9, [], sl' 6 Link.d ([(⟨0, 1, 2, 3, 0, 1⟩ : Link)])⟩], mem := [Obj.var 25 [D.v (.slice none 0 0), D.v (.slice none 0 0), I 0, I 0, I 0, I 0, I 0, I 0, I 0, I 0, I 0, I 0, I 0], Obj.var 46 [I 4, I 1], Obj.dead, Obj.dead] }) rfl (fun j hj => match j, hj with | 0, _ => rfl | j + 1, hj => absurd hj (by omega)) (Nat.zero_le _) (by kernel_rfl) ?_
 refine PL.build (cs := [sl' 2 Part.d ([(⟨4, 1⟩ : Part), (⟨4, 1⟩ : Part)]), sl' 6 Link.d ([(⟨0, 1, 2, 3, 0, 1⟩ : Link)]), I 20000, I 30, I 50, I 15, I 100, I 100000, I 2, I 0, I 4, I 4, I 4]) rfl (by kernel_rfl) (by kernel_rfl) (by kernel_rfl) ?_
 refine PL.rw 1 [0] 4 trivial ?_
 refine PL.nl ?_
 refine PW.ret ?_
 refine retQ_ret (d := D.r [sl' 2 Part.d ([(⟨4, 1⟩ : Part), (⟨4, 1⟩ : Part)]), sl' 6 Link.d ([(⟨0, 1, 2, 3, 0, 1⟩ : Link)]), I 20000, I 30, I 50, I 15, I 100, I 100000, I 2, I 0, I 4, I 4, I 4]) (ps := []) (by kernel_rfl) trivial ?_
 rfl
theorem sb1 : (slotsOf sample9C 0).length = 10 := by kernel_rfl
theorem sb2 : findI sample9C 0 2 0 = 4 := by kernel_rfl
theorem sb3 : ((slotsOf sample9C 0).getD 4 default).at_ = 230 := by kernel_rfl
theorem sb4 : whichI sample9C 0 235 = 4 := by kernel_rfl
theorem drumlinelaw9_alive_pc (e : Nat → Addr) (hA : Apart e) : PC Tryz.prog (errG3 e) 8 [] (· = D.v (.bool true)) := by
 refine PC.of (N := 24) Tryz.func8 rfl rfl (Nat.le_of_ble_eq_true rfl) ?_
 have hsl := sb1
 refine PW.sr [] 0 trivial ?_
 refine PW.sg ?_
 refine PL.gc (G := (errG3 e)) (A := []) (fun _ => PC.more (drumlinelaw9_sample_pc)) ?_
 refine PL.gc (A := []) (fun _ => (table_Slots_pc0 e hA sample9C 0 (by decide) (by decide)).list) ?_
 refine PL.rw 1 [1] 0 trivial ?_
 refine PL.nl ?_
 refine PW.sg ?_
 refine PL.rw 4 [1, 7] 0 trivial ?_
 refine PL.gc (G := (errG3 e)) (A := [(7, true)]) (fun _ => PC.more (drumlinelaw9_sample_pc)) ?_
 refine PL.gc (d := I 4) (A := [(7, true)]) (fun _ => (table_Find_pc e hA sample9C 0 2 0 (by decide) (by decide)).eq (by rw [sb2])) ?_
 refine PL.rw 10 [19] 0 (p := ((((((slotsOf sample9C 0).length : Int) == (10 : Int)) && true) = true ∧ True → 0 ≤ (4 : Int) ∧ (4 : Int) < ((slotsOf sample9C 0).length : Int)))) (by ((repeat' (first | intro _ | refine And.intro ?_ ?_)) <;> first | omega | trivial | assumption | (rename_i hgd; simp only [Bool.and_eq_true, decide_eq_true_eq, and_true] at hgd; omega))) ?_
 refine PL.gc (G := (errG3 e)) (A := [(19, true)]) (fun _ => PC.more (drumlinelaw9_sample_pc)) ?_
 refine PL.gc (d := I 4) (A := [(19, true)]) (fun _ => (table_Which_pc e hA sample9C 0 235 (by decide) (by decide)).eq (by rw [sb4])) ?_
 refine PL.rw 3 [0] 0 trivial ?_
 refine PL.nl ?_
 refine PW.ret ?_
 refine retQ_ret (d := D.v (.bool ((((((slotsOf sample9C 0).length : Int) == (10 : Int)) && true) && ((((slotsOf sample9C 0).getD 4 default).at_) == (230 : Int))) && true))) (ps := []) (by kernel_rfl) trivial ?_
 rw [sb1, sb3]
 rfl
theorem drumlinelaw9_TableTells_pc (e : Nat → Addr) (hA : Apart e) (c : Config) (part kd nd t : Int) : PC Tryz.prog (errG3 e) 3 [D.r (Config.d c), I part, I kd, I nd, I t] (· = D.v (.bool true)) := by
 refine PC.of (N := 57) Tryz.func3 rfl rfl (Nat.le_of_ble_eq_true rfl) ?_
 refine PW.sr [1, 2, 3, 4, 5] 1 trivial ?_
 refine PW.seq ?_
 refine PW.sg ?_
 refine PL.gc (A := []) (fun _ => drumlinelaw9_alive_pc e hA) ?_
 refine PL.rw 13 [1, 2, 3, 4, 5, 24] 1 trivial ?_
 refine PL.nl ?_
 refine PW.cd ((false || (decide ((c.parts.length : Int) > (20 : Int)))) || (decide ((c.links.length : Int) > (30 : Int)))) (fun hz0 => ?_) (fun hz0 => ?_)
 ·try simp only [boolS, isB_true, isB_false, Bool.false_or, false_or, Classical.not_not] at hz0
  refine PW.sg ?_
  refine PL.gc (A := []) (fun _ => drumlinelaw9_alive_pc e hA) ?_
  refine PL.rw 1 [10] 1 trivial ?_
  refine PL.nl ?_
  refine PW.ret ?_
  refine retQ_ret (d := D.v (.bool true)) (ps := []) (by kernel_rfl) trivial ?_
  rfl
 ·try simp only [boolS, isB_true, isB_false, Bool.false_or, false_or, Classical.not_not] at hz0
  refine PW.skip ?_
  show PW _ _ _ _ _
  refine PW.seq ?_
  refine PW.open [] (by kernel_rfl) ?_
  refine PO.tk [0, 1, 3, 4] 32 [1, 2, 3, 4, 5, 26, 27, 29, 30] 28 trivial (fun _ _ h => h) ?_
  refine PO.one (n := 27) 2 (by kernel_rfl) ?_
  refine PO1.gc _ (A := []) (fun _ => (table_Slots_pc0 e hA c part (by omega) (by omega)).list) ?_ rfl
  refine PO.one (n := 26) 5 (by kernel_rfl) ?_
  refine PO1.gc _ (G := (errG3 e)) (A := []) (fun _ => PC.more ((drumlineref5_Slots_pc0 c part (by omega) (by omega)).list)) ?_ rfl
  refine PO.one (n := 25) 6 (by kernel_rfl) ?_
  refine PO1.gc _ (G := (errG3 e)) (A := []) (fun _ => PC.more (drumlinelaw9_same_pc (slotsOf c part) (by have := slotsOf_len c part; omega))) ?_ rfl
  refine PO.tk [7, 8, 9, 10, 11, 13, 14, 15, 16] 25 [1, 4, 5, 33, 34, 35, 36, 37, 39, 40, 41, 42] 16 trivial (fun _ _ h => h) ?_
  refine PO.one (n := 15) 12 (by kernel_rfl) ?_
  refine PO1.gc _ (A := [(33, true)]) (fun _ => table_Find_pc e hA c part kd nd (by omega) (by omega)) ?_ rfl
  refine PO.one (n := 14) 17 (by kernel_rfl) ?_
  refine PO1.gc _ (G := (errG3 e)) (A := [(33, true)]) (fun _ => PC.more (drumlineref5_Find_pc c part kd nd (by omega) (by omega))) ?_ rfl
  refine PO.tk [18, 19, 20, 21, 22, 23, 25, 26, 27] 14 [46, 47, 48, 49, 51, 52, 53] 5 trivial (fun _ _ h => h) ?_
  refine PO.one (n := 4) 24 (by kernel_rfl) ?_
  refine PO1.gc _ (A := [(46, true)]) (fun _ => table_Which_pc e hA c part t (by omega) (by omega)) ?_ rfl
  refine PO.one (n := 3) 28 (by kernel_rfl) ?_
  refine PO1.gc _ (G := (errG3 e)) (A := [(46, true)]) (fun _ => PC.more (drumlineref5_Which_pc c part t (by omega) (by omega))) ?_ rfl
  refine PO.tk [29, 30, 31] 3 [10] 0 trivial (fun _ _ h => h) ?_
  refine PO.done (by kernel_rfl) ?_
  show PW _ _ _ _ _
  refine PW.ret ?_
  refine retQ_ret (d := D.v (.bool ((true && ((findI c part kd nd) == (findI c part kd nd))) && ((whichI c part t) == (whichI c part t))))) (ps := []) (by kernel_rfl) trivial ?_
  simp
theorem drumlinelaw9_TableMade_pc (e : Nat → Addr) (hA : Apart e) (n x p kd nd t : Int) (c : Config) (hM : PC Tryz.prog (errG3 e) 16 [I n] (· = D.r (Config.d c))) (hp0 : c.parts.length < 1000000) (hl0 : c.links.length < 1000000) (hpp : (IntKind.i64.wrap x).tmod (c.parts.length : Int) = p) (hp1 : 1 ≤ c.parts.length) : PC Tryz.prog (errG3 e) 4 [I n, D.v (.int .u16 x), D.v (.int .u16 kd), D.v (.int .u16 nd), D.v (.int .u16 t)] (· = D.v (.bool true)) := by
 refine PC.of (N := 64) Tryz.func4 rfl rfl (Nat.le_of_ble_eq_true rfl) ?_
 refine PW.sr [0, 1, 2, 3, 4] 0 trivial ?_
 refine PW.seq ?_
 refine PW.sg ?_
 refine PL.gc (A := []) (fun _ => drumlinelaw9_alive_pc e hA) ?_
 refine PL.rw 1 [0, 1, 2, 3, 4, 14] 0 trivial ?_
 refine PL.nl ?_
 refine PW.cd false (fun hz0 => by cases hz0) (fun hz0 => ?_)
 refine PW.skip ?_
 show PW _ _ _ _ _
 refine PW.sg ?_
 refine PL.rw 1 [1, 2, 3, 4, 15] 0 trivial ?_
 refine PL.gc (A := []) (fun _ => hM) ?_
 refine PL.rw 2 [1, 2, 3, 4, 11] 1 trivial ?_
 refine PL.nl ?_
 refine PW.sg ?_
 refine PL.rw 5 [2, 3, 4, 11, 18, 21] 1 trivial ?_
 refine PL.div (k := .i64) (A := []) (IntKind.i64.wrap x) (c.parts.length : Int) ((IntKind.i64.wrap x).tmod (c.parts.length : Int)) rfl (by first | exact .inl ⟨rfl, rfl⟩ | exact .inr ⟨rfl, rfl⟩) (by kernel_rfl) (by kernel_rfl) (by kernel_rfl) (by kernel_rfl) (by kernel_rfl) (fun _ => by omega) ?_
 refine PL.row 1 [2, 3, 4, 11, 12] 1 (s' := { tab := [⟨2, [], D.v (.int .u16 kd)⟩, ⟨3, [], D.v (.int .u16 nd)⟩, ⟨4, [], D.v (.int .u16 t)⟩, ⟨11, [], D.p 0 0 0 0⟩, ⟨12, [], I ((IntKind.i64.wrap x).tmod (c.parts.length : Int))⟩], mem := [Obj.var 25 (Config.d c)], gl := (errG3 e) }) (p := True) (by kernel_rfl) (by kernel_rfl) (by kernel_rfl) (by kernel_rfl) (by kernel_rfl) trivial ?_
 refine PL.eq (s' := { tab := [⟨2, [], D.v (.int .u16 kd)⟩, ⟨3, [], D.v (.int .u16 nd)⟩, ⟨4, [], D.v (.int .u16 t)⟩, ⟨11, [], D.p 0 0 0 0⟩, ⟨12, [], I p⟩], mem := [Obj.var 25 (Config.d c)], gl := (errG3 e) }) (by rw [hpp]) ?_
 refine PL.nl ?_
 refine PW.seq ?_
 refine PW.open [] (by kernel_rfl) ?_
 refine PO.tk [0, 1, 3, 4] 42 [2, 3, 4, 11, 12, 23, 24, 26, 27] 38 trivial (fun _ _ h => h) ?_
 refine PO.one (n := 37) 2 (by kernel_rfl) ?_
 refine PO1.gc _ (A := []) (fun _ => (table_Slots_pc0 e hA c p hp0 hl0).list) ?_ rfl
 refine PO.one (n := 36) 5 (by kernel_rfl) ?_
 refine PO1.gc _ (G := (errG3 e)) (A := []) (fun _ => PC.more ((drumlineref5_Slots_pc0 c p hp0 hl0).list)) ?_ rfl
 refine PO.one (n := 35) 6 (by kernel_rfl) ?_
 refine PO1.gc _ (G := (errG3 e)) (A := []) (fun _ => PC.more (drumlinelaw9_same_pc (slotsOf c p) (by have := slotsOf_len c p; omega))) ?_ rfl
 refine PO.tk [7, 8, 9, 10, 11, 12, 13, 14, 15, 17, 18, 19, 20, 21, 22, 23, 24] 35 [4, 11, 12, 30, 31, 32, 35, 38, 40, 41, 44, 47] 18 trivial (fun _ _ h => h) ?_
 refine PO.one (n := 17) 16 (by kernel_rfl) ?_
 refine PO1.gc _ (A := [(30, true)]) (fun _ => table_Find_pc e hA c p ((IntKind.i64.wrap kd).tmod 7) ((IntKind.i64.wrap nd).tmod 14) hp0 hl0) ?_ rfl
 refine PO.one (n := 16) 25 (by kernel_rfl) ?_
 refine PO1.gc _ (G := (errG3 e)) (A := [(30, true)]) (fun _ => PC.more (drumlineref5_Find_pc c p ((IntKind.i64.wrap kd).tmod 7) ((IntKind.i64.wrap nd).tmod 14) hp0 hl0)) ?_ rfl
 refine PO.tk [26, 27, 28, 29, 30, 31, 32, 34, 35, 36, 37] 16 [51, 52, 53, 55, 57, 58, 60] 5 trivial (fun _ _ h => h) ?_
 refine PO.one (n := 4) 33 (by kernel_rfl) ?_
 refine PO1.gc _ (A := [(51, true)]) (fun _ => table_Which_pc e hA c p (IntKind.i64.wrap t) hp0 hl0) ?_ rfl
 refine PO.one (n := 3) 38 (by kernel_rfl) ?_
 refine PO1.gc _ (G := (errG3 e)) (A := [(51, true)]) (fun _ => PC.more (drumlineref5_Which_pc c p (IntKind.i64.wrap t) hp0 hl0)) ?_ rfl
 refine PO.tk [39, 40, 41] 3 [10] 0 trivial (fun _ _ h => h) ?_
 refine PO.done (by kernel_rfl) ?_
 show PW _ _ _ _ _
 refine PW.ret ?_
 refine retQ_ret (d := D.v (.bool ((true && ((findI c p ((IntKind.i64.wrap kd).tmod 7) ((IntKind.i64.wrap nd).tmod 14)) == (findI c p ((IntKind.i64.wrap kd).tmod 7) ((IntKind.i64.wrap nd).tmod 14)))) && ((whichI c p (IntKind.i64.wrap t)) == (whichI c p (IntKind.i64.wrap t)))))) (ps := []) (by kernel_rfl) trivial ?_
 simp
end Go.Proofs.YtaoobnikeicceaaGreatDoor.Pl
