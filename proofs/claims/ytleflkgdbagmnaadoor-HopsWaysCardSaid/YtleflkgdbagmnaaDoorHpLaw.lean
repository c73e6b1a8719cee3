/- Chapter 6's laws: alive, HopsTells, HopsMade. -/
import Derived.Test.YtleflkgdbagmnaaDoorHpSeven
import Derived.Test.YtleflkgdbagmnaaDoorDpDiv
namespace Go.Proofs.YtleflkgdbagmnaaDoor.Pl
open Go.RowKit Go.Proofs.YtleflkgdbagmnaaDoor.Sm Go.Proofs.YtleflkgdbagmnaaDoor.Dp
set_option maxHeartbeats 4000000
set_option maxRecDepth 100000
set_option linter.unusedVariables false
set_option linter.unusedSimpArgs false
def rowC : Config := ⟨[⟨4, 1⟩, ⟨4, 1⟩, ⟨4, 1⟩], [⟨0, 1, 0, 1, 0, 1⟩, ⟨1, 2, 2, 3, 0, 1⟩], 0, 0, 0, 0, 0, 0, 0, 0, 0, 0, 0⟩
theorem wayN_len (ls : List Link) (xs : List Int) : ∀ k a, (wayN ls xs k a).length ≤ k
  | 0, _ => Nat.le_refl _
  | k + 1, a => by
    rw [wayN]
    split
    · have := wayN_len ls xs k (acrossI (ls.getD (nextI ls xs a).toNat default) a)
      simp only [List.length_cons]
      omega
    · exact Nat.zero_le _
theorem wayC_len (c : Config) (a b : Int) : (wayC c a b).length ≤ c.parts.length := by
  unfold wayC
  split
  · exact wayN_len _ _ _ _
  · exact Nat.zero_le _
theorem r1 : wayC rowC 0 2 = [0, 1] := by kernel_rfl
theorem r2 : widthC rowC = 2 := by kernel_rfl
theorem r3 : distI rowC 0 2 = 2 := by kernel_rfl
theorem r4 : nextC rowC 2 0 = 1 := by kernel_rfl
theorem drumlinelaw6_row_pc  : PC Tryd.prog [] 18 [] (· = D.r (Config.d rowC)) := by
 refine PC.of (N := 15) Tryd.func18 rfl rfl (Nat.le_of_ble_eq_true rfl) ?_
 refine PW.sr [0] 1 trivial ?_
 refine PW.sr [0, 1] 2 trivial ?_
 refine PW.sg ?_
 refine PL.rw 11 [0, 6, 13] 4 trivial ?_
 refine PL.sl [0, 6, 13] 4 ?_
 refine PL.eq (s' := { tab := [⟨0, [], D.p 0 0 0 0⟩, ⟨6, [], D.h 2 3⟩, ⟨13, [], D.h 3 2⟩], mem := [Obj.var 25 [D.v (.slice none 0 0), D.v (.slice none 0 0), I 0, I 0, I 0, I 0, I 0, I 0, I 0, I 0, I 0, I 0, I 0], Obj.var 48 [I 4, I 1], Obj.row 48 2 3 (fun k => ([[I 4, I 1], [I 4, I 1], [I 4, I 1]][k]?).getD []), Obj.row 37 6 2 (fun k => ([[I 0, I 1, I 0, I 1, I 0, I 1], [I 1, I 2, I 2, I 3, I 0, I 1]][k]?).getD [])] }) (by kernel_rfl) ?_
 refine PL.frzR 2 (t := 48) (z := 2) (m := 3) (f := (fun k => ([[I 4, I 1], [I 4, I 1], [I 4, I 1]][k]?).getD [])) (f' := (fun i => Part.d (([(⟨4, 1⟩ : Part), (⟨4, 1⟩ : Part), (⟨4, 1⟩ : Part)]).getD i default))) (s' := { tab := [⟨0, [], D.p 0 0 0 0⟩, ⟨6, [], sl' 2 Part.d ([(⟨4, 1⟩ : Part), (⟨4, 1⟩ : Part), (⟨4, 1⟩ : Part)])⟩, ⟨13, [], D.h 3 2⟩], mem := [Obj.var 25 [D.v (.slice none 0 0), D.v (.slice none 0 0), I 0, I 0, I 0, I 0, I 0, I 0, I 0, I 0, I 0, I 0, I 0], Obj.var 48 [I 4, I 1], Obj.dead, Obj.row 37 6 2 (fun k => ([[I 0, I 1, I 0, I 1, I 0, I 1], [I 1, I 2, I 2, I 3, I 0, I 1]][k]?).getD [])] }) rfl (fun j hj => match j, hj with | 0, _ => rfl | 1, _ => rfl | 2, _ => rfl | j + 3, hj => absurd hj (by omega)) (Nat.zero_le _) (by kernel_rfl) ?_
 refine PL.eq (s' := { tab := [⟨0, [], D.p 0 0 0 0⟩, ⟨6, [], sl' 2 Part.d ([(⟨4, 1⟩ : Part), (⟨4, 1⟩ : Part), (⟨4, 1⟩ : Part)])⟩, ⟨13, [], D.h 3 2⟩], mem := [Obj.var 25 [D.v (.slice none 0 0), D.v (.slice none 0 0), I 0, I 0, I 0, I 0, I 0, I 0, I 0, I 0, I 0, I 0, I 0], Obj.var 48 [I 4, I 1], Obj.dead, Obj.row 37 6 2 (fun k => ([[I 0, I 1, I 0, I 1, I 0, I 1], [I 1, I 2, I 2, I 3, I 0, I 1]][k]?).getD [])] }) (by kernel_rfl) ?_
 refine PL.frzR 3 (t := 37) (z := 6) (m := 2) (f := (fun k => ([[I 0, I 1, I 0, I 1, I 0, I 1], [I 1, I 2, I 2, I 3, I 0, I 1]][k]?).getD [])) (f' := (fun i => Link.d (([(⟨0, 1, 0, 1, 0, 1⟩ : Link), (⟨1, 2, 2, 3, 0, 1⟩ : Link)]).getD i default))) (s' := { tab := [⟨0, [], D.p 0 0 0 0⟩, ⟨6, [], sl' 2 Part.d ([(⟨4, 1⟩ : Part), (⟨4, 1⟩ : Part), (⟨4, 1⟩ : Part)])⟩, ⟨13, [], sl' 6 Link.d ([(⟨0, 1, 0, 1, 0, 1⟩ : Link), (⟨1, 2, 2, 3, 0, 1⟩ : Link)])⟩], mem := [Obj.var 25 [D.v (.slice none 0 0), D.v (.slice none 0 0), I 0, I 0, I 0, I 0, I 0, I 0, I 0, I 0, I 0, I 0, I 0], Obj.var 48 [I 4, I 1], Obj.dead, Obj.dead] }) rfl (fun j hj => match j, hj with | 0, _ => rfl | 1, _ => rfl | j + 2, hj => absurd hj (by omega)) (Nat.zero_le _) (by kernel_rfl) ?_
 refine PL.build (cs := [sl' 2 Part.d ([(⟨4, 1⟩ : Part), (⟨4, 1⟩ : Part), (⟨4, 1⟩ : Part)]), sl' 6 Link.d ([(⟨0, 1, 0, 1, 0, 1⟩ : Link), (⟨1, 2, 2, 3, 0, 1⟩ : Link)]), I 0, I 0, I 0, I 0, I 0, I 0, I 0, I 0, I 0, I 0, I 0]) rfl (by kernel_rfl) (by kernel_rfl) (by kernel_rfl) ?_
 refine PL.rw 1 [0] 4 trivial ?_
 refine PL.nl ?_
 refine PW.ret ?_
 refine retQ_ret (d := D.r [sl' 2 Part.d ([(⟨4, 1⟩ : Part), (⟨4, 1⟩ : Part), (⟨4, 1⟩ : Part)]), sl' 6 Link.d ([(⟨0, 1, 0, 1, 0, 1⟩ : Link), (⟨1, 2, 2, 3, 0, 1⟩ : Link)]), I 0, I 0, I 0, I 0, I 0, I 0, I 0, I 0, I 0, I 0, I 0]) (ps := []) (by kernel_rfl) trivial ?_
 rfl
theorem drumlinelaw6_alive_pc (e : Nat → Addr) (hA : Apart e)  : PC Tryd.prog (errG2 e) 7 [] (· = D.v (.bool true)) := by
 refine PC.of (N := 34) Tryd.func7 rfl rfl (Nat.le_of_ble_eq_true rfl) ?_
 refine PW.sr [] 0 trivial ?_
 refine PW.sg ?_
 refine PL.gc (G := (errG2 e)) (A := []) (fun _ => PC.more (drumlinelaw6_row_pc)) ?_
 refine PL.gc (A := []) (fun _ => hops_Way_pc e hA rowC 0 2 (by decide) (by decide)) ?_
 refine PL.rw 1 [1] 0 trivial ?_
 refine PL.nl ?_
 refine PW.sg ?_
 refine PL.rw 16 [19] 0 (p := (((((wayC rowC 0 2).length : Int) == (2 : Int)) = true ∧ True → 0 ≤ (0 : Int) ∧ (0 : Int) < ((wayC rowC 0 2).length : Int))) ∧ ((((((wayC rowC 0 2).length : Int) == (2 : Int)) && (((wayC rowC 0 2).getD 0 default) == (0 : Int))) = true ∧ True → 0 ≤ (1 : Int) ∧ (1 : Int) < ((wayC rowC 0 2).length : Int)))) (by ((repeat' (first | intro _ | refine And.intro ?_ ?_)) <;> first | omega | trivial | assumption | (rename_i hgd; simp only [Bool.and_eq_true, decide_eq_true_eq, beq_iff_eq, and_true] at hgd; omega))) ?_
 refine PL.gc (G := (errG2 e)) (A := [(19, true)]) (fun _ => PC.more (drumlinelaw6_row_pc)) ?_
 refine PL.gc (A := [(19, true)]) (fun _ => hops_Width_pc e hA rowC (by decide) (by decide)) ?_
 refine PL.rw 3 [24] 0 trivial ?_
 refine PL.gc (G := (errG2 e)) (A := [(24, true)]) (fun _ => PC.more (drumlinelaw6_row_pc)) ?_
 refine PL.gc (A := [(24, true)]) (fun _ => hops_Dist_pc e hA rowC 0 2 (by decide) (by decide)) ?_
 refine PL.rw 3 [29] 0 trivial ?_
 refine PL.gc (G := (errG2 e)) (A := [(29, true)]) (fun _ => PC.more (drumlinelaw6_row_pc)) ?_
 refine PL.gc (A := [(29, true)]) (fun _ => hops_Next_pc e hA rowC 2 0 (by decide) (by decide)) ?_
 refine PL.rw 3 [0] 0 trivial ?_
 refine PL.nl ?_
 refine PW.ret ?_
 refine retQ_ret (d := D.v (.bool ((((((((wayC rowC 0 2).length : Int) == (2 : Int)) && (((wayC rowC 0 2).getD 0 default) == (0 : Int))) && (((wayC rowC 0 2).getD 1 default) == (1 : Int))) && ((widthC rowC) == (2 : Int))) && ((distI rowC 0 2) == (2 : Int))) && ((nextC rowC 2 0) == (1 : Int))))) (ps := []) (by kernel_rfl) trivial ?_
 rw [r1, r2, r3, r4]
 rfl
theorem drumlinelaw6_HopsTells_pc (e : Nat → Addr) (hA : Apart e) (c : Config) (a b : Int) : PC Tryd.prog (errG2 e) 3 [D.r (Config.d c), I a, I b] (· = D.v (.bool true)) := by
 refine PC.of (N := 60) Tryd.func3 rfl rfl (Nat.le_of_ble_eq_true rfl) ?_
 refine PW.sr [1, 2, 3] 1 trivial ?_
 refine PW.seq ?_
 refine PW.sg ?_
 refine PL.gc (A := []) (fun _ => drumlinelaw6_alive_pc e hA) ?_
 refine PL.rw 13 [1, 2, 3, 20] 1 trivial ?_
 refine PL.nl ?_
 refine PW.cd ((false || (decide ((c.parts.length : Int) > (20 : Int)))) || (decide ((c.links.length : Int) > (30 : Int)))) (fun hz0 => ?_) (fun hz0 => ?_)
 ·try simp only [boolS, isB_true, isB_false, Bool.false_or, false_or, Classical.not_not] at hz0
  refine PW.sg ?_
  refine PL.gc (A := []) (fun _ => drumlinelaw6_alive_pc e hA) ?_
  refine PL.rw 1 [6] 1 trivial ?_
  refine PL.nl ?_
  refine PW.ret ?_
  refine retQ_ret (d := D.v (.bool true)) (ps := []) (by kernel_rfl) trivial ?_
  rfl
 ·try simp only [boolS, isB_true, isB_false, Bool.false_or, false_or, Classical.not_not] at hz0
  refine PW.skip ?_
  show PW _ _ _ _ _
  refine PW.seq ?_
  refine PW.open [] (by kernel_rfl) ?_
  refine PO.tk [0, 1, 2, 4, 5, 6] 39 [1, 2, 3, 22, 23, 24, 26, 27, 28] 33 trivial (fun _ _ h => h) ?_
  refine PO.one (n := 32) 3 (by kernel_rfl) ?_
  refine PO1.gc _ (A := []) (fun _ => hops_Dist_pc e hA c a b (by omega) (by omega)) ?_ rfl
  refine PO.one (n := 31) 7 (by kernel_rfl) ?_
  refine PO1.gc _ (G := (errG2 e)) (A := []) (fun _ => PC.more (drumlineref5_Dist_pc c a b (by omega) (by omega))) ?_ rfl
  refine PO.tk [8, 9, 10, 11, 12, 14, 15, 16] 31 [1, 2, 3, 31, 32, 33, 34, 36, 37, 38] 23 trivial (fun _ _ h => h) ?_
  refine PO.one (n := 22) 13 (by kernel_rfl) ?_
  refine PO1.gc _ (A := [(31, true)]) (fun _ => hops_Next_pc e hA c a b (by omega) (by omega)) ?_ rfl
  refine PO.one (n := 21) 17 (by kernel_rfl) ?_
  refine PO1.gc _ (G := (errG2 e)) (A := [(31, true)]) (fun _ => PC.more (drumlineref5_Next_pc c a b (by omega) (by omega))) ?_ rfl
  refine PO.tk [18, 19, 20, 21, 22, 23, 25, 26, 27] 21 [3, 42, 43, 44, 45, 47, 48, 49] 12 trivial (fun _ _ h => h) ?_
  refine PO.one (n := 11) 24 (by kernel_rfl) ?_
  refine PO1.gc _ (A := [(42, true)]) (fun _ => hops_Way_pc e hA c a b (by omega) (by omega)) ?_ rfl
  refine PO.one (n := 10) 28 (by kernel_rfl) ?_
  refine PO1.gc _ (G := (errG2 e)) (A := [(42, true)]) (fun _ => PC.more (drumlineref5_Way_pc c a b (by omega) (by omega))) ?_ rfl
  refine PO.one (n := 9) 29 (by kernel_rfl) ?_
  refine PO1.gc _ (G := (errG2 e)) (A := [(42, true)]) (fun _ => PC.more (drumlineref1_SameInts_pc (wayC c a b) (wayC c a b) (by have := wayC_len c a b; omega) (by have := wayC_len c a b; omega))) ?_ rfl
  refine PO.tk [30, 31, 32, 34] 9 [53, 54, 56] 5 trivial (fun _ _ h => h) ?_
  refine PO.one (n := 4) 33 (by kernel_rfl) ?_
  refine PO1.gc _ (A := [(53, true)]) (fun _ => hops_Width_pc e hA c (by omega) (by omega)) ?_ rfl
  refine PO.one (n := 3) 35 (by kernel_rfl) ?_
  refine PO1.gc _ (G := (errG2 e)) (A := [(53, true)]) (fun _ => PC.more (drumlineref5_Width_pc c (by omega) (by omega))) ?_ rfl
  refine PO.tk [36, 37, 38] 3 [6] 0 trivial (fun _ _ h => h) ?_
  refine PO.done (by kernel_rfl) ?_
  show PW _ _ _ _ _
  refine PW.ret ?_
  refine retQ_ret (d := D.v (.bool (((((distI c a b) == (distI c a b)) && ((nextC c a b) == (nextC c a b))) && (decide ((wayC c a b) = (wayC c a b)))) && ((widthC c) == (widthC c))))) (ps := []) (by kernel_rfl) trivial ?_
  simp
theorem drumlinelaw6_HopsMade_pc (e : Nat → Addr) (hA : Apart e) (n a b : Int) (c : Config) (hM : PC Tryd.prog (errG2 e) 17 [I n] (· = D.r (Config.d c))) (hp1 : 1 ≤ c.parts.length ∧ c.parts.length ≤ 4) (hl0 : c.links.length < 1000000) (x y : Int) (hx : (IntKind.i64.wrap a).tmod (c.parts.length : Int) = x) (hy : (IntKind.i64.wrap b).tmod (c.parts.length : Int) = y) : PC Tryd.prog (errG2 e) 4 [I n, D.v (.int .u8 a), D.v (.int .u8 b)] (· = D.v (.bool true)) := by
 refine PC.of (N := 64) Tryd.func4 rfl rfl (Nat.le_of_ble_eq_true rfl) ?_
 refine PW.sr [0, 1, 2] 0 trivial ?_
 refine PW.seq ?_
 refine PW.sg ?_
 refine PL.gc (A := []) (fun _ => drumlinelaw6_alive_pc e hA) ?_
 refine PL.rw 1 [0, 1, 2, 11] 0 trivial ?_
 refine PL.nl ?_
 refine PW.cd false (fun hz0 => by cases hz0) (fun hz0 => ?_)
 refine PW.skip ?_
 show PW _ _ _ _ _
 refine PW.sg ?_
 refine PL.rw 1 [1, 2, 12] 0 trivial ?_
 refine PL.gc (A := []) (fun _ => hM) ?_
 refine PL.rw 2 [1, 2, 7] 1 trivial ?_
 refine PL.nl ?_
 refine PW.seq ?_
 refine PW.open [] (by kernel_rfl) ?_
 refine PO.tk [0, 1, 2, 3, 4, 6, 7, 8, 9, 10] 14 [7, 15, 18, 21, 24] 4 trivial (fun _ _ h => h) ?_
 refine PO.next (n := 3) [5, 11] (by kernel_rfl) (by simp) ?_
 intro i hi
 simp only [List.mem_cons, List.not_mem_nil, or_false] at hi
 rcases hi with rfl | rfl
 ·skip
  refine PO1.div (k := .i64) (A := []) (IntKind.i64.wrap a) (c.parts.length : Int) ((IntKind.i64.wrap a).tmod (c.parts.length : Int)) rfl rfl (by first | exact .inl ⟨rfl, rfl⟩ | exact .inr ⟨rfl, rfl⟩) (by kernel_rfl) (by kernel_rfl) (by kernel_rfl) (by kernel_rfl) (by kernel_rfl) (fun _ => by omega) ?_
  refine PO.tk [12] 3 [7, 8, 21, 24] 2 trivial (fun _ _ h => h) ?_
  refine PO.one (n := 1) 11 (by kernel_rfl) ?_
  refine PO1.div (k := .i64) (A := []) (IntKind.i64.wrap b) (c.parts.length : Int) ((IntKind.i64.wrap b).tmod (c.parts.length : Int)) rfl rfl (by first | exact .inl ⟨rfl, rfl⟩ | exact .inr ⟨rfl, rfl⟩) (by kernel_rfl) (by kernel_rfl) (by kernel_rfl) (by kernel_rfl) (by kernel_rfl) (fun _ => by omega) ?_
  refine PO.tk [13] 1 [7, 8, 9] 0 trivial (fun _ _ h => h) ?_
  refine PO.eq (s' := { tab := [⟨7, [], D.p 0 0 0 0⟩, ⟨8, [], I ((IntKind.i64.wrap a).tmod (c.parts.length : Int))⟩, ⟨9, [], I ((IntKind.i64.wrap b).tmod (c.parts.length : Int))⟩], mem := [Obj.var 25 (Config.d c)], gl := (errG2 e) }) (by kernel_rfl) ?_
  refine PO.eq (s' := { tab := [⟨7, [], D.p 0 0 0 0⟩, ⟨8, [], I x⟩, ⟨9, [], I y⟩], mem := [Obj.var 25 (Config.d c)], gl := (errG2 e) }) (by rw [hx, hy]) ?_
  refine PO.done (by kernel_rfl) ?_
  show PW _ _ _ _ _
  refine PW.seq ?_
  refine PW.open [] (by kernel_rfl) ?_
  refine PO.tk [0, 1, 2, 4, 5, 6] 39 [7, 8, 9, 26, 27, 28, 30, 31, 32] 33 trivial (fun _ _ h => h) ?_
  refine PO.one (n := 32) 3 (by kernel_rfl) ?_
  refine PO1.gc _ (A := []) (fun _ => hops_Dist_pc e hA c x y (by omega) (by omega)) ?_ rfl
  refine PO.one (n := 31) 7 (by kernel_rfl) ?_
  refine PO1.gc _ (G := (errG2 e)) (A := []) (fun _ => PC.more (drumlineref5_Dist_pc c x y (by omega) (by omega))) ?_ rfl
  refine PO.tk [8, 9, 10, 11, 12, 14, 15, 16] 31 [7, 8, 9, 35, 36, 37, 38, 40, 41, 42] 23 trivial (fun _ _ h => h) ?_
  refine PO.one (n := 22) 13 (by kernel_rfl) ?_
  refine PO1.gc _ (A := [(35, true)]) (fun _ => hops_Next_pc e hA c x y (by omega) (by omega)) ?_ rfl
  refine PO.one (n := 21) 17 (by kernel_rfl) ?_
  refine PO1.gc _ (G := (errG2 e)) (A := [(35, true)]) (fun _ => PC.more (drumlineref5_Next_pc c x y (by omega) (by omega))) ?_ rfl
  refine PO.tk [18, 19, 20, 21, 22, 23, 25, 26, 27] 21 [7, 46, 47, 48, 49, 51, 52, 53] 12 trivial (fun _ _ h => h) ?_
  refine PO.one (n := 11) 24 (by kernel_rfl) ?_
  refine PO1.gc _ (A := [(46, true)]) (fun _ => hops_Way_pc e hA c x y (by omega) (by omega)) ?_ rfl
  refine PO.one (n := 10) 28 (by kernel_rfl) ?_
  refine PO1.gc _ (G := (errG2 e)) (A := [(46, true)]) (fun _ => PC.more (drumlineref5_Way_pc c x y (by omega) (by omega))) ?_ rfl
  refine PO.one (n := 9) 29 (by kernel_rfl) ?_
  refine PO1.gc _ (G := (errG2 e)) (A := [(46, true)]) (fun _ => PC.more (drumlineref1_SameInts_pc (wayC c x y) (wayC c x y) (by have := wayC_len c x y; omega) (by have := wayC_len c x y; omega))) ?_ rfl
  refine PO.tk [30, 31, 32, 34] 9 [57, 58, 60] 5 trivial (fun _ _ h => h) ?_
  refine PO.one (n := 4) 33 (by kernel_rfl) ?_
  refine PO1.gc _ (A := [(57, true)]) (fun _ => hops_Width_pc e hA c (by omega) (by omega)) ?_ rfl
  refine PO.one (n := 3) 35 (by kernel_rfl) ?_
  refine PO1.gc _ (G := (errG2 e)) (A := [(57, true)]) (fun _ => PC.more (drumlineref5_Width_pc c (by omega) (by omega))) ?_ rfl
  refine PO.tk [36, 37, 38] 3 [6] 0 trivial (fun _ _ h => h) ?_
  refine PO.done (by kernel_rfl) ?_
  show PW _ _ _ _ _
  refine PW.ret ?_
  refine retQ_ret (d := D.v (.bool (((((distI c x y) == (distI c x y)) && ((nextC c x y) == (nextC c x y))) && (decide ((wayC c x y) = (wayC c x y)))) && ((widthC c) == (widthC c))))) (ps := []) (by kernel_rfl) trivial ?_
  simp
 ·skip
  refine PO1.div (k := .i64) (A := []) (IntKind.i64.wrap b) (c.parts.length : Int) ((IntKind.i64.wrap b).tmod (c.parts.length : Int)) rfl rfl (by first | exact .inl ⟨rfl, rfl⟩ | exact .inr ⟨rfl, rfl⟩) (by kernel_rfl) (by kernel_rfl) (by kernel_rfl) (by kernel_rfl) (by kernel_rfl) (fun _ => by omega) ?_
  refine PO.one (n := 2) 5 (by kernel_rfl) ?_
  refine PO1.div (k := .i64) (A := []) (IntKind.i64.wrap a) (c.parts.length : Int) ((IntKind.i64.wrap a).tmod (c.parts.length : Int)) rfl rfl (by first | exact .inl ⟨rfl, rfl⟩ | exact .inr ⟨rfl, rfl⟩) (by kernel_rfl) (by kernel_rfl) (by kernel_rfl) (by kernel_rfl) (by kernel_rfl) (fun _ => by omega) ?_
  refine PO.tk [12, 13] 2 [7, 8, 9] 0 trivial (fun _ _ h => h) ?_
  refine PO.eq (s' := { tab := [⟨7, [], D.p 0 0 0 0⟩, ⟨8, [], I ((IntKind.i64.wrap a).tmod (c.parts.length : Int))⟩, ⟨9, [], I ((IntKind.i64.wrap b).tmod (c.parts.length : Int))⟩], mem := [Obj.var 25 (Config.d c)], gl := (errG2 e) }) (by kernel_rfl) ?_
  refine PO.eq (s' := { tab := [⟨7, [], D.p 0 0 0 0⟩, ⟨8, [], I x⟩, ⟨9, [], I y⟩], mem := [Obj.var 25 (Config.d c)], gl := (errG2 e) }) (by rw [hx, hy]) ?_
  refine PO.done (by kernel_rfl) ?_
  show PW _ _ _ _ _
  refine PW.seq ?_
  refine PW.open [] (by kernel_rfl) ?_
  refine PO.tk [0, 1, 2, 4, 5, 6] 39 [7, 8, 9, 26, 27, 28, 30, 31, 32] 33 trivial (fun _ _ h => h) ?_
  refine PO.one (n := 32) 3 (by kernel_rfl) ?_
  refine PO1.gc _ (A := []) (fun _ => hops_Dist_pc e hA c x y (by omega) (by omega)) ?_ rfl
  refine PO.one (n := 31) 7 (by kernel_rfl) ?_
  refine PO1.gc _ (G := (errG2 e)) (A := []) (fun _ => PC.more (drumlineref5_Dist_pc c x y (by omega) (by omega))) ?_ rfl
  refine PO.tk [8, 9, 10, 11, 12, 14, 15, 16] 31 [7, 8, 9, 35, 36, 37, 38, 40, 41, 42] 23 trivial (fun _ _ h => h) ?_
  refine PO.one (n := 22) 13 (by kernel_rfl) ?_
  refine PO1.gc _ (A := [(35, true)]) (fun _ => hops_Next_pc e hA c x y (by omega) (by omega)) ?_ rfl
  refine PO.one (n := 21) 17 (by kernel_rfl) ?_
  refine PO1.gc _ (G := (errG2 e)) (A := [(35, true)]) (fun _ => PC.more (drumlineref5_Next_pc c x y (by omega) (by omega))) ?_ rfl
  refine PO.tk [18, 19, 20, 21, 22, 23, 25, 26, 27] 21 [7, 46, 47, 48, 49, 51, 52, 53] 12 trivial (fun _ _ h => h) ?_
  refine PO.one (n := 11) 24 (by kernel_rfl) ?_
  refine PO1.gc _ (A := [(46, true)]) (fun _ => hops_Way_pc e hA c x y (by omega) (by omega)) ?_ rfl
  refine PO.one (n := 10) 28 (by kernel_rfl) ?_
  refine PO1.gc _ (G := (errG2 e)) (A := [(46, true)]) (fun _ => PC.more (drumlineref5_Way_pc c x y (by omega) (by omega))) ?_ rfl
  refine PO.one (n := 9) 29 (by kernel_rfl) ?_
  refine PO1.gc _ (G := (errG2 e)) (A := [(46, true)]) (fun _ => PC.more (drumlineref1_SameInts_pc (wayC c x y) (wayC c x y) (by have := wayC_len c x y; omega) (by have := wayC_len c x y; omega))) ?_ rfl
  refine PO.tk [30, 31, 32, 34] 9 [57, 58, 60] 5 trivial (fun _ _ h => h) ?_
  refine PO.one (n := 4) 33 (by kernel_rfl) ?_
  refine PO1.gc _ (A := [(57, true)]) (fun _ => hops_Width_pc e hA c (by omega) (by omega)) ?_ rfl
  refine PO.one (n := 3) 35 (by kernel_rfl) ?_
  refine PO1.gc _ (G := (errG2 e)) (A := [(57, true)]) (fun _ => PC.more (drumlineref5_Width_pc c (by omega) (by omega))) ?_ rfl
  refine PO.tk [36, 37, 38] 3 [6] 0 trivial (fun _ _ h => h) ?_
  refine PO.done (by kernel_rfl) ?_
  show PW _ _ _ _ _
  refine PW.ret ?_
  refine retQ_ret (d := D.v (.bool (((((distI c x y) == (distI c x y)) && ((nextC c x y) == (nextC c x y))) && (decide ((wayC c x y) = (wayC c x y)))) && ((widthC c) == (widthC c))))) (ps := []) (by kernel_rfl) trivial ?_
  simp
end Go.Proofs.YtleflkgdbagmnaaDoor.Pl
