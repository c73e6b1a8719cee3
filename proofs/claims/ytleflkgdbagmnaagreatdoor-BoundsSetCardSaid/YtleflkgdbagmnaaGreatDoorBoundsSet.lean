/- For every number n, every two numbers 0 to 255, every two numbers and every number part the law BoundsSet returns true: of the network that Made makes of n, of which those two numbers were set otherwise, whether it fits, and what its bounds come to, is what the document's own answers say. The packages' error variables are as the program's text lays them; no condition beyond the statement's own. -/
import Derived.Test.YtleflkgdbagmnaaGreatDoorRows
import Derived.WalkKit
import Derived.ProofKit
import Derived.OpenShut
import Derived.Test.YtleflkgdbagmnaaGreatDoorBdSet
import Derived.Test.YtleflkgdbagmnaaGreatDoorDpPair
import Derived.ShutString
import Derived.ChangeOld
import Derived.Below
import Derived.Test.YtleflkgdbagmnaaGreatDoorCards
import Derived.Test.YtleflkgdbagmnaaGreatDoorTie
import Derived.SevenTiedAt
import Derived.Test.YtleflkgdbagmnaaGreatDoorBdLaid
import Derived.Test.YtleflkgdbagmnaaGreatDoorPlArg
namespace Go.Proofs.YtleflkgdbagmnaaGreatDoor.boundsSet
open Go.ChangeShapes Go.WideShapes Go.ChangeAt Go.RowKit
open Go.ChangeMaps (open_string shut_string)
set_option linter.unusedVariables false

theorem own : ownKnob Tryz.prog.godebug = none := by kernel_rfl
theorem laidOut : laidOutB Tryz.prog = true := by kernel_rfl

set_option maxHeartbeats 4000000 in
set_option maxRecDepth 100000 in
theorem walk (a0 : Int) (v1 : Value) (x1 : Int × Int) (v2 : Value) (x2 : Int × Int) (a3 : Int) (S : Nat → Addr) (w : World) (w0 : (Lit.int .i64 a0).wf = true) (w1 : Dp.PairV .u8 v1 x1) (w2 : Dp.PairV .i64 v2 x2) (w3 : (Lit.int .i64 a3).wf = true) (hS : Pl.Errs w S) :
    Calls Tryz.prog 5 #[.int .i64 a0, v1, v2, .int .i64 a3] w fun e w' => e = .returned (.bool true) ∧ Below w.heap.size w w' := by
  have hl := Pl.madeC_len a0
  obtain ⟨q1, q2⟩ := Pl.setC_parts (Pl.madeC a0) (x1.1.tmod 11) x2.1
  obtain ⟨q3, q4⟩ := Pl.setC_parts (Pl.setC (Pl.madeC a0) (x1.1.tmod 11) x2.1) (x1.2.tmod 11) x2.2
  refine Pl.PC.calls (vs := [.int .i64 a0, v1, v2, .int .i64 a3]) (Pl.drumlinelaw7_BoundsSet_pc S hS.1 a0 x1.1 x1.2 x2.1 x2.2 a3 (Pl.madeC a0) _ _ (Dp.PC.more (Pl.Made_pc a0)) rfl rfl (by rw [q3, q1]; omega) (by rw [q4, q2]; omega)) hS.2 rfl fun j d v h1 h2 => ?_
  match j, h1, h2 with
  | 0, h1, h2 =>
    cases h1
    cases h2
    exact .v _
  | 1, h1, h2 =>
    cases h1
    cases h2
    rw [w1.1]
    exact .r (vs := [_, _]) rfl fun j d v k1 k2 => by
      match j, k1, k2 with
      | 0, k1, k2 => cases k1; cases k2; exact .v _
      | 1, k1, k2 => cases k1; cases k2; exact .v _
  | 2, h1, h2 =>
    cases h1
    cases h2
    rw [w2.1]
    exact .r (vs := [_, _]) rfl fun j d v k1 k2 => by
      match j, k1, k2 with
      | 0, k1, k2 => cases k1; cases k2; exact .v _
      | 1, k1, k2 => cases k1; cases k2; exact .v _
  | 3, h1, h2 =>
    cases h1
    cases h2
    exact .v _

/-! ### THE ROW's STEP -/
set_option maxRecDepth 100000 in
theorem lifted (os : Os) (started : os.Started) (H : Type) (enc : TypeId × Value → H) :
    ReturnsInHanded {} Tryz.checked os 5 .any (fun w args => (Rows.boundsSetSpec.pre enc Tryz.prog Tryz.f5 Rows.boundsSetRow.domain false w args ∧ laidMetH Tryz.prog Pl.laidL w) ∧ sizedMet enc Tryz.prog Tryz.f5 (OpenSpec.ofChange Rows.boundsSetSpec) false w args)
      (Rows.boundsSetSpec.post enc Tryz.prog Tryz.f5 false true false false) := by
  refine returnsInHanded_of_change_and (C := Tryz.checked) (X := fun w _ => laidMetH Tryz.prog Pl.laidL w) (fun _ _ _ hh h => h.of_heap hh) own started (by kernel_rfl) Tryz.func5
    (ChangeSpec.witness_shaped (enc := enc) (C := Tryz.checked) (os := os) (X := fun w _ => laidMetH Tryz.prog Pl.laidL w) false (World.doorLaid Tryz.prog 400 os) #[.int .i64 0, .agg #[.int .u8 0, .int .u8 0], .agg #[.int .i64 0, .int .i64 0], .int .i64 0] 8 rfl (Pl.laid_shaped os _) (by kernel_rfl) (by kernel_rfl) (by kernel_rfl) (Pl.laid_met os _)) ?_
  intro W base args ds gs before hval0 hW _ _ hL _
  have hval : ∀ (j : Nat) t v, Tryz.f5.params[j]? = some t → args[j]? = some v → Value.okWide Tryz.prog W .any base t v := hval0
  have hW' := hW
  obtain ⟨p, q, hA0, hV, rfl, hfz, hnd⟩ := hW
  obtain ⟨S, hS⟩ := Pl.errs_of_laid hL
  have hA : DataW.TrodAll enc Tryz.prog W 0 (fun _ => true) true Tryz.f5.params.toList args.toList ds p := hA0
  rw [Tryz.params5] at hA hval
  obtain ⟨v0, vs0, d0, ds0, p0, q0, hargs, rfl, rfl, h0, r0⟩ := trodAll_cons hA
  obtain ⟨v1, vs1, d1, ds1, p1, q1, rfl, rfl, rfl, h1, r1⟩ := trodAll_cons r0
  obtain ⟨v2, vs2, d2, ds2, p2, q2, rfl, rfl, rfl, h2, r2⟩ := trodAll_cons r1
  obtain ⟨v3, vs3, d3, ds3, p3, q3, rfl, rfl, rfl, h3, r3⟩ := trodAll_cons r2
  obtain ⟨rfl, rfl, rfl⟩ := trodAll_nil r3
  obtain rfl : args = #[v0, v1, v2, v3] := by cases args; simp_all
  obtain ⟨rfl, rfl⟩ := trodVars_none hV
  obtain ⟨a0, rfl, rfl, rfl, w0⟩ := open_int Tryz.underlying3 (hval 0 3 v0 rfl rfl) h0
  have k1 := h1
  have lt1 : ∀ x ∈ p1, x.block < W.heap.size := by obtain ⟨m, hm⟩ := k1; exact DataW.trod_lt m _ _ _ hm
  obtain ⟨x1, w1⟩ := Dp.pair_of_trod (k := .u8) Tryz.underlying38 (by kernel_rfl) (hval 1 38 v1 rfl rfl) h1
  have k2 := h2
  have lt2 : ∀ x ∈ p2, x.block < W.heap.size := by obtain ⟨m, hm⟩ := k2; exact DataW.trod_lt m _ _ _ hm
  obtain ⟨x2, w2⟩ := Dp.pair_of_trod (k := .i64) Tryz.underlying39 (by kernel_rfl) (hval 2 39 v2 rfl rfl) h2
  obtain ⟨a3, rfl, rfl, rfl, w3⟩ := open_int Tryz.underlying3 (hval 3 3 v3 rfl rfl) h3
  clear hA0 hval0
  refine (walk a0 v1 x1 v2 x2 a3 S W w0 w1 w2 w3 hS).mono fun e W' ⟨he, bel⟩ => ?_
  subst he
  exact ⟨_, rfl, _, _, _, [], _, [], hW', trodAll_mk1 (shut_bool Tryz.underlying4 _), (trodAll_cons_mk (shut_int Tryz.underlying3 w0) (trodAll_cons_mk (Below.trod laidOut (by kernel_rfl) (of_decide_eq_true (by kernel_rfl)) k1 bel lt1) (trodAll_cons_mk (Below.trod laidOut (by kernel_rfl) (of_decide_eq_true (by kernel_rfl)) k2 bel lt2) (trodAll_cons_mk (shut_int Tryz.underlying3 w3) trodAll_mk0)))), rfl, bel.frame _, fun h => by cases h⟩

theorem over : Rows.boundsSetRow.holds Tryz.pinned (OpenSpec.ofChange Rows.boundsSetSpec) :=
  OpenClaim.holds_of_wide 5 Tryz.f5 rfl rfl rfl rfl rfl rfl rfl ⟨rfl, rfl, rfl, rfl, rfl⟩ rfl rfl rfl rfl rfl (by kernel_rfl) Tryz.func5 (by kernel_rfl)
    (of_decide_eq_true (by kernel_rfl)) (by unfold Func.isWrapper; first | (rw [if_pos (by decide +kernel)]; kernel_rfl) | (rw [if_neg (by decide +kernel)]; exact ⟨rfl, rfl⟩))
    (fun os started H enc _ => lifted os started H enc)

theorem proved : Rows.BoundsSetCardSaid :=
  Claim7.holds_tied_plain_at .later [] [.handle, .sentinel, .sentinel, .sentinel, .sentinel, .sentinel, .sentinel, .sentinel, .sentinel] true (true, "ae28dc4ed602e5d8d91a5f2c0542cb87eca9d8aaaa801afc46eaf472e8b16684") true
    over (fun _ h => by cases h) (by kernel_rfl) (fun _ h => by cases h) boundsSet_row_tie rfl ⟨rfl, rfl⟩ (by kernel_rfl) rfl
    (fun f fn hf hfn => by
      obtain rfl : f = 5 := Option.some.inj ((show Tryz.prog.funcNamed "drumline/drumlinelaw7.BoundsSet" = some 5 by kernel_rfl).symm.trans hf) |>.symm
      obtain rfl : fn = Tryz.f5 := (Option.some.inj (Tryz.func5.symm.trans hfn)).symm
      exact ⟨by kernel_rfl, fun j t ht => by
        rw [Tryz.params5] at ht
        have hm : t ∈ [3, 38, 39, 3] := by simpa using Array.mem_of_getElem? ht
        have hall : ([3, 38, 39, 3].all fun u => !Tryz.prog.wantsStandIn u) = true := by kernel_rfl
        exact (show Tryz.prog.wantsStandIn t = false by simpa using List.all_eq_true.1 hall t hm)⟩)
    (by kernel_rfl)
#print axioms proved
end Go.Proofs.YtleflkgdbagmnaaGreatDoor.boundsSet
