/- For every number n, part, guard, list of what is said and list of slots the law AirHeard returns true: in the network that Made makes of n what is heard of frames at their times and beside them, and how many are bad, is as the document's own answer says. The packages' error variables are as the program's text lays them; no condition beyond the statement's own. -/
import Derived.Test.YtdomlccfjnkbjaaGreatDoorRows
import Derived.WalkKit
import Derived.ProofKit
import Derived.OpenShut
import Derived.Test.YtdomlccfjnkbjaaGreatDoorAiLaw
import Derived.ShutString
import Derived.ChangeOld
import Derived.Below
import Derived.Test.YtdomlccfjnkbjaaGreatDoorCards
import Derived.Test.YtdomlccfjnkbjaaGreatDoorTie
import Derived.SevenTiedAt
import Derived.Test.YtdomlccfjnkbjaaGreatDoorAiLaid
import Derived.Test.YtdomlccfjnkbjaaGreatDoorAiArg
namespace Go.Proofs.YtdomlccfjnkbjaaGreatDoor.airHeard
open Go.ChangeShapes Go.WideShapes Go.ChangeAt Go.RowKit
open Go.ChangeMaps (open_string shut_string)
set_option linter.unusedVariables false

theorem own : ownKnob Tryz.prog.godebug = none := by kernel_rfl
theorem laidOut : laidOutB Tryz.prog = true := by kernel_rfl

set_option maxHeartbeats 4000000 in
set_option maxRecDepth 100000 in
theorem walk (a0 : Int) (a1 : Int) (v2 : Value) (x2 : Pl.Guard) (a3 : Option Addr) (len3 cap3 : Nat) (x3 : List Pl.Said) (a4 : Option Addr) (len4 cap4 : Nat) (x4 : List Int) (S : Nat → Addr) (w : World) (w0 : (Lit.int .i64 a0).wf = true) (w1 : (Lit.int .u8 a1).wf = true) (w2 : Pl.GuardV w v2 x2) (w3 : Pl.SaidsV w a3 len3 cap3 x3) (w4 : Pl.IntsV w a4 len4 cap4 x4) (hS : Pl.Errs w S) :
    Calls Tryz.prog 5 #[.int .i64 a0, .int .u8 a1, v2, .slice a3 len3 cap3, .slice a4 len4 cap4] w fun e w' => e = .returned (.bool true) ∧ Below w.heap.size w w' := by
  have hl := Pl.madeC_len a0
  have u1 := bounds_u8 w1
  obtain ⟨p, q1, q2⟩ := Pl.ttmod (x := a1) (n := (Pl.madeC a0).parts.length) ⟨u1.1, by omega⟩ hl.2.1
  have F := Pl.made_sched a0 q2
  refine Pl.PC.calls (vs := [.int .i64 a0, .int .u8 a1, v2, .slice a3 len3 cap3, .slice a4 len4 cap4]) (Pl.drumlinelaw11_AirHeard_pc S hS.1 a0 a1 p x2 x3 x4 w3.2.1 w3.2.2 (Pl.madeC a0) (Dp.PC.more (Pl.Made_pc a0)) (Pl.window_of (Pl.made_nums a0)) (by omega) (by omega) q1 hl.2.1 F) hS.2 rfl fun j d v h1 h2 => ?_
  match j, h1, h2 with
  | 0, h1, h2 =>
    cases h1
    cases h2
    exact .v _
  | 1, h1, h2 =>
    cases h1
    cases h2
    exact .v _
  | 2, h1, h2 =>
    cases h1
    cases h2
    exact w2.1
  | 3, h1, h2 =>
    cases h1
    cases h2
    exact w3.1
  | 4, h1, h2 =>
    cases h1
    cases h2
    exact w4.1

/-! ### THE ROW's STEP -/
set_option maxRecDepth 100000 in
theorem lifted (os : Os) (started : os.Started) (H : Type) (enc : TypeId × Value → H) :
    ReturnsInHanded {} Tryz.checked os 5 .any (fun w args => (Rows.airHeardSpec.pre enc Tryz.prog Tryz.f5 Rows.airHeardRow.domain false w args ∧ laidMetH Tryz.prog Pl.laidL w) ∧ sizedMet enc Tryz.prog Tryz.f5 (OpenSpec.ofChange Rows.airHeardSpec) false w args)
      (Rows.airHeardSpec.post enc Tryz.prog Tryz.f5 false true false false) := by
  refine returnsInHanded_of_change_and (C := Tryz.checked) (X := fun w _ => laidMetH Tryz.prog Pl.laidL w) (fun _ _ _ hh h => h.of_heap hh) own started (by kernel_rfl) Tryz.func5
    (ChangeSpec.witness_shaped (enc := enc) (C := Tryz.checked) (os := os) (X := fun w _ => laidMetH Tryz.prog Pl.laidL w) false (World.doorLaid Tryz.prog 400 os) #[.int .i64 0, .int .u8 0, .agg #[.bool false, .int .i64 0, .slice none 0 0], .slice none 0 0, .slice none 0 0] 8 rfl (Pl.laid_shaped os _) (by kernel_rfl) (by kernel_rfl) (by kernel_rfl) (Pl.laid_met os _)) ?_
  intro W base args ds gs before hval0 hW _ _ hL _
  have hval : ∀ (j : Nat) t v, Tryz.f5.params[j]? = some t → args[j]? = some v → Value.okWide Tryz.prog W .any base t v := hval0
  have hW' := hW
  obtain ⟨p, q, hA0, hV, rfl, hfz, hnd⟩ := hW
  obtain ⟨S, hS⟩ := Pl.errs_of_laid hL
  have hA : DataW.TrodAll enc Tryz.prog W 0 (fun _ => true) true Tryz.f5.params.toList args.toList ds p := hA0
  rw [Tryz.params5] at hA hval
  obtain ⟨v0, vs0, d0, ds0, p0, q0, hargs, rfl, rfl, h0, r0⟩ := trodAll_cons hA
  obtain ⟨v1, vs1, d1, ds1, p1, q1, rfl, rfl, rfl, h1, r1⟩ := trodAll_cons r0
  obtain ⟨v2, vs2, d2, ds2, p2, q2, rfl, rfl, rfl, h2, r2⟩ := trodAll_cons r1
  obtain ⟨v3, vs3, d3, ds3, p3, q3, rfl, rfl, rfl, h3, r3⟩ := trodAll_cons r2
  obtain ⟨v4, vs4, d4, ds4, p4, q4, rfl, rfl, rfl, h4, r4⟩ := trodAll_cons r3
  obtain ⟨rfl, rfl, rfl⟩ := trodAll_nil r4
  obtain rfl : args = #[v0, v1, v2, v3, v4] := by cases args; simp_all
  obtain ⟨rfl, rfl⟩ := trodVars_none hV
  obtain ⟨a0, rfl, rfl, rfl, w0⟩ := open_int Tryz.underlying3 (hval 0 3 v0 rfl rfl) h0
  obtain ⟨a1, rfl, rfl, rfl, w1⟩ := open_int Tryz.underlying5 (hval 1 5 v1 rfl rfl) h1
  have k2 := h2
  have lt2 : ∀ x ∈ p2, x.block < W.heap.size := by obtain ⟨m, hm⟩ := k2; exact DataW.trod_lt m _ _ _ hm
  obtain ⟨x2, w2⟩ := Pl.guard_of_trod (hval 2 35 v2 rfl rfl) h2
  obtain ⟨a3, len3, cap3, rfl⟩ := okWide_slice Tryz.underlying43 (hval 3 43 v3 rfl rfl)
  have k3 := h3
  have lt3 : ∀ x ∈ p3, x.block < W.heap.size := by obtain ⟨m, hm⟩ := k3; exact DataW.trod_lt m _ _ _ hm
  obtain ⟨x3, w3⟩ := Pl.saids_of_trod h3
  obtain ⟨a4, len4, cap4, rfl⟩ := okWide_slice Tryz.underlying22 (hval 4 22 v4 rfl rfl)
  have k4 := h4
  have lt4 : ∀ x ∈ p4, x.block < W.heap.size := by obtain ⟨m, hm⟩ := k4; exact DataW.trod_lt m _ _ _ hm
  obtain ⟨x4, w4⟩ := Pl.ints_of_trod h4
  clear hA0 hval0
  refine (walk a0 a1 v2 x2 a3 len3 cap3 x3 a4 len4 cap4 x4 S W w0 w1 w2 w3 w4 hS).mono fun e W' ⟨he, bel⟩ => ?_
  subst he
  exact ⟨_, rfl, _, _, _, [], _, [], hW', trodAll_mk1 (shut_bool Tryz.underlying4 _), (trodAll_cons_mk (shut_int Tryz.underlying3 w0) (trodAll_cons_mk (shut_int Tryz.underlying5 w1) (trodAll_cons_mk (Below.trod laidOut (by kernel_rfl) (of_decide_eq_true (by kernel_rfl)) k2 bel lt2) (trodAll_cons_mk (Below.trod laidOut (by kernel_rfl) (of_decide_eq_true (by kernel_rfl)) k3 bel lt3) (trodAll_cons_mk (Below.trod laidOut (by kernel_rfl) (of_decide_eq_true (by kernel_rfl)) k4 bel lt4) trodAll_mk0))))), rfl, bel.frame _, fun h => by cases h⟩

theorem over : Rows.airHeardRow.holds Tryz.pinned (OpenSpec.ofChange Rows.airHeardSpec) :=
  OpenClaim.holds_of_wide 5 Tryz.f5 rfl rfl rfl rfl rfl rfl rfl ⟨rfl, rfl, rfl, rfl, rfl⟩ rfl rfl rfl rfl rfl (by kernel_rfl) Tryz.func5 (by kernel_rfl)
    (of_decide_eq_true (by kernel_rfl)) (by unfold Func.isWrapper; first | (rw [if_pos (by decide +kernel)]; kernel_rfl) | (rw [if_neg (by decide +kernel)]; exact ⟨rfl, rfl⟩))
    (fun os started H enc _ => lifted os started H enc)

theorem proved : Rows.AirHeardCardSaid :=
  Claim7.holds_tied_plain_at .later [] [.handle, .sentinel, .sentinel, .sentinel, .sentinel, .sentinel, .sentinel, .sentinel, .sentinel, .sentinel, .sentinel, .sentinel, .sentinel, .sentinel] true (true, "1210250b91a88c5310b0d5b433bf24a3e6b65387af06fa02e72a1e0d8d17a181") true
    over (fun _ h => by cases h) (by kernel_rfl) (fun _ h => by cases h) airHeard_row_tie rfl ⟨rfl, rfl⟩ (by kernel_rfl) rfl
    (fun f fn hf hfn => by
      obtain rfl : f = 5 := Option.some.inj ((show Tryz.prog.funcNamed "drumline/drumlinelaw11.AirHeard" = some 5 by kernel_rfl).symm.trans hf) |>.symm
      obtain rfl : fn = Tryz.f5 := (Option.some.inj (Tryz.func5.symm.trans hfn)).symm
      exact ⟨by kernel_rfl, fun j t ht => by
        rw [Tryz.params5] at ht
        have hm : t ∈ [3, 5, 35, 43, 22] := by simpa using Array.mem_of_getElem? ht
        have hall : ([3, 5, 35, 43, 22].all fun u => !Tryz.prog.wantsStandIn u) = true := by kernel_rfl
        exact (show Tryz.prog.wantsStandIn t = false by simpa using List.all_eq_true.1 hall t hm)⟩)
    (by kernel_rfl)
#print axioms proved
end Go.Proofs.YtdomlccfjnkbjaaGreatDoor.airHeard
