/- For every frame f the law FrameBack returns true: a frame that may be is read as it was written. The package's error variables are as the program's text lays them; no condition beyond the statement's own. -/
import Derived.Test.YtliejllegabdnaaDoorRows
import Derived.WalkKit
import Derived.ProofKit
import Derived.OpenShut
import Derived.Test.YtliejllegabdnaaDoorFrMayR
import Derived.Test.YtliejllegabdnaaDoorFrAlive
import Derived.Test.YtliejllegabdnaaDoorFrSmall
import Derived.Test.YtliejllegabdnaaDoorFrArgs
import Derived.ShutString
import Derived.ChangeOld
import Derived.Below
import Derived.Test.YtliejllegabdnaaDoorCards
import Derived.Test.YtliejllegabdnaaDoorTie
import Derived.SevenTiedAt
import Derived.Test.YtliejllegabdnaaDoorFrLaid
namespace Go.Proofs.YtliejllegabdnaaDoor.frameBack
open Go.ChangeShapes Go.WideShapes Go.ChangeAt Go.RowKit
open Go.ChangeMaps (open_string shut_string)
set_option linter.unusedVariables false

theorem own : ownKnob Tryd.prog.godebug = none := by kernel_rfl
theorem laidOut : laidOutB Tryd.prog = true := by kernel_rfl

set_option maxHeartbeats 4000000 in
set_option maxRecDepth 100000 in
theorem walk (v0 : Value) (x0 : Fr.Frame) (S : Fr.Sn) (w : World) (w0 : Fr.FrV w w.heap.size v0 x0) (hS : Fr.Sents w w.heap.size S) :
    Calls Tryd.prog 4 #[v0] w fun e w' => e = .returned (.bool true) ∧ Below w.heap.size w w' := by
  obtain ⟨a, n, c, a', n', c', ev0, _⟩ := id w0
  subst ev0
  refine Ev.enter (N := 46) Tryd.func4 rfl rfl (Nat.le_of_ble_eq_true rfl) fun act I0 => ?_
  refine Ev.seq_q I0 (by kernel_rfl) (by kernel_rfl) (by kernel_rfl) fun ρ1 a1 W1 I1 hb1 => ?_
  have HB2 : Below w.heap.size w W1 := hb1
  have F0_3 := w0.later hb1
  have hS_4 := hS.later hb1
  refine wp_seq (wp_seq (wp_region_list ?_))
  refine Ev.gcall_ok (l := [.func 8]) (A := []) (f := 8) (args := #[]) (v := .bool true) I1 (by kernel_rfl) (by kernel_rfl) rfl (by kernel_rfl) (fun u => (by kernel_rfl)) (Fr.alive_calls S _ hS_4) fun a5 W5 hb5 I5 => ?_
  have HB6 := HB2.trans (hb5.mono HB2.size)
  have F0_7 := F0_3.later hb5
  have hS_8 := hS_4.later hb5
  refine Ev.row_v 3 I5 (by kernel_rfl) (by kernel_rfl) fun a9 I9 => ?_
  simp only [List.drop_succ_cons, List.drop_zero]
  refine Ev.gcall_ok (l := [.func 9, .tmp 10]) (A := [(9, false)]) (f := 9) (args := #[.agg (Fr.cells x0 (.slice a n c) (.slice a' n' c')).toArray]) (v := .bool (decide (x0.ages.length ≤ 40 ∧ x0.body.length ≤ 100))) I9 (by kernel_rfl) (by kernel_rfl) rfl (by kernel_rfl) (fun u => (by kernel_rfl)) (Fr.small_calls x0 _ _ _ F0_7) fun a10 W10 hb10 I10 => ?_
  have HB11 := HB6.trans (hb10.mono HB6.size)
  have F0_12 := F0_7.later hb10
  have hS_13 := hS_8.later hb10
  refine Ev.row_v 4 I10 (by kernel_rfl) (by kernel_rfl) fun a14 I14 => ?_
  simp only [List.drop_succ_cons, List.drop_zero]
  refine Ev.gcall_ok (l := [.func 13, .tmp 15]) (A := [(14, false)]) (f := 13) (args := #[.agg (Fr.cells x0 (.slice a n c) (.slice a' n' c')).toArray]) (v := .bool (Fr.mayB x0)) I14 (by kernel_rfl) (by kernel_rfl) rfl (by kernel_rfl) (fun u => (by kernel_rfl)) (Fr.mayR_calls x0 _ _ _ F0_12 (Nat.le_refl _)) fun a15 W15 hb15 I15 => ?_
  have HB16 := HB11.trans (hb15.mono HB11.size)
  have F0_17 := F0_12.later hb15
  have hS_18 := hS_13.later hb15
  refine Ev.row_v 2 I15 (by kernel_rfl) (by kernel_rfl) fun a19 I19 => ?_
  have J20 := I19.to [1, 18] (s2 := { tab := [⟨1, [], .p 0 0⟩, ⟨18, [], .v (.bool (!true || !(decide (x0.ages.length ≤ 40 ∧ x0.body.length ≤ 100)) || !Fr.mayB x0))⟩], mem := [(25, (Fr.cells x0 (.slice a n c) (.slice a' n' c')))] }) (by kernel_rfl)
  clear I19
  show (Code.cond _ _ _).wp _ _ _ _
  refine Ev.cond_ok J20 (z := (!true || !(decide (x0.ages.length ≤ 40 ∧ x0.body.length ≤ 100)) || !Fr.mayB x0)) (by kernel_rfl) (fun hz => ?_) (fun hz => ?_)
  · clear hz
    refine Ev.seq_row ?_
    refine Ev.gcall_ok (l := [.func 8]) (A := []) (f := 8) (args := #[]) (v := .bool true) J20 (by kernel_rfl) (by kernel_rfl) rfl (by kernel_rfl) (fun u => (by kernel_rfl)) (Fr.alive_calls S _ hS_18) fun a21 W21 hb21 I21 => ?_
    have HB22 := HB16.trans (hb21.mono HB16.size)
    have F0_23 := F0_17.later hb21
    have hS_24 := hS_18.later hb21
    refine Ev.row_v 1 I21 (by kernel_rfl) (by kernel_rfl) fun a25 I25 => ?_
    show Code.ret.wp _ _ _ _
    refine wp_ret ?_
    simp only [Exit.then]
    refine Ev.ret1 I25 rfl (v := .bool true) (by kernel_rfl) ?_
    exact ⟨rfl, HB22⟩
  refine wp_skip ?_
  simp only [Exit.then]
  have hm0 : Fr.mayB x0 = true := by cases h : Fr.mayB x0 with | true => rfl | false => simp [h] at hz
  clear hz
  have hdx : Fr.decX (Fr.bytesOf x0) = .ok x0 := by unfold Fr.bytesOf; rw [hm0, if_pos rfl]; exact Fr.dec_enc hm0
  have hl : (Fr.bytesOf x0).length ≤ 1000000 := by have := Fr.enc_le hm0; unfold Fr.bytesOf; rw [hm0, if_pos rfl, Fr.sealB_length]; omega
  refine Ev.seq_row ?_
  refine Ev.row_v 1 J20 (by kernel_rfl) (by kernel_rfl) fun a26 I26 => ?_
  simp only [List.drop_succ_cons, List.drop_zero]
  refine Ev.call_ok (l := [.func 10, .tmp 21]) (A := []) (f := 10) (args := #[.agg (Fr.cells x0 (.slice a n c) (.slice a' n' c')).toArray]) (R := fun v w' => ∃ q r, v = .tuple #[.slice q (Fr.bytesOf x0).length r, .int .i64 (if Fr.mayB x0 = true then 0 else 1)] ∧ Sm.Row8 w' w'.heap.size q (Fr.bytesOf x0).length r (Fr.bytesOf x0) ∧ Below W15.heap.size W15 w') I26 (by kernel_rfl) (by kernel_rfl) (by kernel_rfl) rfl (by kernel_rfl) (fun u => (by kernel_rfl)) ?_ (fun v w' h => by obtain ⟨_, _, _, _, h⟩ := h; exact h) ?_
  · refine (Fr.encode_calls x0 _ _ S _ F0_17 (Nat.le_refl _) hS_18).mono ?_
    rintro e w' ⟨q, r, rfl, h1, h2⟩; exact ⟨_, rfl, q, r, rfl, h1, h2⟩
  rintro v a27 W27 ⟨qx0, rx0, rfl, hrx0, hb27⟩ I27
  have HB28 := HB16.trans (hb27.mono HB16.size)
  have F0_29 := F0_17.later hb27
  have hS_30 := hS_18.later hb27
  refine Ev.row_v 5 I27 (by kernel_rfl) (by kernel_rfl) fun a31 I31 => ?_
  show Code.wp _ _ _ _ _
  refine Ev.seq_row ?_
  refine Ev.row_v 1 I31 (by kernel_rfl) (by kernel_rfl) fun a32 I32 => ?_
  simp only [List.drop_succ_cons, List.drop_zero]
  refine Ev.call_ok (l := [.func 17, .tmp 26]) (A := []) (f := 17) (args := #[.slice qx0 (Fr.bytesOf x0).length rx0]) (R := fun v w' => ∃ b1d b2d b3d b4d b5d b6d, v = .tuple #[.agg (Fr.cells (Fr.frOf (.ok x0 : Except (Int × Nat) Fr.Frame)) (.slice b1d b2d b3d) (.slice b4d b5d b6d)).toArray, .int .i64 (Fr.noOf (Fr.errOf (.ok x0 : Except (Int × Nat) Fr.Frame)))] ∧ Fr.FrV w' w'.heap.size (.agg (Fr.cells (Fr.frOf (.ok x0 : Except (Int × Nat) Fr.Frame)) (.slice b1d b2d b3d) (.slice b4d b5d b6d)).toArray) (Fr.frOf (.ok x0 : Except (Int × Nat) Fr.Frame)) ∧ Below W27.heap.size W27 w') I32 (by kernel_rfl) (by kernel_rfl) (by kernel_rfl) rfl (by kernel_rfl) (fun u => (by kernel_rfl)) ?_ (fun v w' h => by obtain ⟨_, _, _, _, _, _, _, _, h⟩ := h; exact h) ?_
  · refine (Fr.decode_calls _ _ _ S (Fr.bytesOf x0) _ hrx0 hS_30 hl).mono ?_
    rw [hdx]; rintro e w' ⟨cs, rfl, h1, h2⟩; obtain ⟨y1, y2, y3, y4, y5, y6, ecs, _⟩ := id h1; injection ecs with ecs; rw [ecs] at h1; exact ⟨_, rfl, y1, y2, y3, y4, y5, y6, by rw [ecs], h1, h2⟩
  rintro v a33 W33 ⟨b1d, b2d, b3d, b4d, b5d, b6d, rfl, hfd, hb33⟩ I33
  have HB34 := HB28.trans (hb33.mono HB28.size)
  have F0_35 := F0_29.later hb33
  have hS_36 := hS_30.later hb33
  have Rx0_37 := hrx0.later hb33
  refine Ev.row_q 6 I33 (by kernel_rfl) (by kernel_rfl) (by kernel_rfl) fun ρ38 a38 W38 I38 hb38 => ?_
  have HB39 := HB34.trans (hb38.mono HB34.size)
  have F0_40 := F0_35.later hb38
  have hS_41 := hS_36.later hb38
  have Rx0_42 := Rx0_37.later hb38
  have Dd_43 := hfd.later hb38
  show Code.wp _ _ _ _ _
  refine Ev.seq_row ?_
  refine Ev.row_v 9 I38 (by kernel_rfl) (by kernel_rfl) fun a44 I44 => ?_
  simp only [List.drop_succ_cons, List.drop_zero]
  refine Ev.gcall_ok (l := [.func 15, .tmp 37, .tmp 38]) (A := [(36, true)]) (f := 15) (args := #[.agg (Fr.cells x0 (.slice a n c) (.slice a' n' c')).toArray, .agg (Fr.cells (Fr.frOf (.ok x0 : Except (Int × Nat) Fr.Frame)) (.slice b1d b2d b3d) (.slice b4d b5d b6d)).toArray]) (v := .bool (decide (x0 = x0))) I44 (by kernel_rfl) (by kernel_rfl) rfl (by kernel_rfl) (fun u => (by kernel_rfl)) (Fr.same_calls _ _ x0 x0 _ _ _ F0_40 Dd_43 (Nat.le_refl _) (Nat.le_refl _)) fun a45 W45 hb45 I45 => ?_
  have HB46 := HB39.trans (hb45.mono HB39.size)
  have F0_47 := F0_40.later hb45
  have hS_48 := hS_41.later hb45
  have Rx0_49 := Rx0_42.later hb45
  have Dd_50 := Dd_43.later hb45
  refine Ev.row_v 4 I45 (by kernel_rfl) (by kernel_rfl) fun a51 I51 => ?_
  simp only [List.drop_succ_cons, List.drop_zero]
  refine Ev.gcall_ok (l := [.func 16, .tmp 42, .tmp 43]) (A := [(41, true)]) (f := 16) (args := #[.agg (Fr.cells x0 (.slice a n c) (.slice a' n' c')).toArray, .agg (Fr.cells (Fr.frOf (.ok x0 : Except (Int × Nat) Fr.Frame)) (.slice b1d b2d b3d) (.slice b4d b5d b6d)).toArray]) (v := .bool (decide (x0 = x0))) I51 (by kernel_rfl) (by kernel_rfl) rfl (by kernel_rfl) (fun u => (by kernel_rfl)) (Fr.sameR_calls _ _ x0 x0 _ _ _ F0_47 Dd_50 (Nat.le_refl _) (Nat.le_refl _)) fun a52 W52 hb52 I52 => ?_
  have HB53 := HB46.trans (hb52.mono HB46.size)
  have F0_54 := F0_47.later hb52
  have hS_55 := hS_48.later hb52
  have Rx0_56 := Rx0_49.later hb52
  have Dd_57 := Dd_50.later hb52
  refine Ev.row_v 2 I52 (by kernel_rfl) (by kernel_rfl) fun a58 I58 => ?_
  show Code.ret.wp _ _ _ _
  refine wp_ret ?_
  refine Ev.ret1 I58 rfl (v := .bool (((if Fr.mayB x0 = true then (0 : Int) else 1) == 0) && ((0 : Int) == 0) && decide (x0 = x0) && decide (x0 = x0))) (by kernel_rfl) ?_
  refine ⟨?_, HB53⟩
  rw [hm0]
  simp

/-! ### THE ROW's STEP -/
set_option maxRecDepth 100000 in
theorem lifted (os : Os) (started : os.Started) (H : Type) (enc : TypeId × Value → H) :
    ReturnsInHanded {} Tryd.checked os 4 .any (fun w args => (Rows.frameBackSpec.pre enc Tryd.prog Tryd.f4 Rows.frameBackRow.domain false w args ∧ laidMetH Tryd.prog Fr.laidL w) ∧ sizedMet enc Tryd.prog Tryd.f4 (OpenSpec.ofChange Rows.frameBackSpec) false w args)
      (Rows.frameBackSpec.post enc Tryd.prog Tryd.f4 false true false false) := by
  refine returnsInHanded_of_change_and (C := Tryd.checked) (X := fun w _ => laidMetH Tryd.prog Fr.laidL w) (fun _ _ _ hh h => h.of_heap hh) own started (by kernel_rfl) Tryd.func4
    (ChangeSpec.witness_shaped (enc := enc) (C := Tryd.checked) (os := os) (X := fun w _ => laidMetH Tryd.prog Fr.laidL w) false (World.doorLaid Tryd.prog 400 os) #[.agg #[.int .i64 0, .int .i64 0, .int .i64 0, .int .i64 0, .int .i64 0, .int .i64 0, .bool false, .int .i64 0, .int .i64 0, .slice none 0 0, .int .i64 0, .int .i64 0, .int .i64 0, .slice none 0 0]] 8 rfl (Fr.laid_shaped os _) (by kernel_rfl) (by kernel_rfl) (by kernel_rfl) (Fr.laid_met os _)) ?_
  intro W base args ds gs before hval0 hW _ _ hL _
  have hval : ∀ (j : Nat) t v, Tryd.f4.params[j]? = some t → args[j]? = some v → Value.okWide Tryd.prog W .any base t v := hval0
  have hW' := hW
  obtain ⟨p, q, hA0, hV, rfl, hfz, hnd⟩ := hW
  obtain ⟨S, hS⟩ := Fr.sents_of_laid hL
  have hA : DataW.TrodAll enc Tryd.prog W 0 (fun _ => true) true Tryd.f4.params.toList args.toList ds p := hA0
  rw [Tryd.params4] at hA hval
  obtain ⟨v0, vs0, d0, ds0, p0, q0, hargs, rfl, rfl, h0, r0⟩ := trodAll_cons hA
  obtain ⟨rfl, rfl, rfl⟩ := trodAll_nil r0
  obtain rfl : args = #[v0] := by cases args; simp_all
  obtain ⟨rfl, rfl⟩ := trodVars_none hV
  have k0 := h0
  have lt0 : ∀ x ∈ p0, x.block < W.heap.size := by obtain ⟨m, hm⟩ := k0; exact DataW.trod_lt m _ _ _ hm
  obtain ⟨x0, w0⟩ := Fr.frame_of_trod (hval 0 25 v0 rfl rfl) h0
  clear hA0 hval0
  refine (walk v0 x0 S W w0 hS).mono fun e W' ⟨he, bel⟩ => ?_
  subst he
  exact ⟨_, rfl, _, _, _, [], _, [], hW', trodAll_mk1 (shut_bool Tryd.underlying4 _), (trodAll_cons_mk (Below.trod laidOut (by kernel_rfl) (of_decide_eq_true (by kernel_rfl)) k0 bel lt0) trodAll_mk0), rfl, bel.frame _, fun h => by cases h⟩

theorem over : Rows.frameBackRow.holds Tryd.pinned (OpenSpec.ofChange Rows.frameBackSpec) :=
  OpenClaim.holds_of_wide 4 Tryd.f4 rfl rfl rfl rfl rfl rfl rfl ⟨rfl, rfl, rfl, rfl, rfl⟩ rfl rfl rfl rfl rfl (by kernel_rfl) Tryd.func4 (by kernel_rfl)
    (of_decide_eq_true (by kernel_rfl)) (by unfold Func.isWrapper; first | (rw [if_pos (by decide +kernel)]; kernel_rfl) | (rw [if_neg (by decide +kernel)]; exact ⟨rfl, rfl⟩))
    (fun os started H enc _ => lifted os started H enc)

theorem proved : Rows.FrameBackCardSaid :=
  Claim7.holds_tied_plain_at .later [] [.handle, .sentinel, .sentinel, .sentinel, .sentinel, .sentinel] true (true, "6cda7300b51618dea6a1b3e9141af95fe1074587f5da65d640e1e82977b992fe") true
    over (fun _ h => by cases h) (by kernel_rfl) (fun _ h => by cases h) frameBack_row_tie rfl ⟨rfl, rfl⟩ (by kernel_rfl) rfl
    (fun f fn hf hfn => by
      obtain rfl : f = 4 := Option.some.inj ((show Tryd.prog.funcNamed "drumline/drumlinelaw4.FrameBack" = some 4 by kernel_rfl).symm.trans hf) |>.symm
      obtain rfl : fn = Tryd.f4 := (Option.some.inj (Tryd.func4.symm.trans hfn)).symm
      exact ⟨by kernel_rfl, fun j t ht => by
        rw [Tryd.params4] at ht
        have hm : t ∈ [25] := by simpa using Array.mem_of_getElem? ht
        have hall : ([25].all fun u => !Tryd.prog.wantsStandIn u) = true := by kernel_rfl
        exact (show Tryd.prog.wantsStandIn t = false by simpa using List.all_eq_true.1 hall t hm)⟩)
    (by kernel_rfl)
#print axioms proved
end Go.Proofs.YtliejllegabdnaaDoor.frameBack
