/- For every row of bytes b the law FrameReads returns true: what b is, or what is wrong with it, and where, is as the document's own answer says. The package's error variables are as the program's text lays them; no condition beyond the statement's own. -/
import Derived.Test.YtdhgchkhnhjkbaaGreatDoorRows
import Derived.WalkKit
import Derived.ProofKit
import Derived.OpenShut
import Derived.Test.YtdhgchkhnhjkbaaGreatDoorFrQ
import Derived.Test.YtdhgchkhnhjkbaaGreatDoorFrAlive
import Derived.Test.YtdhgchkhnhjkbaaGreatDoorFrArgs
import Derived.Test.YtdhgchkhnhjkbaaGreatDoorFrNumL
import Derived.Test.YtdhgchkhnhjkbaaGreatDoorFrSameR
import Derived.Test.YtdhgchkhnhjkbaaGreatDoorSmA
import Derived.ShutString
import Derived.ChangeOld
import Derived.Below
import Derived.Test.YtdhgchkhnhjkbaaGreatDoorCards
import Derived.Test.YtdhgchkhnhjkbaaGreatDoorTie
import Derived.SevenTiedAt
import Derived.Test.YtdhgchkhnhjkbaaGreatDoorFrLaid
namespace Go.Proofs.YtdhgchkhnhjkbaaGreatDoor.frameReads
open Go.ChangeShapes Go.WideShapes Go.ChangeAt Go.RowKit
open Go.ChangeMaps (open_string shut_string)
set_option linter.unusedVariables false

theorem own : ownKnob Tryz.prog.godebug = none := by kernel_rfl
theorem laidOut : laidOutB Tryz.prog = true := by kernel_rfl

set_option maxHeartbeats 4000000 in
set_option maxRecDepth 100000 in
theorem walk (a0 : Option Addr) (len0 cap0 : Nat) (x0 : List UInt8) (S : Fr.Sn) (w : World) (w0 : Sm.Row8 w w.heap.size a0 len0 cap0 x0) (hS : Fr.Sents w w.heap.size S) :
    Calls Tryz.prog 3 #[.slice a0 len0 cap0] w fun e w' => e = .returned (.bool true) ∧ Below w.heap.size w w' := by
  obtain ⟨res, hres⟩ : ∃ res, Fr.decX x0 = res := ⟨_, rfl⟩
  refine Ev.enter (N := 59) Tryz.func3 rfl rfl (Nat.le_of_ble_eq_true rfl) fun act I0 => ?_
  refine Ev.seq_q I0 (by kernel_rfl) (by kernel_rfl) (by kernel_rfl) fun ρ1 ac1 W1 I1 hb1 => ?_
  have HB2 : Below w.heap.size w W1 := hb1
  have M_3 := w0.later hb1
  have hS_4 := hS.later hb1
  refine wp_seq (wp_seq (wp_region_list ?_))
  refine Ev.gcall_ok (l := [.func 5]) (A := []) (f := 5) (args := #[]) (v := .bool true) I1 (by kernel_rfl) (by kernel_rfl) rfl (by kernel_rfl) (fun u => (by kernel_rfl)) (Fr.alive_calls S _ hS_4) fun ac5 W5 hb5 I5 => ?_
  have HB6 := HB2.trans (hb5.mono HB2.size)
  have M_7 := M_3.later hb5
  have hS_8 := hS_4.later hb5
  refine Ev.row_v 6 I5 (by kernel_rfl) (by kernel_rfl) fun ac9 I9 => ?_
  have J10 := I9.to [0, 17] (s2 := { tab := [⟨0, [], .v (.slice a0 len0 cap0)⟩, ⟨17, [], .v (.bool (!true || decide ((len0 : Int) > 300)))⟩], mem := [] }) (by kernel_rfl)
  clear I9
  show (Code.cond _ _ _).wp _ _ _ _
  refine Ev.cond_ok J10 (z := (!true || decide ((len0 : Int) > 300))) (by kernel_rfl) (fun hz => ?_) (fun hz => ?_)
  · clear hz
    refine Ev.seq_row ?_
    refine Ev.gcall_ok (l := [.func 5]) (A := []) (f := 5) (args := #[]) (v := .bool true) J10 (by kernel_rfl) (by kernel_rfl) rfl (by kernel_rfl) (fun u => (by kernel_rfl)) (Fr.alive_calls S _ hS_8) fun ac11 W11 hb11 I11 => ?_
    have HB12 := HB6.trans (hb11.mono HB6.size)
    have M_13 := M_7.later hb11
    have hS_14 := hS_8.later hb11
    refine Ev.row_v 1 I11 (by kernel_rfl) (by kernel_rfl) fun ac15 I15 => ?_
    show Code.ret.wp _ _ _ _
    refine wp_ret ?_
    simp only [Exit.then]
    refine Ev.ret1 I15 rfl (v := .bool true) (by kernel_rfl) ?_
    exact ⟨rfl, HB12⟩
  refine wp_skip ?_
  simp only [Exit.then]
  have hl : len0 ≤ 1000000 := by simp at hz; omega
  clear hz
  refine Ev.seq_row ?_
  refine Ev.row_v 1 J10 (by kernel_rfl) (by kernel_rfl) fun ac16 I16 => ?_
  simp only [List.drop_succ_cons, List.drop_zero]
  refine Ev.call_ok (l := [.func 6, .tmp 20]) (A := []) (f := 6) (args := #[.slice a0 len0 cap0]) (R := fun v w' => ∃ b1d b2d b3d b4d b5d b6d, v = .tuple #[.agg (Fr.cells (Fr.frOf res) (.slice b1d b2d b3d) (.slice b4d b5d b6d)).toArray, .int .i64 (Fr.noOf (Fr.errOf res))] ∧ Fr.FrV w' w'.heap.size (.agg (Fr.cells (Fr.frOf res) (.slice b1d b2d b3d) (.slice b4d b5d b6d)).toArray) (Fr.frOf res) ∧ Below W5.heap.size W5 w') I16 (by kernel_rfl) (by kernel_rfl) (by kernel_rfl) rfl (by kernel_rfl) (fun u => (by kernel_rfl)) ?_ (fun v w' h => by obtain ⟨_, _, _, _, _, _, _, _, h⟩ := h; exact h) ?_
  · refine (Fr.decode_calls _ _ _ S x0 _ M_7 hS_8 hl).mono ?_
    rw [hres]; rintro e w' ⟨cs, rfl, h1, h2⟩; obtain ⟨y1, y2, y3, y4, y5, y6, ecs, _⟩ := id h1; injection ecs with ecs; rw [ecs] at h1; exact ⟨_, rfl, y1, y2, y3, y4, y5, y6, by rw [ecs], h1, h2⟩
  rintro v ac17 W17 ⟨b1d, b2d, b3d, b4d, b5d, b6d, rfl, hfd, hb17⟩ I17
  have HB18 := HB6.trans (hb17.mono HB6.size)
  have M_19 := M_7.later hb17
  have hS_20 := hS_8.later hb17
  refine Ev.row_q 6 I17 (by kernel_rfl) (by kernel_rfl) (by kernel_rfl) fun ρ21 ac21 W21 I21 hb21 => ?_
  have HB22 := HB18.trans (hb21.mono HB18.size)
  have M_23 := M_19.later hb21
  have hS_24 := hS_20.later hb21
  have Dd_25 := hfd.later hb21
  show Code.wp _ _ _ _ _
  have J26 := I21.to [0, 3, 4] (s2 := { tab := [⟨0, [], .v (.slice a0 len0 cap0)⟩, ⟨3, [], .p 0 0⟩, ⟨4, [], .v (.int .i64 (Fr.noOf (Fr.errOf res)))⟩], mem := [(26, (Fr.cells (Fr.frOf res) (.slice b1d b2d b3d) (.slice b4d b5d b6d)))] }) (by kernel_rfl)
  clear I21
  refine Ev.seq_row ?_
  refine Ev.row_v 1 J26 (by kernel_rfl) (by kernel_rfl) fun ac27 I27 => ?_
  simp only [List.drop_succ_cons, List.drop_zero]
  refine Ev.call_ok (l := [.func 7, .tmp 25]) (A := []) (f := 7) (args := #[.slice a0 len0 cap0]) (R := fun v w' => ∃ b1e b2e b3e b4e b5e b6e, v = .tuple #[.agg (Fr.cells (Fr.frOf res) (.slice b1e b2e b3e) (.slice b4e b5e b6e)).toArray, .int .i64 (Fr.noOf (Fr.errOf res))] ∧ Fr.FrV w' w'.heap.size (.agg (Fr.cells (Fr.frOf res) (.slice b1e b2e b3e) (.slice b4e b5e b6e)).toArray) (Fr.frOf res) ∧ Below W21.heap.size W21 w') I27 (by kernel_rfl) (by kernel_rfl) (by kernel_rfl) rfl (by kernel_rfl) (fun u => (by kernel_rfl)) ?_ (fun v w' h => by obtain ⟨_, _, _, _, _, _, _, _, h⟩ := h; exact h) ?_
  · refine (Fr.decodeR_calls _ _ _ x0 _ M_23  hl).mono ?_
    rw [hres]; rintro e w' ⟨cs, rfl, h1, h2⟩; obtain ⟨y1, y2, y3, y4, y5, y6, ecs, _⟩ := id h1; injection ecs with ecs; rw [ecs] at h1; exact ⟨_, rfl, y1, y2, y3, y4, y5, y6, by rw [ecs], h1, h2⟩
  rintro v ac28 W28 ⟨b1e, b2e, b3e, b4e, b5e, b6e, rfl, hfe, hb28⟩ I28
  have HB29 := HB22.trans (hb28.mono HB22.size)
  have M_30 := M_23.later hb28
  have hS_31 := hS_24.later hb28
  have Dd_32 := Dd_25.later hb28
  refine Ev.row_q 6 I28 (by kernel_rfl) (by kernel_rfl) (by kernel_rfl) fun ρ33 ac33 W33 I33 hb33 => ?_
  have HB34 := HB29.trans (hb33.mono HB29.size)
  have M_35 := M_30.later hb33
  have hS_36 := hS_31.later hb33
  have Dd_37 := Dd_32.later hb33
  have De_38 := hfe.later hb33
  show Code.wp _ _ _ _ _
  have J39 := I33.to [0, 3, 4, 5, 6] (s2 := { tab := [⟨0, [], .v (.slice a0 len0 cap0)⟩, ⟨3, [], .p 0 0⟩, ⟨4, [], .v (.int .i64 (Fr.noOf (Fr.errOf res)))⟩, ⟨5, [], .p 1 0⟩, ⟨6, [], .v (.int .i64 (Fr.noOf (Fr.errOf res)))⟩], mem := [(26, (Fr.cells (Fr.frOf res) (.slice b1d b2d b3d) (.slice b4d b5d b6d))), (26, (Fr.cells (Fr.frOf res) (.slice b1e b2e b3e) (.slice b4e b5e b6e)))] }) (by kernel_rfl)
  clear I33
  refine Ev.seq_row ?_
  refine Ev.row_v 1 J39 (by kernel_rfl) (by kernel_rfl) fun ac40 I40 => ?_
  simp only [List.drop_succ_cons, List.drop_zero]
  refine Ev.gcall_ok (l := [.func 8, .tmp 30]) (A := []) (f := 8) (args := #[.slice a0 len0 cap0]) (v := .tuple #[.int .i64 (Fr.noOf (Fr.errOf res)), .int .i64 ((Fr.atOf (Fr.errOf res) : Nat) : Int)]) I40 (by kernel_rfl) (by kernel_rfl) rfl (by kernel_rfl) (fun u => (by kernel_rfl)) (by rw [← hres]; exact Fr.why_calls _ _ _ S x0 _ M_35 hS_36 hl) fun ac41 W41 hb41 I41 => ?_
  have HB42 := HB34.trans (hb41.mono HB34.size)
  have M_43 := M_35.later hb41
  have hS_44 := hS_36.later hb41
  have Dd_45 := Dd_37.later hb41
  have De_46 := De_38.later hb41
  refine Ev.row_v 5 I41 (by kernel_rfl) (by kernel_rfl) fun ac47 I47 => ?_
  show Code.wp _ _ _ _ _
  refine Ev.seq_row ?_
  refine Ev.row_v 1 I47 (by kernel_rfl) (by kernel_rfl) fun ac48 I48 => ?_
  simp only [List.drop_succ_cons, List.drop_zero]
  refine Ev.gcall_ok (l := [.func 9, .tmp 35]) (A := []) (f := 9) (args := #[.slice a0 len0 cap0]) (v := .tuple #[.int .i64 (Fr.noOf (Fr.errOf res)), .int .i64 ((Fr.atOf (Fr.errOf res) : Nat) : Int)]) I48 (by kernel_rfl) (by kernel_rfl) rfl (by kernel_rfl) (fun u => (by kernel_rfl)) (by rw [← hres]; exact Fr.whyR_calls _ _ _ x0 _ M_43 hl) fun ac49 W49 hb49 I49 => ?_
  have HB50 := HB42.trans (hb49.mono HB42.size)
  have M_51 := M_43.later hb49
  have hS_52 := hS_44.later hb49
  have Dd_53 := Dd_45.later hb49
  have De_54 := De_46.later hb49
  refine Ev.row_v 5 I49 (by kernel_rfl) (by kernel_rfl) fun ac55 I55 => ?_
  show Code.wp _ _ _ _ _
  refine Ev.seq_row ?_
  refine Ev.row_v 2 I55 (by kernel_rfl) (by kernel_rfl) fun ac56 I56 => ?_
  simp only [List.drop_succ_cons, List.drop_zero]
  refine Ev.gcall_ok (l := [.func 10, .tmp 39, .tmp 40]) (A := []) (f := 10) (args := #[.agg (Fr.cells (Fr.frOf res) (.slice b1d b2d b3d) (.slice b4d b5d b6d)).toArray, .agg (Fr.cells (Fr.frOf res) (.slice b1e b2e b3e) (.slice b4e b5e b6e)).toArray]) (v := .bool (decide ((Fr.frOf res) = (Fr.frOf res)))) I56 (by kernel_rfl) (by kernel_rfl) rfl (by kernel_rfl) (fun u => (by kernel_rfl)) (Fr.sameR_calls _ _ (Fr.frOf res) (Fr.frOf res) _ _ _ Dd_53 De_54 (Nat.le_refl _) (Nat.le_refl _)) fun ac57 W57 hb57 I57 => ?_
  have HB58 := HB50.trans (hb57.mono HB50.size)
  have M_59 := M_51.later hb57
  have hS_60 := hS_52.later hb57
  have Dd_61 := Dd_53.later hb57
  have De_62 := De_54.later hb57
  refine Ev.row_v 2 I57 (by kernel_rfl) (by kernel_rfl) fun ac63 I63 => ?_
  simp only [List.drop_succ_cons, List.drop_zero]
  refine Ev.gcall_ok (l := [.func 11, .tmp 43]) (A := [(42, true)]) (f := 11) (args := #[.int .i64 (Fr.noOf (Fr.errOf res))]) (v := .int .i64 (Fr.noOf (Fr.errOf res))) I63 (by kernel_rfl) (by kernel_rfl) rfl (by kernel_rfl) (fun u => (by kernel_rfl)) (Fr.num_calls _ _) fun ac64 W64 hb64 I64 => ?_
  have HB65 := HB58.trans (hb64.mono HB58.size)
  have M_66 := M_59.later hb64
  have hS_67 := hS_60.later hb64
  have Dd_68 := Dd_61.later hb64
  have De_69 := De_62.later hb64
  refine Ev.row_v 5 I64 (by kernel_rfl) (by kernel_rfl) fun ac70 I70 => ?_
  simp only [List.drop_succ_cons, List.drop_zero]
  refine Ev.gcall_ok (l := [.func 11, .tmp 49]) (A := [(48, true)]) (f := 11) (args := #[.int .i64 (Fr.noOf (Fr.errOf res))]) (v := .int .i64 (Fr.noOf (Fr.errOf res))) I70 (by kernel_rfl) (by kernel_rfl) rfl (by kernel_rfl) (fun u => (by kernel_rfl)) (Fr.num_calls _ _) fun ac71 W71 hb71 I71 => ?_
  have HB72 := HB65.trans (hb71.mono HB65.size)
  have M_73 := M_66.later hb71
  have hS_74 := hS_67.later hb71
  have Dd_75 := Dd_68.later hb71
  have De_76 := De_69.later hb71
  refine Ev.row_v 9 I71 (by kernel_rfl) (by kernel_rfl) fun ac77 I77 => ?_
  show Code.ret.wp _ _ _ _
  refine wp_ret ?_
  refine Ev.ret1 I77 rfl (v := .bool (decide ((Fr.frOf res) = (Fr.frOf res)) && ((Fr.noOf (Fr.errOf res)) == (Fr.noOf (Fr.errOf res))) && ((Fr.noOf (Fr.errOf res)) == (Fr.noOf (Fr.errOf res))) && (((Fr.atOf (Fr.errOf res) : Nat) : Int) == ((Fr.atOf (Fr.errOf res) : Nat) : Int)))) (by kernel_rfl) ?_
  refine ⟨?_, HB72⟩
  simp

/-! ### THE ROW's STEP -/
set_option maxRecDepth 100000 in
theorem lifted (os : Os) (started : os.Started) (H : Type) (enc : TypeId × Value → H) :
    ReturnsInHanded {} Tryz.checked os 3 .any (fun w args => (Rows.frameReadsSpec.pre enc Tryz.prog Tryz.f3 Rows.frameReadsRow.domain false w args ∧ laidMetH Tryz.prog Fr.laidL w) ∧ sizedMet enc Tryz.prog Tryz.f3 (OpenSpec.ofChange Rows.frameReadsSpec) false w args)
      (Rows.frameReadsSpec.post enc Tryz.prog Tryz.f3 false true false false) := by
  refine returnsInHanded_of_change_and (C := Tryz.checked) (X := fun w _ => laidMetH Tryz.prog Fr.laidL w) (fun _ _ _ hh h => h.of_heap hh) own started (by kernel_rfl) Tryz.func3
    (ChangeSpec.witness_shaped (enc := enc) (C := Tryz.checked) (os := os) (X := fun w _ => laidMetH Tryz.prog Fr.laidL w) false (World.doorLaid Tryz.prog 400 os) #[.slice none 0 0] 8 rfl (Fr.laid_shaped os _) (by kernel_rfl) (by kernel_rfl) (by kernel_rfl) (Fr.laid_met os _)) ?_
  intro W base args ds gs before hval0 hW _ _ hL _
  have hval : ∀ (j : Nat) t v, Tryz.f3.params[j]? = some t → args[j]? = some v → Value.okWide Tryz.prog W .any base t v := hval0
  have hW' := hW
  obtain ⟨p, q, hA0, hV, rfl, hfz, hnd⟩ := hW
  obtain ⟨S, hS⟩ := Fr.sents_of_laid hL
  have hA : DataW.TrodAll enc Tryz.prog W 0 (fun _ => true) true Tryz.f3.params.toList args.toList ds p := hA0
  rw [Tryz.params3] at hA hval
  obtain ⟨v0, vs0, d0, ds0, p0, q0, hargs, rfl, rfl, h0, r0⟩ := trodAll_cons hA
  obtain ⟨rfl, rfl, rfl⟩ := trodAll_nil r0
  obtain rfl : args = #[v0] := by cases args; simp_all
  obtain ⟨rfl, rfl⟩ := trodVars_none hV
  obtain ⟨a0, len0, cap0, rfl⟩ := okWide_slice Tryz.underlying22 (hval 0 22 v0 rfl rfl)
  have k0 := h0
  have lt0 : ∀ x ∈ p0, x.block < W.heap.size := by obtain ⟨m, hm⟩ := k0; exact DataW.trod_lt m _ _ _ hm
  obtain ⟨x0, w0⟩ := Sm.Row8.of_trod Tryz.underlying22 Tryz.underlying5 (by kernel_rfl) h0
  clear hA0 hval0
  refine (walk a0 len0 cap0 x0 S W w0 hS).mono fun e W' ⟨he, bel⟩ => ?_
  subst he
  exact ⟨_, rfl, _, _, _, [], _, [], hW', trodAll_mk1 (shut_bool Tryz.underlying4 _), (trodAll_cons_mk (Below.trod laidOut (by kernel_rfl) (of_decide_eq_true (by kernel_rfl)) k0 bel lt0) trodAll_mk0), rfl, bel.frame _, fun h => by cases h⟩

theorem over : Rows.frameReadsRow.holds Tryz.pinned (OpenSpec.ofChange Rows.frameReadsSpec) :=
  OpenClaim.holds_of_wide 3 Tryz.f3 rfl rfl rfl rfl rfl rfl rfl ⟨rfl, rfl, rfl, rfl, rfl⟩ rfl rfl rfl rfl rfl (by kernel_rfl) Tryz.func3 (by kernel_rfl)
    (of_decide_eq_true (by kernel_rfl)) (by unfold Func.isWrapper; first | (rw [if_pos (by decide +kernel)]; kernel_rfl) | (rw [if_neg (by decide +kernel)]; exact ⟨rfl, rfl⟩))
    (fun os started H enc _ => lifted os started H enc)

theorem proved : Rows.FrameReadsCardSaid :=
  Claim7.holds_tied_plain_at .later [] [.handle, .sentinel, .sentinel, .sentinel, .sentinel, .sentinel] true (true, "a342f1434b76ab051945d57519797fa830aac0ca3c0180b1394f607d2ee4aa50") true
    over (fun _ h => by cases h) (by kernel_rfl) (fun _ h => by cases h) frameReads_row_tie rfl ⟨rfl, rfl⟩ (by kernel_rfl) rfl
    (fun f fn hf hfn => by
      obtain rfl : f = 3 := Option.some.inj ((show Tryz.prog.funcNamed "drumline/drumlinelaw4.FrameReads" = some 3 by kernel_rfl).symm.trans hf) |>.symm
      obtain rfl : fn = Tryz.f3 := (Option.some.inj (Tryz.func3.symm.trans hfn)).symm
      exact ⟨by kernel_rfl, fun j t ht => by
        rw [Tryz.params3] at ht
        have hm : t ∈ [22] := by simpa using Array.mem_of_getElem? ht
        have hall : ([22].all fun u => !Tryz.prog.wantsStandIn u) = true := by kernel_rfl
        exact (show Tryz.prog.wantsStandIn t = false by simpa using List.all_eq_true.1 hall t hm)⟩)
    (by kernel_rfl)
#print axioms proved
end Go.Proofs.YtdhgchkhnhjkbaaGreatDoor.frameReads
