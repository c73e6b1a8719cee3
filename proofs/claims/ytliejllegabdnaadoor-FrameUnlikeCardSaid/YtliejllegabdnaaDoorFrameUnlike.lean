/- For every two frames f and g the law FrameUnlike returns true: frames that may be have the same bytes just where they are the same. The package's error variables are as the program's text lays them; no condition beyond the statement's own. -/
import Derived.Test.YtliejllegabdnaaDoorRows
import Derived.WalkKit
import Derived.ProofKit
import Derived.OpenShut
import Derived.Test.YtliejllegabdnaaDoorFrMayR
import Derived.Test.YtliejllegabdnaaDoorFrAlive
import Derived.Test.YtliejllegabdnaaDoorFrSmall
import Derived.Test.YtliejllegabdnaaDoorFrArgs
import Derived.ShutString
import Derived.ChangeOld
import Derived.Below
import Derived.Test.YtliejllegabdnaaDoorCards
import Derived.Test.YtliejllegabdnaaDoorTie
import Derived.SevenTiedAt
import Derived.Test.YtliejllegabdnaaDoorFrLaid
namespace Go.Proofs.YtliejllegabdnaaDoor.frameUnlike
open Go.ChangeShapes Go.WideShapes Go.ChangeAt Go.RowKit
open Go.ChangeMaps (open_string shut_string)
set_option linter.unusedVariables false

theorem own : ownKnob Tryd.prog.godebug = none := by kernel_rfl
theorem laidOut : laidOutB Tryd.prog = true := by kernel_rfl

set_option maxHeartbeats 4000000 in
set_option maxRecDepth 100000 in
theorem walk (v0 : Value) (x0 : Fr.Frame) (v1 : Value) (x1 : Fr.Frame) (S : Fr.Sn) (w : World) (w0 : Fr.FrV w w.heap.size v0 x0) (w1 : Fr.FrV w w.heap.size v1 x1) (hS : Fr.Sents w w.heap.size S) :
    Calls Tryd.prog 7 #[v0, v1] w fun e w' => e = .returned (.bool true) ∧ Below w.heap.size w w' := by
  obtain ⟨a, n, c, a', n', c', ev0, _⟩ := id w0
  obtain ⟨b, m, d, b', m', d', ev1, _⟩ := id w1
  subst ev0 ev1
  refine Ev.enter (N := 56) Tryd.func7 rfl rfl (Nat.le_of_ble_eq_true rfl) fun act I0 => ?_
  refine Ev.seq_q I0 (by kernel_rfl) (by kernel_rfl) (by kernel_rfl) fun ρ1 a1 W1 I1 hb1 => ?_
  have HB2 : Below w.heap.size w W1 := hb1
  have F0_3 := w0.later hb1
  have F1_4 := w1.later hb1
  have hS_5 := hS.later hb1
  refine Ev.seq_row ?_
  refine Ev.row_q 1 I1 (by kernel_rfl) (by kernel_rfl) (by kernel_rfl) fun ρ6 a6 W6 I6 hb6 => ?_
  have HB7 := HB2.trans (hb6.mono HB2.size)
  have F0_8 := F0_3.later hb6
  have F1_9 := F1_4.later hb6
  have hS_10 := hS_5.later hb6
  simp only [List.drop_succ_cons, List.drop_zero]
  refine Ev.call_ok (l := [.func 10, .tmp 10]) (A := []) (f := 10) (args := #[.agg (Fr.cells x0 (.slice a n c) (.slice a' n' c')).toArray]) (R := fun v w' => ∃ q r, v = .tuple #[.slice q (Fr.bytesOf x0).length r, .int .i64 (if Fr.mayB x0 = true then 0 else 1)] ∧ Sm.Row8 w' w'.heap.size q (Fr.bytesOf x0).length r (Fr.bytesOf x0) ∧ Below W6.heap.size W6 w') I6 (by kernel_rfl) (by kernel_rfl) (by kernel_rfl) rfl (by kernel_rfl) (fun u => (by kernel_rfl)) ?_ (fun v w' h => by obtain ⟨_, _, _, _, h⟩ := h; exact h) ?_
  · refine (Fr.encode_calls x0 _ _ S _ F0_8 (Nat.le_refl _) hS_10).mono ?_
    rintro e w' ⟨q, r, rfl, h1, h2⟩; exact ⟨_, rfl, q, r, rfl, h1, h2⟩
  rintro v a11 W11 ⟨qx0, rx0, rfl, hrx0, hb11⟩ I11
  have HB12 := HB7.trans (hb11.mono HB7.size)
  have F0_13 := F0_8.later hb11
  have F1_14 := F1_9.later hb11
  have hS_15 := hS_10.later hb11
  refine Ev.row_q 5 I11 (by kernel_rfl) (by kernel_rfl) (by kernel_rfl) fun ρ16 a16 W16 I16 hb16 => ?_
  have HB17 := HB12.trans (hb16.mono HB12.size)
  have F0_18 := F0_13.later hb16
  have F1_19 := F1_14.later hb16
  have hS_20 := hS_15.later hb16
  have Rx0_21 := hrx0.later hb16
  show Code.wp _ _ _ _ _
  refine Ev.seq_row ?_
  refine Ev.row_q 1 I16 (by kernel_rfl) (by kernel_rfl) (by kernel_rfl) fun ρ22 a22 W22 I22 hb22 => ?_
  have HB23 := HB17.trans (hb22.mono HB17.size)
  have F0_24 := F0_18.later hb22
  have F1_25 := F1_19.later hb22
  have hS_26 := hS_20.later hb22
  have Rx0_27 := Rx0_21.later hb22
  simp only [List.drop_succ_cons, List.drop_zero]
  refine Ev.call_ok (l := [.func 10, .tmp 15]) (A := []) (f := 10) (args := #[.agg (Fr.cells x1 (.slice b m d) (.slice b' m' d')).toArray]) (R := fun v w' => ∃ q r, v = .tuple #[.slice q (Fr.bytesOf x1).length r, .int .i64 (if Fr.mayB x1 = true then 0 else 1)] ∧ Sm.Row8 w' w'.heap.size q (Fr.bytesOf x1).length r (Fr.bytesOf x1) ∧ Below W22.heap.size W22 w') I22 (by kernel_rfl) (by kernel_rfl) (by kernel_rfl) rfl (by kernel_rfl) (fun u => (by kernel_rfl)) ?_ (fun v w' h => by obtain ⟨_, _, _, _, h⟩ := h; exact h) ?_
  · refine (Fr.encode_calls x1 _ _ S _ F1_25 (Nat.le_refl _) hS_26).mono ?_
    rintro e w' ⟨q, r, rfl, h1, h2⟩; exact ⟨_, rfl, q, r, rfl, h1, h2⟩
  rintro v a28 W28 ⟨qx1, rx1, rfl, hrx1, hb28⟩ I28
  have HB29 := HB23.trans (hb28.mono HB23.size)
  have F0_30 := F0_24.later hb28
  have F1_31 := F1_25.later hb28
  have hS_32 := hS_26.later hb28
  have Rx0_33 := Rx0_27.later hb28
  refine Ev.row_q 5 I28 (by kernel_rfl) (by kernel_rfl) (by kernel_rfl) fun ρ34 a34 W34 I34 hb34 => ?_
  have HB35 := HB29.trans (hb34.mono HB29.size)
  have F0_36 := F0_30.later hb34
  have F1_37 := F1_31.later hb34
  have hS_38 := hS_32.later hb34
  have Rx0_39 := Rx0_33.later hb34
  have Rx1_40 := hrx1.later hb34
  have J41 := I34.to [2, 3, 5, 6, 7, 8] (s2 := { tab := [⟨2, [], .p 0 0⟩, ⟨3, [], .p 1 0⟩, ⟨5, [], .v (.slice qx0 (Fr.bytesOf x0).length rx0)⟩, ⟨6, [], .v (.int .i64 (if Fr.mayB x0 = true then (0 : Int) else 1))⟩, ⟨7, [], .v (.slice qx1 (Fr.bytesOf x1).length rx1)⟩, ⟨8, [], .v (.int .i64 (if Fr.mayB x1 = true then (0 : Int) else 1))⟩], mem := [(25, (Fr.cells x0 (.slice a n c) (.slice a' n' c'))), (25, (Fr.cells x1 (.slice b m d) (.slice b' m' d')))] }) (by kernel_rfl)
  clear I34
  show Code.wp _ _ _ _ _
  refine wp_seq (wp_seq (wp_region_list ?_))
  refine Ev.gcall_ok (l := [.func 8]) (A := []) (f := 8) (args := #[]) (v := .bool true) J41 (by kernel_rfl) (by kernel_rfl) rfl (by kernel_rfl) (fun u => (by kernel_rfl)) (Fr.alive_calls S _ hS_38) fun a42 W42 hb42 I42 => ?_
  have HB43 := HB35.trans (hb42.mono HB35.size)
  have F0_44 := F0_36.later hb42
  have F1_45 := F1_37.later hb42
  have hS_46 := hS_38.later hb42
  have Rx0_47 := Rx0_39.later hb42
  have Rx1_48 := Rx1_40.later hb42
  refine Ev.row_q 3 I42 (by kernel_rfl) (by kernel_rfl) (by kernel_rfl) fun ρ49 a49 W49 I49 hb49 => ?_
  have HB50 := HB43.trans (hb49.mono HB43.size)
  have F0_51 := F0_44.later hb49
  have F1_52 := F1_45.later hb49
  have hS_53 := hS_46.later hb49
  have Rx0_54 := Rx0_47.later hb49
  have Rx1_55 := Rx1_48.later hb49
  simp only [List.drop_succ_cons, List.drop_zero]
  refine Ev.gcall_ok (l := [.func 9, .tmp 22]) (A := [(21, false)]) (f := 9) (args := #[.agg (Fr.cells x0 (.slice a n c) (.slice a' n' c')).toArray]) (v := .bool (decide (x0.ages.length ≤ 40 ∧ x0.body.length ≤ 100))) I49 (by kernel_rfl) (by kernel_rfl) rfl (by kernel_rfl) (fun u => (by kernel_rfl)) (Fr.small_calls x0 _ _ _ F0_51) fun a56 W56 hb56 I56 => ?_
  have HB57 := HB50.trans (hb56.mono HB50.size)
  have F0_58 := F0_51.later hb56
  have F1_59 := F1_52.later hb56
  have hS_60 := hS_53.later hb56
  have Rx0_61 := Rx0_54.later hb56
  have Rx1_62 := Rx1_55.later hb56
  refine Ev.row_q 4 I56 (by kernel_rfl) (by kernel_rfl) (by kernel_rfl) fun ρ63 a63 W63 I63 hb63 => ?_
  have HB64 := HB57.trans (hb63.mono HB57.size)
  have F0_65 := F0_58.later hb63
  have F1_66 := F1_59.later hb63
  have hS_67 := hS_60.later hb63
  have Rx0_68 := Rx0_61.later hb63
  have Rx1_69 := Rx1_62.later hb63
  simp only [List.drop_succ_cons, List.drop_zero]
  refine Ev.gcall_ok (l := [.func 9, .tmp 27]) (A := [(26, false)]) (f := 9) (args := #[.agg (Fr.cells x1 (.slice b m d) (.slice b' m' d')).toArray]) (v := .bool (decide (x1.ages.length ≤ 40 ∧ x1.body.length ≤ 100))) I63 (by kernel_rfl) (by kernel_rfl) rfl (by kernel_rfl) (fun u => (by kernel_rfl)) (Fr.small_calls x1 _ _ _ F1_66) fun a70 W70 hb70 I70 => ?_
  have HB71 := HB64.trans (hb70.mono HB64.size)
  have F0_72 := F0_65.later hb70
  have F1_73 := F1_66.later hb70
  have hS_74 := hS_67.later hb70
  have Rx0_75 := Rx0_68.later hb70
  have Rx1_76 := Rx1_69.later hb70
  refine Ev.row_q 10 I70 (by kernel_rfl) (by kernel_rfl) (by kernel_rfl) fun ρ77 a77 W77 I77 hb77 => ?_
  have HB78 := HB71.trans (hb77.mono HB71.size)
  have F0_79 := F0_72.later hb77
  have F1_80 := F1_73.later hb77
  have hS_81 := hS_74.later hb77
  have Rx0_82 := Rx0_75.later hb77
  have Rx1_83 := Rx1_76.later hb77
  have J84 := I77.to [2, 3, 5, 6, 7, 38] (s2 := { tab := [⟨2, [], .p 0 0⟩, ⟨3, [], .p 1 0⟩, ⟨5, [], .v (.slice qx0 (Fr.bytesOf x0).length rx0)⟩, ⟨6, [], .v (.int .i64 (if Fr.mayB x0 = true then (0 : Int) else 1))⟩, ⟨7, [], .v (.slice qx1 (Fr.bytesOf x1).length rx1)⟩, ⟨38, [], .v (.bool (!true || !(decide (x0.ages.length ≤ 40 ∧ x0.body.length ≤ 100)) || !(decide (x1.ages.length ≤ 40 ∧ x1.body.length ≤ 100)) || ((if Fr.mayB x0 = true then (0 : Int) else 1) != 0) || ((if Fr.mayB x1 = true then (0 : Int) else 1) != 0)))⟩], mem := [(25, (Fr.cells x0 (.slice a n c) (.slice a' n' c'))), (25, (Fr.cells x1 (.slice b m d) (.slice b' m' d')))] }) (by kernel_rfl)
  clear I77
  show (Code.cond _ _ _).wp _ _ _ _
  refine Ev.cond_ok J84 (z := (!true || !(decide (x0.ages.length ≤ 40 ∧ x0.body.length ≤ 100)) || !(decide (x1.ages.length ≤ 40 ∧ x1.body.length ≤ 100)) || ((if Fr.mayB x0 = true then (0 : Int) else 1) != 0) || ((if Fr.mayB x1 = true then (0 : Int) else 1) != 0))) (by kernel_rfl) (fun hz => ?_) (fun hz => ?_)
  · clear hz
    refine Ev.seq_row ?_
    refine Ev.gcall_ok (l := [.func 8]) (A := []) (f := 8) (args := #[]) (v := .bool true) J84 (by kernel_rfl) (by kernel_rfl) rfl (by kernel_rfl) (fun u => (by kernel_rfl)) (Fr.alive_calls S _ hS_81) fun a85 W85 hb85 I85 => ?_
    have HB86 := HB78.trans (hb85.mono HB78.size)
    have F0_87 := F0_79.later hb85
    have F1_88 := F1_80.later hb85
    have hS_89 := hS_81.later hb85
    have Rx0_90 := Rx0_82.later hb85
    have Rx1_91 := Rx1_83.later hb85
    refine Ev.row_q 4 I85 (by kernel_rfl) (by kernel_rfl) (by kernel_rfl) fun ρ92 a92 W92 I92 hb92 => ?_
    have HB93 := HB86.trans (hb92.mono HB86.size)
    have F0_94 := F0_87.later hb92
    have F1_95 := F1_88.later hb92
    have hS_96 := hS_89.later hb92
    have Rx0_97 := Rx0_90.later hb92
    have Rx1_98 := Rx1_91.later hb92
    simp only [List.drop_succ_cons, List.drop_zero]
    refine Ev.gcall_ok (l := [.func 13, .tmp 43]) (A := [(40, true)]) (f := 13) (args := #[.agg (Fr.cells x0 (.slice a n c) (.slice a' n' c')).toArray]) (v := .bool (Fr.mayB x0)) I92 (by kernel_rfl) (by kernel_rfl) rfl (by kernel_rfl) (fun u => (by kernel_rfl)) (Fr.mayR_calls x0 _ _ _ F0_94 (Nat.le_refl _)) fun a99 W99 hb99 I99 => ?_
    have HB100 := HB93.trans (hb99.mono HB93.size)
    have F0_101 := F0_94.later hb99
    have F1_102 := F1_95.later hb99
    have hS_103 := hS_96.later hb99
    have Rx0_104 := Rx0_97.later hb99
    have Rx1_105 := Rx1_98.later hb99
    refine Ev.row_q 3 I99 (by kernel_rfl) (by kernel_rfl) (by kernel_rfl) fun ρ106 a106 W106 I106 hb106 => ?_
    have HB107 := HB100.trans (hb106.mono HB100.size)
    have F0_108 := F0_101.later hb106
    have F1_109 := F1_102.later hb106
    have hS_110 := hS_103.later hb106
    have Rx0_111 := Rx0_104.later hb106
    have Rx1_112 := Rx1_105.later hb106
    show Code.ret.wp _ _ _ _
    refine wp_ret ?_
    simp only [Exit.then]
    refine Ev.ret1 I106 rfl (v := .bool (true && (((if Fr.mayB x0 = true then (0 : Int) else 1) == 0) == Fr.mayB x0))) (by kernel_rfl) ?_
    refine ⟨?_, HB107⟩
    cases Fr.mayB x0 <;> rfl
  refine wp_skip ?_
  simp only [Exit.then]
  have hm0 : Fr.mayB x0 = true := by cases h : Fr.mayB x0 with | true => rfl | false => simp [h] at hz
  have hm1 : Fr.mayB x1 = true := by cases h : Fr.mayB x1 with | true => rfl | false => simp [h] at hz
  clear hz
  have hX : (fun u => Sm.Row8 u W77.heap.size qx0 (Fr.bytesOf x0).length rx0 (Fr.bytesOf x0) ∧ Sm.Row8 u W77.heap.size qx1 (Fr.bytesOf x1).length rx1 (Fr.bytesOf x1)) W77.drew := ⟨Rx0_82.below ⟨rfl, rfl, rfl, Nat.le_refl _, fun _ _ => rfl⟩, Rx1_83.below ⟨rfl, rfl, rfl, Nat.le_refl _, fun _ _ => rfl⟩⟩
  refine wp_seq ?_
  refine Ev.held_begin (fun u => Sm.Row8 u W77.heap.size qx0 (Fr.bytesOf x0).length rx0 (Fr.bytesOf x0) ∧ Sm.Row8 u W77.heap.size qx1 (Fr.bytesOf x1).length rx1 (Fr.bytesOf x1)) [0] 9 hX J84 (by kernel_rfl) (by kernel_rfl) (fun _ _ d _ _ h => by cases d <;> exact h) (by kernel_rfl) (by kernel_rfl) (by kernel_rfl) (by kernel_rfl) fun a113 I113 => ?_
  have hd114 : Below W77.heap.size W77 W77.drew := ⟨rfl, rfl, rfl, Nat.le_refl _, fun _ _ => rfl⟩
  have HB115 := HB78.trans (hd114.mono HB78.size)
  have F0_116 := F0_79.later hd114
  have F1_117 := F1_80.later hd114
  have hS_118 := hS_81.later hd114
  have Rx0_119 := Rx0_82.later hd114
  have Rx1_120 := Rx1_83.later hd114
  refine Ev.held_conv (i := 1) (n := 8) (xv := .slice qx0 (Fr.bytesOf x0).length rx0) (v := .string (Sm.str (Fr.bytesOf x0))) hX I113 rfl (by kernel_rfl) (fun _ _ d _ _ h => by cases d <;> exact h) rfl (by kernel_rfl) (by kernel_rfl) (by kernel_rfl) rfl (by kernel_rfl) (fun u h => Sm.conv_str (P := Tryd.prog) h.1 Tryd.underlying23 Tryd.underlying5 Tryd.underlying9) fun a121 I121 => ?_
  refine Ev.held_more [2] (fuel := 7) hX I121 rfl (by kernel_rfl) (fun _ _ d _ _ h => by cases d <;> exact h) rfl (by kernel_rfl) (by kernel_rfl) (by kernel_rfl) fun a122 I122 => ?_
  refine Ev.held_conv (i := 3) (n := 6) (xv := .slice qx1 (Fr.bytesOf x1).length rx1) (v := .string (Sm.str (Fr.bytesOf x1))) hX I122 rfl (by kernel_rfl) (fun _ _ d _ _ h => by cases d <;> exact h) rfl (by kernel_rfl) (by kernel_rfl) (by kernel_rfl) rfl (by kernel_rfl) (fun u h => Sm.conv_str (P := Tryd.prog) h.2 Tryd.underlying23 Tryd.underlying5 Tryd.underlying9) fun a123 I123 => ?_
  refine Ev.held_more [4, 5, 6] (fuel := 3) hX I123 rfl (by kernel_rfl) (fun _ _ d _ _ h => by cases d <;> exact h) rfl (by kernel_rfl) (by kernel_rfl) (by kernel_rfl) fun a124 I124 => ?_
  refine Ev.held_call (i := 7) (n := 2) (l := [.func 16, .tmp 52, .tmp 53]) (A := []) (f := 16) (args := #[.agg (Fr.cells x0 (.slice a n c) (.slice a' n' c')).toArray, .agg (Fr.cells x1 (.slice b m d) (.slice b' m' d')).toArray]) (R := fun v w' => v = .bool (decide (x0 = x1)) ∧ Below W77.drew.heap.size W77.drew w') I124 rfl rfl (by kernel_rfl) (by kernel_rfl) (by kernel_rfl) (by kernel_rfl) rfl (by kernel_rfl) (fun u => (by kernel_rfl)) ?_ (fun v w' h => h.2) (fun v w' h => ⟨hX.1.below h.2, hX.2.below h.2⟩) ?_
  · refine (Fr.sameR_calls _ _ x0 x1 _ _ _ F0_116 F1_117 (Nat.le_refl _) (Nat.le_refl _)).mono ?_
    rintro e w' ⟨rfl, h⟩; exact ⟨_, rfl, rfl, h⟩
  rintro v a125 W125 ⟨rfl, hb125⟩ I125
  have HB126 := HB115.trans (hb125.mono HB115.size)
  have F0_127 := F0_116.later hb125
  have F1_128 := F1_117.later hb125
  have hS_129 := hS_118.later hb125
  have Rx0_130 := Rx0_119.later hb125
  have Rx1_131 := Rx1_120.later hb125
  have hX2 : (fun u => Sm.Row8 u W77.heap.size qx0 (Fr.bytesOf x0).length rx0 (Fr.bytesOf x0) ∧ Sm.Row8 u W77.heap.size qx1 (Fr.bytesOf x1).length rx1 (Fr.bytesOf x1)) W125 := ⟨hX.1.below hb125, hX.2.below hb125⟩
  refine Ev.held_more [8, 9] (fuel := 0) hX2 I125 rfl (by kernel_rfl) (fun _ _ d _ _ h => by cases d <;> exact h) rfl (by kernel_rfl) (by kernel_rfl) (by kernel_rfl) fun a132 I132 => ?_
  refine Ev.held_done (by kernel_rfl) ?_
  show Code.ret.wp _ _ _ _
  refine wp_ret ?_
  refine Ev.ret1 I132 rfl (v := .bool (((Sm.str (Fr.bytesOf x0)).toList == (Sm.str (Fr.bytesOf x1)).toList) == decide (x0 = x1))) (by kernel_rfl) ?_
  refine ⟨?_, HB126⟩
  rw [Sm.str_eq]
  have he : Fr.bytesOf x0 = Fr.bytesOf x1 ↔ x0 = x1 := by
    unfold Fr.bytesOf
    rw [hm0, hm1, if_pos rfl, if_pos rfl]
    constructor
    · intro h
      have h1 := congrArg (fun l => l.take (l.length - 4)) h
      simp only [Fr.sealB_take] at h1
      exact (Fr.enc_inj hm0 hm1).1 h1
    · rintro rfl; rfl
  congr 2
  by_cases h : x0 = x1
  · rw [decide_eq_true (he.2 h), decide_eq_true h]; rfl
  · rw [decide_eq_false fun h' => h (he.1 h'), decide_eq_false h]; rfl

/-! ### THE ROW's STEP -/
set_option maxRecDepth 100000 in
theorem lifted (os : Os) (started : os.Started) (H : Type) (enc : TypeId × Value → H) :
    ReturnsInHanded {} Tryd.checked os 7 .any (fun w args => (Rows.frameUnlikeSpec.pre enc Tryd.prog Tryd.f7 Rows.frameUnlikeRow.domain false w args ∧ laidMetH Tryd.prog Fr.laidL w) ∧ sizedMet enc Tryd.prog Tryd.f7 (OpenSpec.ofChange Rows.frameUnlikeSpec) false w args)
      (Rows.frameUnlikeSpec.post enc Tryd.prog Tryd.f7 false true false false) := by
  refine returnsInHanded_of_change_and (C := Tryd.checked) (X := fun w _ => laidMetH Tryd.prog Fr.laidL w) (fun _ _ _ hh h => h.of_heap hh) own started (by kernel_rfl) Tryd.func7
    (ChangeSpec.witness_shaped (enc := enc) (C := Tryd.checked) (os := os) (X := fun w _ => laidMetH Tryd.prog Fr.laidL w) false (World.doorLaid Tryd.prog 400 os) #[.agg #[.int .i64 0, .int .i64 0, .int .i64 0, .int .i64 0, .int .i64 0, .int .i64 0, .bool false, .int .i64 0, .int .i64 0, .slice none 0 0, .int .i64 0, .int .i64 0, .int .i64 0, .slice none 0 0], .agg #[.int .i64 0, .int .i64 0, .int .i64 0, .int .i64 0, .int .i64 0, .int .i64 0, .bool false, .int .i64 0, .int .i64 0, .slice none 0 0, .int .i64 0, .int .i64 0, .int .i64 0, .slice none 0 0]] 8 rfl (Fr.laid_shaped os _) (by kernel_rfl) (by kernel_rfl) (by kernel_rfl) (Fr.laid_met os _)) ?_
  intro W base args ds gs before hval0 hW _ _ hL _
  have hval : ∀ (j : Nat) t v, Tryd.f7.params[j]? = some t → args[j]? = some v → Value.okWide Tryd.prog W .any base t v := hval0
  have hW' := hW
  obtain ⟨p, q, hA0, hV, rfl, hfz, hnd⟩ := hW
  obtain ⟨S, hS⟩ := Fr.sents_of_laid hL
  have hA : DataW.TrodAll enc Tryd.prog W 0 (fun _ => true) true Tryd.f7.params.toList args.toList ds p := hA0
  rw [Tryd.params7] at hA hval
  obtain ⟨v0, vs0, d0, ds0, p0, q0, hargs, rfl, rfl, h0, r0⟩ := trodAll_cons hA
  obtain ⟨v1, vs1, d1, ds1, p1, q1, rfl, rfl, rfl, h1, r1⟩ := trodAll_cons r0
  obtain ⟨rfl, rfl, rfl⟩ := trodAll_nil r1
  obtain rfl : args = #[v0, v1] := by cases args; simp_all
  obtain ⟨rfl, rfl⟩ := trodVars_none hV
  have k0 := h0
  have lt0 : ∀ x ∈ p0, x.block < W.heap.size := by obtain ⟨m, hm⟩ := k0; exact DataW.trod_lt m _ _ _ hm
  obtain ⟨x0, w0⟩ := Fr.frame_of_trod (hval 0 25 v0 rfl rfl) h0
  have k1 := h1
  have lt1 : ∀ x ∈ p1, x.block < W.heap.size := by obtain ⟨m, hm⟩ := k1; exact DataW.trod_lt m _ _ _ hm
  obtain ⟨x1, w1⟩ := Fr.frame_of_trod (hval 1 25 v1 rfl rfl) h1
  clear hA0 hval0
  refine (walk v0 x0 v1 x1 S W w0 w1 hS).mono fun e W' ⟨he, bel⟩ => ?_
  subst he
  exact ⟨_, rfl, _, _, _, [], _, [], hW', trodAll_mk1 (shut_bool Tryd.underlying4 _), (trodAll_cons_mk (Below.trod laidOut (by kernel_rfl) (of_decide_eq_true (by kernel_rfl)) k0 bel lt0) (trodAll_cons_mk (Below.trod laidOut (by kernel_rfl) (of_decide_eq_true (by kernel_rfl)) k1 bel lt1) trodAll_mk0)), rfl, bel.frame _, fun h => by cases h⟩

theorem over : Rows.frameUnlikeRow.holds Tryd.pinned (OpenSpec.ofChange Rows.frameUnlikeSpec) :=
  OpenClaim.holds_of_wide 7 Tryd.f7 rfl rfl rfl rfl rfl rfl rfl ⟨rfl, rfl, rfl, rfl, rfl⟩ rfl rfl rfl rfl rfl (by kernel_rfl) Tryd.func7 (by kernel_rfl)
    (of_decide_eq_true (by kernel_rfl)) (by unfold Func.isWrapper; first | (rw [if_pos (by decide +kernel)]; kernel_rfl) | (rw [if_neg (by decide +kernel)]; exact ⟨rfl, rfl⟩))
    (fun os started H enc _ => lifted os started H enc)

theorem proved : Rows.FrameUnlikeCardSaid :=
  Claim7.holds_tied_plain_at .later [] [.handle, .sentinel, .sentinel, .sentinel, .sentinel, .sentinel] true (true, "6cda7300b51618dea6a1b3e9141af95fe1074587f5da65d640e1e82977b992fe") true
    over (fun _ h => by cases h) (by kernel_rfl) (fun _ h => by cases h) frameUnlike_row_tie rfl ⟨rfl, rfl⟩ (by kernel_rfl) rfl
    (fun f fn hf hfn => by
      obtain rfl : f = 7 := Option.some.inj ((show Tryd.prog.funcNamed "drumline/drumlinelaw4.FrameUnlike" = some 7 by kernel_rfl).symm.trans hf) |>.symm
      obtain rfl : fn = Tryd.f7 := (Option.some.inj (Tryd.func7.symm.trans hfn)).symm
      exact ⟨by kernel_rfl, fun j t ht => by
        rw [Tryd.params7] at ht
        have hm : t ∈ [25] := by simpa using Array.mem_of_getElem? ht
        have hall : ([25].all fun u => !Tryd.prog.wantsStandIn u) = true := by kernel_rfl
        exact (show Tryd.prog.wantsStandIn t = false by simpa using List.all_eq_true.1 hall t hm)⟩)
    (by kernel_rfl)
#print axioms proved
end Go.Proofs.YtliejllegabdnaaDoor.frameUnlike
