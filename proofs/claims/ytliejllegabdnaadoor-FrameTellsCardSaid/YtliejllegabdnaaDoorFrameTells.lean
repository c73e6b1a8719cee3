/- For every two frames f and g the law FrameTells returns true: whether f may be, its bytes, and whether f and g are the same are as the document's own answers say. The package's error variables are as the program's text lays them; no condition beyond the statement's own. -/
import Derived.Test.YtliejllegabdnaaDoorRows
import Derived.WalkKit
import Derived.ProofKit
import Derived.OpenShut
import Derived.Test.YtliejllegabdnaaDoorFrMayR
import Derived.Test.YtliejllegabdnaaDoorFrAlive
import Derived.Test.YtliejllegabdnaaDoorFrSmall
import Derived.Test.YtliejllegabdnaaDoorFrArgs
import Derived.Test.YtliejllegabdnaaDoorFrEncR
import Derived.Test.YtliejllegabdnaaDoorFrNumL
import Derived.Test.YtliejllegabdnaaDoorFrEnc
import Derived.Test.YtliejllegabdnaaDoorFrSame
import Derived.ShutString
import Derived.ChangeOld
import Derived.Below
import Derived.Test.YtliejllegabdnaaDoorCards
import Derived.Test.YtliejllegabdnaaDoorTie
import Derived.SevenTiedAt
import Derived.Test.YtliejllegabdnaaDoorFrLaid
namespace Go.Proofs.YtliejllegabdnaaDoor.frameTells
open Go.ChangeShapes Go.WideShapes Go.ChangeAt Go.RowKit
open Go.ChangeMaps (open_string shut_string)
set_option linter.unusedVariables false

theorem own : ownKnob Tryd.prog.godebug = none := by kernel_rfl
theorem laidOut : laidOutB Tryd.prog = true := by kernel_rfl

set_option maxHeartbeats 4000000 in
set_option maxRecDepth 100000 in
theorem walk (v0 : Value) (x0 : Fr.Frame) (v1 : Value) (x1 : Fr.Frame) (S : Fr.Sn) (w : World) (w0 : Fr.FrV w w.heap.size v0 x0) (w1 : Fr.FrV w w.heap.size v1 x1) (hS : Fr.Sents w w.heap.size S) :
    Calls Tryd.prog 3 #[v0, v1] w fun e w' => e = .returned (.bool true) ∧ Below w.heap.size w w' := by
  obtain ⟨a, n, c, a', n', c', ev0, _⟩ := id w0
  obtain ⟨b, m, d, b', m', d', ev1, _⟩ := id w1
  subst ev0 ev1
  refine Ev.enter (N := 64) Tryd.func3 rfl rfl (Nat.le_of_ble_eq_true rfl) fun act I0 => ?_
  refine Ev.seq_q I0 (by kernel_rfl) (by kernel_rfl) (by kernel_rfl) fun ρ1 ac1 W1 I1 hb1 => ?_
  have HB2 : Below w.heap.size w W1 := hb1
  have F0_3 := w0.later hb1
  have F1_4 := w1.later hb1
  have hS_5 := hS.later hb1
  refine wp_seq (wp_seq (wp_region_list ?_))
  refine Ev.gcall_ok (l := [.func 8]) (A := []) (f := 8) (args := #[]) (v := .bool true) I1 (by kernel_rfl) (by kernel_rfl) rfl (by kernel_rfl) (fun u => (by kernel_rfl)) (Fr.alive_calls S _ hS_5) fun ac6 W6 hb6 I6 => ?_
  have HB7 := HB2.trans (hb6.mono HB2.size)
  have F0_8 := F0_3.later hb6
  have F1_9 := F1_4.later hb6
  have hS_10 := hS_5.later hb6
  refine Ev.row_v 3 I6 (by kernel_rfl) (by kernel_rfl) fun ac11 I11 => ?_
  simp only [List.drop_succ_cons, List.drop_zero]
  refine Ev.gcall_ok (l := [.func 9, .tmp 12]) (A := [(11, false)]) (f := 9) (args := #[.agg (Fr.cells x0 (.slice a n c) (.slice a' n' c')).toArray]) (v := .bool (decide (x0.ages.length ≤ 40 ∧ x0.body.length ≤ 100))) I11 (by kernel_rfl) (by kernel_rfl) rfl (by kernel_rfl) (fun u => (by kernel_rfl)) (Fr.small_calls x0 _ _ _ F0_8) fun ac12 W12 hb12 I12 => ?_
  have HB13 := HB7.trans (hb12.mono HB7.size)
  have F0_14 := F0_8.later hb12
  have F1_15 := F1_9.later hb12
  have hS_16 := hS_10.later hb12
  refine Ev.row_v 4 I12 (by kernel_rfl) (by kernel_rfl) fun ac17 I17 => ?_
  simp only [List.drop_succ_cons, List.drop_zero]
  refine Ev.gcall_ok (l := [.func 9, .tmp 17]) (A := [(16, false)]) (f := 9) (args := #[.agg (Fr.cells x1 (.slice b m d) (.slice b' m' d')).toArray]) (v := .bool (decide (x1.ages.length ≤ 40 ∧ x1.body.length ≤ 100))) I17 (by kernel_rfl) (by kernel_rfl) rfl (by kernel_rfl) (fun u => (by kernel_rfl)) (Fr.small_calls x1 _ _ _ F1_15) fun ac18 W18 hb18 I18 => ?_
  have HB19 := HB13.trans (hb18.mono HB13.size)
  have F0_20 := F0_14.later hb18
  have F1_21 := F1_15.later hb18
  have hS_22 := hS_16.later hb18
  refine Ev.row_v 2 I18 (by kernel_rfl) (by kernel_rfl) fun ac23 I23 => ?_
  have J24 := I23.to [2, 3, 20] (s2 := { tab := [⟨2, [], .p 0 0⟩, ⟨3, [], .p 1 0⟩, ⟨20, [], .v (.bool (!true || !(decide (x0.ages.length ≤ 40 ∧ x0.body.length ≤ 100)) || !(decide (x1.ages.length ≤ 40 ∧ x1.body.length ≤ 100))))⟩], mem := [(25, (Fr.cells x0 (.slice a n c) (.slice a' n' c'))), (25, (Fr.cells x1 (.slice b m d) (.slice b' m' d')))] }) (by kernel_rfl)
  clear I23
  show (Code.cond _ _ _).wp _ _ _ _
  refine Ev.cond_ok J24 (z := (!true || !(decide (x0.ages.length ≤ 40 ∧ x0.body.length ≤ 100)) || !(decide (x1.ages.length ≤ 40 ∧ x1.body.length ≤ 100)))) (by kernel_rfl) (fun hz => ?_) (fun hz => ?_)
  · clear hz
    refine Ev.seq_row ?_
    refine Ev.gcall_ok (l := [.func 8]) (A := []) (f := 8) (args := #[]) (v := .bool true) J24 (by kernel_rfl) (by kernel_rfl) rfl (by kernel_rfl) (fun u => (by kernel_rfl)) (Fr.alive_calls S _ hS_22) fun ac25 W25 hb25 I25 => ?_
    have HB26 := HB19.trans (hb25.mono HB19.size)
    have F0_27 := F0_20.later hb25
    have F1_28 := F1_21.later hb25
    have hS_29 := hS_22.later hb25
    refine Ev.row_v 1 I25 (by kernel_rfl) (by kernel_rfl) fun ac30 I30 => ?_
    show Code.ret.wp _ _ _ _
    refine wp_ret ?_
    simp only [Exit.then]
    refine Ev.ret1 I30 rfl (v := .bool true) (by kernel_rfl) ?_
    exact ⟨rfl, HB26⟩
  refine wp_skip ?_
  simp only [Exit.then]
  clear hz
  refine Ev.seq_row ?_
  refine Ev.row_v 1 J24 (by kernel_rfl) (by kernel_rfl) fun ac31 I31 => ?_
  simp only [List.drop_succ_cons, List.drop_zero]
  refine Ev.call_ok (l := [.func 10, .tmp 23]) (A := []) (f := 10) (args := #[.agg (Fr.cells x0 (.slice a n c) (.slice a' n' c')).toArray]) (R := fun v w' => ∃ q r, v = .tuple #[.slice q (Fr.bytesOf x0).length r, .int .i64 (if Fr.mayB x0 = true then 0 else 1)] ∧ Sm.Row8 w' w'.heap.size q (Fr.bytesOf x0).length r (Fr.bytesOf x0) ∧ Below W18.heap.size W18 w') I31 (by kernel_rfl) (by kernel_rfl) (by kernel_rfl) rfl (by kernel_rfl) (fun u => (by kernel_rfl)) ?_ (fun v w' h => by obtain ⟨_, _, _, _, h⟩ := h; exact h) ?_
  · refine (Fr.encode_calls x0 _ _ S _ F0_20 (Nat.le_refl _) hS_22).mono ?_
    rintro e w' ⟨q, r, rfl, h1, h2⟩; exact ⟨_, rfl, q, r, rfl, h1, h2⟩
  rintro v ac32 W32 ⟨qx0, rx0, rfl, hrx0, hb32⟩ I32
  have HB33 := HB19.trans (hb32.mono HB19.size)
  have F0_34 := F0_20.later hb32
  have F1_35 := F1_21.later hb32
  have hS_36 := hS_22.later hb32
  refine Ev.row_v 5 I32 (by kernel_rfl) (by kernel_rfl) fun ac37 I37 => ?_
  show Code.wp _ _ _ _ _
  refine Ev.seq_row ?_
  refine Ev.row_v 1 I37 (by kernel_rfl) (by kernel_rfl) fun ac38 I38 => ?_
  simp only [List.drop_succ_cons, List.drop_zero]
  refine Ev.call_ok (l := [.func 11, .tmp 28]) (A := []) (f := 11) (args := #[.agg (Fr.cells x0 (.slice a n c) (.slice a' n' c')).toArray]) (R := fun v w' => ∃ q r, v = .tuple #[.slice q (Fr.bytesOf x0).length r, .int .i64 (if Fr.mayB x0 = true then 0 else 1)] ∧ Sm.Row8 w' w'.heap.size q (Fr.bytesOf x0).length r (Fr.bytesOf x0) ∧ Below W32.heap.size W32 w') I38 (by kernel_rfl) (by kernel_rfl) (by kernel_rfl) rfl (by kernel_rfl) (fun u => (by kernel_rfl)) ?_ (fun v w' h => by obtain ⟨_, _, _, _, h⟩ := h; exact h) ?_
  · refine (Fr.encR_calls x0 _ _ _ F0_34 (Nat.le_refl _)).mono ?_
    rintro e w' ⟨q, r, rfl, h1, h2⟩; exact ⟨_, rfl, q, r, rfl, h1, h2⟩
  rintro v ac39 W39 ⟨qy, ry, rfl, hry, hb39⟩ I39
  have HB40 := HB33.trans (hb39.mono HB33.size)
  have F0_41 := F0_34.later hb39
  have F1_42 := F1_35.later hb39
  have hS_43 := hS_36.later hb39
  have Rx0_44 := hrx0.later hb39
  refine Ev.row_v 5 I39 (by kernel_rfl) (by kernel_rfl) fun ac45 I45 => ?_
  show Code.wp _ _ _ _ _
  have J46 := I45.to [2, 3, 5, 6, 7, 8] (s2 := { tab := [⟨2, [], .p 0 0⟩, ⟨3, [], .p 1 0⟩, ⟨5, [], .v (.slice qx0 (Fr.bytesOf x0).length rx0)⟩, ⟨6, [], .v (.int .i64 (if Fr.mayB x0 = true then (0 : Int) else 1))⟩, ⟨7, [], .v (.slice qy (Fr.bytesOf x0).length ry)⟩, ⟨8, [], .v (.int .i64 (if Fr.mayB x0 = true then (0 : Int) else 1))⟩], mem := [(25, (Fr.cells x0 (.slice a n c) (.slice a' n' c'))), (25, (Fr.cells x1 (.slice b m d) (.slice b' m' d')))] }) (by kernel_rfl)
  clear I45
  have hX0 : (fun u => Sm.Row8 u W39.heap.size qx0 (Fr.bytesOf x0).length rx0 (Fr.bytesOf x0) ∧ Sm.Row8 u W39.heap.size qy (Fr.bytesOf x0).length ry (Fr.bytesOf x0)) W39.drew := ⟨Rx0_44.below ⟨rfl, rfl, rfl, Nat.le_refl _, fun _ _ => rfl⟩, hry.below ⟨rfl, rfl, rfl, Nat.le_refl _, fun _ _ => rfl⟩⟩
  have hXl : ∀ u u' : World, W39.heap.size ≤ u.heap.size → Below u.heap.size u u' → (fun u => Sm.Row8 u W39.heap.size qx0 (Fr.bytesOf x0).length rx0 (Fr.bytesOf x0) ∧ Sm.Row8 u W39.heap.size qy (Fr.bytesOf x0).length ry (Fr.bytesOf x0)) u → (fun u => Sm.Row8 u W39.heap.size qx0 (Fr.bytesOf x0).length rx0 (Fr.bytesOf x0) ∧ Sm.Row8 u W39.heap.size qy (Fr.bytesOf x0).length ry (Fr.bytesOf x0)) u' := fun u u' hs hb h => ⟨h.1.below (hb.mono hs), h.2.below (hb.mono hs)⟩
  refine wp_seq ?_
  refine Ev.held_begin (fun u => Sm.Row8 u W39.heap.size qx0 (Fr.bytesOf x0).length rx0 (Fr.bytesOf x0) ∧ Sm.Row8 u W39.heap.size qy (Fr.bytesOf x0).length ry (Fr.bytesOf x0)) [0, 2] 31 hX0 J46 (by kernel_rfl) (by kernel_rfl) (fun _ _ d _ _ h => by cases d <;> exact h) (by kernel_rfl) (by kernel_rfl) (by kernel_rfl) (by kernel_rfl) fun ac47 I47 => ?_
  have hd48 : Below W39.heap.size W39 W39.drew := ⟨rfl, rfl, rfl, Nat.le_refl _, fun _ _ => rfl⟩
  have HB49 := HB40.trans (hd48.mono HB40.size)
  have F0_50 := F0_41.later hd48
  have F1_51 := F1_42.later hd48
  have hS_52 := hS_43.later hd48
  have hs0 : W39.heap.size ≤ W39.drew.heap.size := Nat.le_refl _
  refine Ev.held_gcall (i := 1) (n := 30) (l := [.func 12, .tmp 32]) (A := []) (f := 12) (args := #[.agg (Fr.cells x0 (.slice a n c) (.slice a' n' c')).toArray]) (v := .bool (Fr.mayB x0)) hX0 I47 (by kernel_rfl) rfl (by kernel_rfl) (by kernel_rfl) (by kernel_rfl) rfl (by kernel_rfl) (fun u => (by kernel_rfl)) (Fr.may_calls x0 _ _ S _ F0_50 (Nat.le_refl _) hS_52) (fun w' hb => hXl _ _ hs0 hb hX0) fun ac53 W53 hb53 I53 => ?_
  have HB54 := HB49.trans (hb53.mono HB49.size)
  have F0_55 := F0_50.later hb53
  have F1_56 := F1_51.later hb53
  have hS_57 := hS_52.later hb53
  have hX53 := hXl _ _ hs0 hb53 hX0
  have hs53 := Nat.le_trans hs0 hb53.size
  refine Ev.held_gcall (i := 3) (n := 29) (l := [.func 13, .tmp 34]) (A := []) (f := 13) (args := #[.agg (Fr.cells x0 (.slice a n c) (.slice a' n' c')).toArray]) (v := .bool (Fr.mayB x0)) hX53 I53 (by kernel_rfl) rfl (by kernel_rfl) (by kernel_rfl) (by kernel_rfl) rfl (by kernel_rfl) (fun u => (by kernel_rfl)) (Fr.mayR_calls x0 _ _ _ F0_55 (Nat.le_refl _)) (fun w' hb => hXl _ _ hs53 hb hX53) fun ac58 W58 hb58 I58 => ?_
  have HB59 := HB54.trans (hb58.mono HB54.size)
  have F0_60 := F0_55.later hb58
  have F1_61 := F1_56.later hb58
  have hS_62 := hS_57.later hb58
  have hX58 := hXl _ _ hs53 hb58 hX53
  have hs58 := Nat.le_trans hs53 hb58.size
  refine Ev.held_more [4, 5, 6, 8] (fuel := 25) hX58 I58 (by kernel_rfl) (by kernel_rfl) (fun _ _ d _ _ h => by cases d <;> exact h) rfl (by kernel_rfl) (by kernel_rfl) (by kernel_rfl) fun ac63 I63 => ?_
  refine Ev.held_conv (i := 7) (n := 24) (A := [(37, true)]) (xv := .slice qx0 (Fr.bytesOf x0).length rx0) (v := .string (Sm.str (Fr.bytesOf x0))) hX58 I63 (by kernel_rfl) (by kernel_rfl) (fun _ _ d _ _ h => by cases d <;> exact h) rfl (by kernel_rfl) (by kernel_rfl) (by kernel_rfl) rfl (by kernel_rfl) (fun u h => Sm.conv_str (P := Tryd.prog) h.1 Tryd.underlying23 Tryd.underlying5 Tryd.underlying9) fun ac64 I64 => ?_
  refine Ev.held_conv (i := 9) (n := 23) (A := [(37, true)]) (xv := .slice qy (Fr.bytesOf x0).length ry) (v := .string (Sm.str (Fr.bytesOf x0))) hX58 I64 (by kernel_rfl) (by kernel_rfl) (fun _ _ d _ _ h => by cases d <;> exact h) rfl (by kernel_rfl) (by kernel_rfl) (by kernel_rfl) rfl (by kernel_rfl) (fun u h => Sm.conv_str (P := Tryd.prog) h.2 Tryd.underlying23 Tryd.underlying5 Tryd.underlying9) fun ac65 I65 => ?_
  refine Ev.held_more [10, 11, 12, 13, 15] (fuel := 18) hX58 I65 (by kernel_rfl) (by kernel_rfl) (fun _ _ d _ _ h => by cases d <;> exact h) rfl (by kernel_rfl) (by kernel_rfl) (by kernel_rfl) fun ac66 I66 => ?_
  refine Ev.held_gcall (i := 14) (n := 17) (l := [.func 14, .tmp 45]) (A := [(44, true)]) (f := 14) (args := #[.int .i64 (if Fr.mayB x0 = true then (0 : Int) else 1)]) (v := .int .i64 (if Fr.mayB x0 = true then (0 : Int) else 1)) hX58 I66 (by kernel_rfl) rfl (by kernel_rfl) (by kernel_rfl) (by kernel_rfl) rfl (by kernel_rfl) (fun u => (by kernel_rfl)) (Fr.num_calls _ _) (fun w' hb => hXl _ _ hs58 hb hX58) fun ac67 W67 hb67 I67 => ?_
  have HB68 := HB59.trans (hb67.mono HB59.size)
  have F0_69 := F0_60.later hb67
  have F1_70 := F1_61.later hb67
  have hS_71 := hS_62.later hb67
  have hX67 := hXl _ _ hs58 hb67 hX58
  have hs67 := Nat.le_trans hs58 hb67.size
  refine Ev.held_more [16, 17, 18, 19, 20, 22, 23] (fuel := 10) hX67 I67 (by kernel_rfl) (by kernel_rfl) (fun _ _ d _ _ h => by cases d <;> exact h) rfl (by kernel_rfl) (by kernel_rfl) (by kernel_rfl) fun ac72 I72 => ?_
  refine Ev.held_gcall (i := 21) (n := 9) (l := [.func 15, .tmp 51, .tmp 52]) (A := [(50, true)]) (f := 15) (args := #[.agg (Fr.cells x0 (.slice a n c) (.slice a' n' c')).toArray, .agg (Fr.cells x1 (.slice b m d) (.slice b' m' d')).toArray]) (v := .bool (decide (x0 = x1))) hX67 I72 (by kernel_rfl) rfl (by kernel_rfl) (by kernel_rfl) (by kernel_rfl) rfl (by kernel_rfl) (fun u => (by kernel_rfl)) (Fr.same_calls _ _ x0 x1 _ _ _ F0_69 F1_70 (Nat.le_refl _) (Nat.le_refl _)) (fun w' hb => hXl _ _ hs67 hb hX67) fun ac73 W73 hb73 I73 => ?_
  have HB74 := HB68.trans (hb73.mono HB68.size)
  have F0_75 := F0_69.later hb73
  have F1_76 := F1_70.later hb73
  have hS_77 := hS_71.later hb73
  have hX73 := hXl _ _ hs67 hb73 hX67
  have hs73 := Nat.le_trans hs67 hb73.size
  refine Ev.held_gcall (i := 24) (n := 8) (l := [.func 16, .tmp 54, .tmp 55]) (A := [(50, true)]) (f := 16) (args := #[.agg (Fr.cells x0 (.slice a n c) (.slice a' n' c')).toArray, .agg (Fr.cells x1 (.slice b m d) (.slice b' m' d')).toArray]) (v := .bool (decide (x0 = x1))) hX73 I73 (by kernel_rfl) rfl (by kernel_rfl) (by kernel_rfl) (by kernel_rfl) rfl (by kernel_rfl) (fun u => (by kernel_rfl)) (Fr.sameR_calls _ _ x0 x1 _ _ _ F0_75 F1_76 (Nat.le_refl _) (Nat.le_refl _)) (fun w' hb => hXl _ _ hs73 hb hX73) fun ac78 W78 hb78 I78 => ?_
  have HB79 := HB74.trans (hb78.mono HB74.size)
  have F0_80 := F0_75.later hb78
  have F1_81 := F1_76.later hb78
  have hS_82 := hS_77.later hb78
  have hX78 := hXl _ _ hs73 hb78 hX73
  have hs78 := Nat.le_trans hs73 hb78.size
  refine Ev.held_more [25, 26, 27, 28, 29] (fuel := 3) hX78 I78 (by kernel_rfl) (by kernel_rfl) (fun _ _ d _ _ h => by cases d <;> exact h) rfl (by kernel_rfl) (by kernel_rfl) (by kernel_rfl) fun ac83 I83 => ?_
  refine Ev.held_gcall (i := 30) (n := 2) (l := [.func 15, .tmp 60, .tmp 61]) (A := [(59, true)]) (f := 15) (args := #[.agg (Fr.cells x0 (.slice a n c) (.slice a' n' c')).toArray, .agg (Fr.cells x0 (.slice a n c) (.slice a' n' c')).toArray]) (v := .bool (decide (x0 = x0))) hX78 I83 (by kernel_rfl) rfl (by kernel_rfl) (by kernel_rfl) (by kernel_rfl) rfl (by kernel_rfl) (fun u => (by kernel_rfl)) (Fr.same_calls _ _ x0 x0 _ _ _ F0_80 F0_80 (Nat.le_refl _) (Nat.le_refl _)) (fun w' hb => hXl _ _ hs78 hb hX78) fun ac84 W84 hb84 I84 => ?_
  have HB85 := HB79.trans (hb84.mono HB79.size)
  have F0_86 := F0_80.later hb84
  have F1_87 := F1_81.later hb84
  have hS_88 := hS_82.later hb84
  have hX84 := hXl _ _ hs78 hb84 hX78
  have hs84 := Nat.le_trans hs78 hb84.size
  refine Ev.held_more [31, 32] (fuel := 0) hX84 I84 (by kernel_rfl) (by kernel_rfl) (fun _ _ d _ _ h => by cases d <;> exact h) rfl (by kernel_rfl) (by kernel_rfl) (by kernel_rfl) fun ac89 I89 => ?_
  refine Ev.held_done (by kernel_rfl) ?_
  show Code.ret.wp _ _ _ _
  refine wp_ret ?_
  refine Ev.ret1 I89 rfl (v := .bool ((Fr.mayB x0 == Fr.mayB x0) && ((Sm.str (Fr.bytesOf x0)).toList == (Sm.str (Fr.bytesOf x0)).toList) && ((if Fr.mayB x0 = true then (0 : Int) else 1) == (if Fr.mayB x0 = true then (0 : Int) else 1)) && (decide (x0 = x1) == decide (x0 = x1)) && decide (x0 = x0))) (by kernel_rfl) ?_
  refine ⟨?_, HB85⟩
  rw [Sm.str_eq]
  simp

/-! ### THE ROW's STEP -/
set_option maxRecDepth 100000 in
theorem lifted (os : Os) (started : os.Started) (H : Type) (enc : TypeId × Value → H) :
    ReturnsInHanded {} Tryd.checked os 3 .any (fun w args => (Rows.frameTellsSpec.pre enc Tryd.prog Tryd.f3 Rows.frameTellsRow.domain false w args ∧ laidMetH Tryd.prog Fr.laidL w) ∧ sizedMet enc Tryd.prog Tryd.f3 (OpenSpec.ofChange Rows.frameTellsSpec) false w args)
      (Rows.frameTellsSpec.post enc Tryd.prog Tryd.f3 false true false false) := by
  refine returnsInHanded_of_change_and (C := Tryd.checked) (X := fun w _ => laidMetH Tryd.prog Fr.laidL w) (fun _ _ _ hh h => h.of_heap hh) own started (by kernel_rfl) Tryd.func3
    (ChangeSpec.witness_shaped (enc := enc) (C := Tryd.checked) (os := os) (X := fun w _ => laidMetH Tryd.prog Fr.laidL w) false (World.doorLaid Tryd.prog 400 os) #[.agg #[.int .i64 0, .int .i64 0, .int .i64 0, .int .i64 0, .int .i64 0, .int .i64 0, .bool false, .int .i64 0, .int .i64 0, .slice none 0 0, .int .i64 0, .int .i64 0, .int .i64 0, .slice none 0 0], .agg #[.int .i64 0, .int .i64 0, .int .i64 0, .int .i64 0, .int .i64 0, .int .i64 0, .bool false, .int .i64 0, .int .i64 0, .slice none 0 0, .int .i64 0, .int .i64 0, .int .i64 0, .slice none 0 0]] 8 rfl (Fr.laid_shaped os _) (by kernel_rfl) (by kernel_rfl) (by kernel_rfl) (Fr.laid_met os _)) ?_
  intro W base args ds gs before hval0 hW _ _ hL _
  have hval : ∀ (j : Nat) t v, Tryd.f3.params[j]? = some t → args[j]? = some v → Value.okWide Tryd.prog W .any base t v := hval0
  have hW' := hW
  obtain ⟨p, q, hA0, hV, rfl, hfz, hnd⟩ := hW
  obtain ⟨S, hS⟩ := Fr.sents_of_laid hL
  have hA : DataW.TrodAll enc Tryd.prog W 0 (fun _ => true) true Tryd.f3.params.toList args.toList ds p := hA0
  rw [Tryd.params3] at hA hval
  obtain ⟨v0, vs0, d0, ds0, p0, q0, hargs, rfl, rfl, h0, r0⟩ := trodAll_cons hA
  obtain ⟨v1, vs1, d1, ds1, p1, q1, rfl, rfl, rfl, h1, r1⟩ := trodAll_cons r0
  obtain ⟨rfl, rfl, rfl⟩ := trodAll_nil r1
  obtain rfl : args = #[v0, v1] := by cases args; simp_all
  obtain ⟨rfl, rfl⟩ := trodVars_none hV
  have k0 := h0
  have lt0 : ∀ x ∈ p0, x.block < W.heap.size := by obtain ⟨m, hm⟩ := k0; exact DataW.trod_lt m _ _ _ hm
  obtain ⟨x0, w0⟩ := Fr.frame_of_trod (hval 0 25 v0 rfl rfl) h0
  have k1 := h1
  have lt1 : ∀ x ∈ p1, x.block < W.heap.size := by obtain ⟨m, hm⟩ := k1; exact DataW.trod_lt m _ _ _ hm
  obtain ⟨x1, w1⟩ := Fr.frame_of_trod (hval 1 25 v1 rfl rfl) h1
  clear hA0 hval0
  refine (walk v0 x0 v1 x1 S W w0 w1 hS).mono fun e W' ⟨he, bel⟩ => ?_
  subst he
  exact ⟨_, rfl, _, _, _, [], _, [], hW', trodAll_mk1 (shut_bool Tryd.underlying4 _), (trodAll_cons_mk (Below.trod laidOut (by kernel_rfl) (of_decide_eq_true (by kernel_rfl)) k0 bel lt0) (trodAll_cons_mk (Below.trod laidOut (by kernel_rfl) (of_decide_eq_true (by kernel_rfl)) k1 bel lt1) trodAll_mk0)), rfl, bel.frame _, fun h => by cases h⟩

theorem over : Rows.frameTellsRow.holds Tryd.pinned (OpenSpec.ofChange Rows.frameTellsSpec) :=
  OpenClaim.holds_of_wide 3 Tryd.f3 rfl rfl rfl rfl rfl rfl rfl ⟨rfl, rfl, rfl, rfl, rfl⟩ rfl rfl rfl rfl rfl (by kernel_rfl) Tryd.func3 (by kernel_rfl)
    (of_decide_eq_true (by kernel_rfl)) (by unfold Func.isWrapper; first | (rw [if_pos (by decide +kernel)]; kernel_rfl) | (rw [if_neg (by decide +kernel)]; exact ⟨rfl, rfl⟩))
    (fun os started H enc _ => lifted os started H enc)

theorem proved : Rows.FrameTellsCardSaid :=
  Claim7.holds_tied_plain_at .later [] [.handle, .sentinel, .sentinel, .sentinel, .sentinel, .sentinel] true (true, "6cda7300b51618dea6a1b3e9141af95fe1074587f5da65d640e1e82977b992fe") true
    over (fun _ h => by cases h) (by kernel_rfl) (fun _ h => by cases h) frameTells_row_tie rfl ⟨rfl, rfl⟩ (by kernel_rfl) rfl
    (fun f fn hf hfn => by
      obtain rfl : f = 3 := Option.some.inj ((show Tryd.prog.funcNamed "drumline/drumlinelaw4.FrameTells" = some 3 by kernel_rfl).symm.trans hf) |>.symm
      obtain rfl : fn = Tryd.f3 := (Option.some.inj (Tryd.func3.symm.trans hfn)).symm
      exact ⟨by kernel_rfl, fun j t ht => by
        rw [Tryd.params3] at ht
        have hm : t ∈ [25] := by simpa using Array.mem_of_getElem? ht
        have hall : ([25].all fun u => !Tryd.prog.wantsStandIn u) = true := by kernel_rfl
        exact (show Tryd.prog.wantsStandIn t = false by simpa using List.all_eq_true.1 hall t hm)⟩)
    (by kernel_rfl)
#print axioms proved
end Go.Proofs.YtliejllegabdnaaDoor.frameTells
