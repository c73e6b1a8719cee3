/- For every frame f, number cut and bytes more the law FrameCuts returns true: a frame's bytes without their last ones are too short, and with bytes behind them too long. The package's error variables are as the program's text lays them; no condition beyond the statement's own. -/
import Derived.Test.YtliejllegabdnaaDoorRows
import Derived.WalkKit
import Derived.ProofKit
import Derived.OpenShut
import Derived.Test.YtliejllegabdnaaDoorFrMayR
import Derived.Test.YtliejllegabdnaaDoorFrAlive
import Derived.Test.YtliejllegabdnaaDoorFrSmall
import Derived.Test.YtliejllegabdnaaDoorFrArgs
import Derived.Test.YtliejllegabdnaaDoorSmA
import Derived.Test.YtliejllegabdnaaDoorSmMadeR
import Derived.ShutString
import Derived.ChangeOld
import Derived.Below
import Derived.Test.YtliejllegabdnaaDoorCards
import Derived.Test.YtliejllegabdnaaDoorTie
import Derived.SevenTiedAt
import Derived.Test.YtliejllegabdnaaDoorFrLaid
namespace Go.Proofs.YtliejllegabdnaaDoor.frameCuts
open Go.ChangeShapes Go.WideShapes Go.ChangeAt Go.RowKit
open Go.ChangeMaps (open_string shut_string)
set_option linter.unusedVariables false

theorem own : ownKnob Tryd.prog.godebug = none := by kernel_rfl
theorem laidOut : laidOutB Tryd.prog = true := by kernel_rfl

set_option maxHeartbeats 4000000 in
set_option maxRecDepth 100000 in
theorem walk (v0 : Value) (x0 : Fr.Frame) (a1 : Int) (a2 : Option Addr) (len2 cap2 : Nat) (x2 : List UInt8) (S : Fr.Sn) (w : World) (w0 : Fr.FrV w w.heap.size v0 x0) (w1 : (Lit.int .u8 a1).wf = true) (w2 : Sm.Row8 w w.heap.size a2 len2 cap2 x2) (hS : Fr.Sents w w.heap.size S) :
    Calls Tryd.prog 5 #[v0, .int .u8 a1, .slice a2 len2 cap2] w fun e w' => e = .returned (.bool true) ∧ Below w.heap.size w w' := by
  obtain ⟨a, n, c, a', n', c', ev0, _⟩ := id w0
  subst ev0
  have hcut := bounds_u8 w1
  refine Ev.enter (N := 92) Tryd.func5 rfl rfl (Nat.le_of_ble_eq_true rfl) fun act I0 => ?_
  refine Ev.seq_q I0 (by kernel_rfl) (by kernel_rfl) (by kernel_rfl) fun ρ1 ac1 W1 I1 hb1 => ?_
  have HB2 : Below w.heap.size w W1 := hb1
  have F0_3 := w0.later hb1
  have hS_4 := hS.later hb1
  have M_5 := w2.later hb1
  refine Ev.seq_row ?_
  refine Ev.row_v 1 I1 (by kernel_rfl) (by kernel_rfl) fun ac6 I6 => ?_
  simp only [List.drop_succ_cons, List.drop_zero]
  refine Ev.call_ok (l := [.func 10, .tmp 17]) (A := []) (f := 10) (args := #[.agg (Fr.cells x0 (.slice a n c) (.slice a' n' c')).toArray]) (R := fun v w' => ∃ q r, v = .tuple #[.slice q (Fr.bytesOf x0).length r, .int .i64 (if Fr.mayB x0 = true then 0 else 1)] ∧ Sm.Row8 w' w'.heap.size q (Fr.bytesOf x0).length r (Fr.bytesOf x0) ∧ Below W1.heap.size W1 w') I6 (by kernel_rfl) (by kernel_rfl) (by kernel_rfl) rfl (by kernel_rfl) (fun u => (by kernel_rfl)) ?_ (fun v w' h => by obtain ⟨_, _, _, _, h⟩ := h; exact h) ?_
  · refine (Fr.encode_calls x0 _ _ S _ F0_3 (Nat.le_refl _) hS_4).mono ?_
    rintro e w' ⟨q, r, rfl, h1, h2⟩; exact ⟨_, rfl, q, r, rfl, h1, h2⟩
  rintro v ac7 W7 ⟨qx0, rx0, rfl, hrx0, hb7⟩ I7
  have HB8 := HB2.trans (hb7.mono HB2.size)
  have F0_9 := F0_3.later hb7
  have hS_10 := hS_4.later hb7
  have M_11 := M_5.later hb7
  refine Ev.row_v 5 I7 (by kernel_rfl) (by kernel_rfl) fun ac12 I12 => ?_
  show Code.wp _ _ _ _ _
  have J13 := I12.to [3, 1, 2, 7, 8] (s2 := { tab := [⟨3, [], .p 0 0⟩, ⟨1, [], .v (.int .u8 a1)⟩, ⟨2, [], .v (.slice a2 len2 cap2)⟩, ⟨7, [], .v (.slice qx0 (Fr.bytesOf x0).length rx0)⟩, ⟨8, [], .v (.int .i64 (if Fr.mayB x0 = true then (0 : Int) else 1))⟩], mem := [(25, (Fr.cells x0 (.slice a n c) (.slice a' n' c')))] }) (by kernel_rfl)
  clear I12
  refine wp_seq (wp_seq (wp_region_list ?_))
  refine Ev.gcall_ok (l := [.func 8]) (A := []) (f := 8) (args := #[]) (v := .bool true) J13 (by kernel_rfl) (by kernel_rfl) rfl (by kernel_rfl) (fun u => (by kernel_rfl)) (Fr.alive_calls S _ hS_10) fun ac14 W14 hb14 I14 => ?_
  have HB15 := HB8.trans (hb14.mono HB8.size)
  have F0_16 := F0_9.later hb14
  have hS_17 := hS_10.later hb14
  have M_18 := M_11.later hb14
  have Rx0_19 := hrx0.later hb14
  refine Ev.row_v 3 I14 (by kernel_rfl) (by kernel_rfl) fun ac20 I20 => ?_
  simp only [List.drop_succ_cons, List.drop_zero]
  refine Ev.gcall_ok (l := [.func 9, .tmp 24]) (A := [(23, false)]) (f := 9) (args := #[.agg (Fr.cells x0 (.slice a n c) (.slice a' n' c')).toArray]) (v := .bool (decide (x0.ages.length ≤ 40 ∧ x0.body.length ≤ 100))) I20 (by kernel_rfl) (by kernel_rfl) rfl (by kernel_rfl) (fun u => (by kernel_rfl)) (Fr.small_calls x0 _ _ _ F0_16) fun ac21 W21 hb21 I21 => ?_
  have HB22 := HB15.trans (hb21.mono HB15.size)
  have F0_23 := F0_16.later hb21
  have hS_24 := hS_17.later hb21
  have M_25 := M_18.later hb21
  have Rx0_26 := Rx0_19.later hb21
  refine Ev.row_v 21 I21 (by kernel_rfl) (by kernel_rfl) fun ac27 I27 => ?_
  have J28 := I27.to [3, 1, 2, 7, 8, 46] (s2 := { tab := [⟨3, [], .p 0 0⟩, ⟨1, [], .v (.int .u8 a1)⟩, ⟨2, [], .v (.slice a2 len2 cap2)⟩, ⟨7, [], .v (.slice qx0 (Fr.bytesOf x0).length rx0)⟩, ⟨8, [], .v (.int .i64 (if Fr.mayB x0 = true then (0 : Int) else 1))⟩, ⟨46, [], .v (.bool (!true || !(decide (x0.ages.length ≤ 40 ∧ x0.body.length ≤ 100)) || ((if Fr.mayB x0 = true then (0 : Int) else 1) != 0) || decide (((Fr.bytesOf x0).length : Int) < 7) || ((len2 : Int) == 0) || decide ((len2 : Int) > 50)))⟩], mem := [(25, (Fr.cells x0 (.slice a n c) (.slice a' n' c')))] }) (by kernel_rfl)
  clear I27
  show (Code.cond _ _ _).wp _ _ _ _
  refine Ev.cond_ok J28 (z := (!true || !(decide (x0.ages.length ≤ 40 ∧ x0.body.length ≤ 100)) || ((if Fr.mayB x0 = true then (0 : Int) else 1) != 0) || decide (((Fr.bytesOf x0).length : Int) < 7) || ((len2 : Int) == 0) || decide ((len2 : Int) > 50))) (by kernel_rfl) (fun hz => ?_) (fun hz => ?_)
  · clear hz
    refine Ev.seq_row ?_
    refine Ev.gcall_ok (l := [.func 8]) (A := []) (f := 8) (args := #[]) (v := .bool true) J28 (by kernel_rfl) (by kernel_rfl) rfl (by kernel_rfl) (fun u => (by kernel_rfl)) (Fr.alive_calls S _ hS_24) fun ac29 W29 hb29 I29 => ?_
    have HB30 := HB22.trans (hb29.mono HB22.size)
    have F0_31 := F0_23.later hb29
    have hS_32 := hS_24.later hb29
    have M_33 := M_25.later hb29
    have Rx0_34 := Rx0_26.later hb29
    refine Ev.row_v 4 I29 (by kernel_rfl) (by kernel_rfl) fun ac35 I35 => ?_
    simp only [List.drop_succ_cons, List.drop_zero]
    refine Ev.gcall_ok (l := [.func 13, .tmp 51]) (A := [(48, true)]) (f := 13) (args := #[.agg (Fr.cells x0 (.slice a n c) (.slice a' n' c')).toArray]) (v := .bool (Fr.mayB x0)) I35 (by kernel_rfl) (by kernel_rfl) rfl (by kernel_rfl) (fun u => (by kernel_rfl)) (Fr.mayR_calls x0 _ _ _ F0_31 (Nat.le_refl _)) fun ac36 W36 hb36 I36 => ?_
    have HB37 := HB30.trans (hb36.mono HB30.size)
    have F0_38 := F0_31.later hb36
    have hS_39 := hS_32.later hb36
    have M_40 := M_33.later hb36
    have Rx0_41 := Rx0_34.later hb36
    refine Ev.row_v 3 I36 (by kernel_rfl) (by kernel_rfl) fun ac42 I42 => ?_
    show Code.ret.wp _ _ _ _
    refine wp_ret ?_
    simp only [Exit.then]
    refine Ev.ret1 I42 rfl (v := .bool (true && (((if Fr.mayB x0 = true then (0 : Int) else 1) == 0) == Fr.mayB x0))) (by kernel_rfl) ?_
    refine ⟨?_, HB37⟩
    cases Fr.mayB x0 <;> rfl
  refine wp_skip ?_
  simp only [Exit.then]
  have hm0 : Fr.mayB x0 = true := by cases h : Fr.mayB x0 with | true => rfl | false => simp [h] at hz
  have hl2 : len2 ≠ 0 ∧ len2 ≤ 50 := by
    simp only [Bool.or_eq_false_iff, decide_eq_false_iff_not, beq_eq_false_iff_ne, ne_eq] at hz
    omega
  clear hz
  have hby : Fr.bytesOf x0 = Sm.sealB (Fr.enc x0) := by unfold Fr.bytesOf; rw [hm0, if_pos rfl]
  have hel := Fr.enc_le hm0
  have he3 := Fr.enc_length x0
  have hL : (Fr.bytesOf x0).length = (Fr.enc x0).length + 4 := by rw [hby, Fr.sealB_length]
  refine Ev.seq_row ?_
  refine Ev.row_v 5 J28 (by kernel_rfl) (by kernel_rfl) fun ac43 I43 => ?_
  simp only [List.drop_succ_cons, List.drop_zero]
  have J44 := I43.to [3, 1, 2, 7, 8, 56, 59] (s2 := { tab := [⟨3, [], .p 0 0⟩, ⟨1, [], .v (.int .u8 a1)⟩, ⟨2, [], .v (.slice a2 len2 cap2)⟩, ⟨7, [], .v (.slice qx0 (Fr.bytesOf x0).length rx0)⟩, ⟨8, [], .v (.int .i64 (if Fr.mayB x0 = true then (0 : Int) else 1))⟩, ⟨56, [], .v (.int .i64 (IntKind.i64.wrap a1))⟩, ⟨59, [], .v (.int .i64 (IntKind.i64.wrap (((Fr.bytesOf x0).length : Int) - 4)))⟩], mem := [(25, (Fr.cells x0 (.slice a n c) (.slice a' n' c')))] }) (by kernel_rfl)
  clear I43
  have e1 : IntKind.i64.wrap a1 = a1 := Ev.wrap_i64 (by omega) (by omega)
  have e2 : IntKind.i64.wrap (((Fr.bytesOf x0).length : Int) - 4) = ((Fr.enc x0).length : Int) := by rw [hL, Ev.wrap_i64 (by omega) (by omega)]; omega
  rw [e1, e2] at J44
  obtain ⟨j, hj⟩ : ∃ j : Nat, a1.tmod ((Fr.enc x0).length : Int) = (j : Int) := ⟨(a1.tmod ((Fr.enc x0).length : Int)).toNat, by rw [Int.toNat_of_nonneg (Int.tmod_nonneg _ (by omega))]⟩
  have hjl : j < (Fr.enc x0).length := by have := Int.tmod_lt_of_pos a1 (show 0 < ((Fr.enc x0).length : Int) by omega); omega
  refine Ev.bin_ok (x := .tmp 56) (y := .tmp 59) (xv := .int .i64 a1) (yv := .int .i64 ((Fr.enc x0).length : Int)) (v := .int .i64 (j : Int)) J44 (by kernel_rfl) (by kernel_rfl) rfl (by kernel_rfl) (by kernel_rfl) ⟨(by kernel_rfl), by rw [Ev.run_rem (by omega), hj]⟩ fun a45 I45 => ?_
  refine Ev.row_v 2 I45 (by kernel_rfl) (by kernel_rfl) fun ac46 I46 => ?_
  show Code.wp _ _ _ _ _
  have J47 := I46.to [3, 1, 2, 7, 8, 9] (s2 := { tab := [⟨3, [], .p 0 0⟩, ⟨1, [], .v (.int .u8 a1)⟩, ⟨2, [], .v (.slice a2 len2 cap2)⟩, ⟨7, [], .v (.slice qx0 (Fr.bytesOf x0).length rx0)⟩, ⟨8, [], .v (.int .i64 (if Fr.mayB x0 = true then (0 : Int) else 1))⟩, ⟨9, [], .v (.int .i64 (IntKind.i64.wrap (4 + (j : Int))))⟩], mem := [(25, (Fr.cells x0 (.slice a n c) (.slice a' n' c')))] }) (by kernel_rfl)
  clear I46
  rw [show IntKind.i64.wrap (4 + (j : Int)) = 4 + (j : Int) from Ev.wrap_i64 (by omega) (by omega)] at J47
  refine Ev.seq_row ?_
  refine Ev.row_v 3 J47 (by kernel_rfl) (by kernel_rfl) fun ac48 I48 => ?_
  simp only [List.drop_succ_cons, List.drop_zero]
  have J49 := I48.to [3, 1, 2, 7, 8, 62, 64] (s2 := { tab := [⟨3, [], .p 0 0⟩, ⟨1, [], .v (.int .u8 a1)⟩, ⟨2, [], .v (.slice a2 len2 cap2)⟩, ⟨7, [], .v (.slice qx0 (Fr.bytesOf x0).length rx0)⟩, ⟨8, [], .v (.int .i64 (if Fr.mayB x0 = true then (0 : Int) else 1))⟩, ⟨62, [], .v (.slice qx0 (Fr.bytesOf x0).length rx0)⟩, ⟨64, [], .v (.int .i64 (IntKind.i64.wrap (4 + (j : Int) - 4)))⟩], mem := [(25, (Fr.cells x0 (.slice a n c) (.slice a' n' c')))] }) (by kernel_rfl)
  clear I48
  rw [show IntKind.i64.wrap (4 + (j : Int) - 4) = (j : Int) by rw [Ev.wrap_i64 (by omega) (by omega)]; omega] at J49
  obtain ⟨i0, hi0, hz0, hz1, hz2⟩ := info_parts Sm.byte_info
  have hroom := Rx0_26.room
  refine Ev.slice_ok (lov := none) (hiv := some (.int .i64 (j : Int))) (xv := .slice qx0 (Fr.bytesOf x0).length rx0) (v := .slice (Sm.cutA qx0 rx0 0) j rx0) J49 (by kernel_rfl) (by kernel_rfl) rfl (by kernel_rfl) (by kernel_rfl) (by kernel_rfl) (Sm.run_cut_h (P := Tryd.prog) Tryd.underlying23 hi0 hz1 _ qx0 (Fr.bytesOf x0).length rx0 j (by omega)) fun a50 I50 => ?_
  have hc0 := Rx0_26.cut (lo := 0) (hi := j) (by omega) (by omega)
  have hc1 : Sm.Row8 W21 W21.heap.size (Sm.cutA qx0 rx0 0) j rx0 ((Fr.enc x0).take j) := by
    rw [List.drop_zero, hby] at hc0
    have e : (Sm.sealB (Fr.enc x0)).take j = (Fr.enc x0).take j := by unfold Sm.sealB; rw [List.take_append_of_le_length (by omega)]
    rw [e] at hc0
    exact hc0
  clear hc0
  refine Ev.call_ok (l := [.func 18, .tmp 65]) (A := []) (f := 18) (args := #[.slice (Sm.cutA qx0 rx0 0) j rx0]) (R := fun v w' => ∃ q r, v = .slice q (Sm.sealB ((Fr.enc x0).take j)).length r ∧ Sm.Row8 w' w'.heap.size q (Sm.sealB ((Fr.enc x0).take j)).length r (Sm.sealB ((Fr.enc x0).take j)) ∧ Below W21.heap.size W21 w') I50 (by kernel_rfl) (by kernel_rfl) (by kernel_rfl) rfl (by kernel_rfl) (fun u => (by kernel_rfl)) ?_ (fun v w' h => by obtain ⟨_, _, _, _, h⟩ := h; exact h) ?_
  · refine (Sm.sealR_calls _ _ _ ((Fr.enc x0).take j) _ hc1 (by omega)).mono ?_
    rintro e w' ⟨v, rfl, hm⟩; obtain ⟨q, r, rfl, h1, h2⟩ := hm.slice; exact ⟨_, rfl, q, r, rfl, h1, h2⟩
  rintro v ac51 W51 ⟨qs, rs, rfl, hrs, hb51⟩ I51
  have HB52 := HB22.trans (hb51.mono HB22.size)
  have F0_53 := F0_23.later hb51
  have hS_54 := hS_24.later hb51
  have M_55 := M_25.later hb51
  have Rx0_56 := Rx0_26.later hb51
  refine Ev.row_v 1 I51 (by kernel_rfl) (by kernel_rfl) fun ac57 I57 => ?_
  show Code.wp _ _ _ _ _
  obtain ⟨p1, hd1⟩ : ∃ p, Fr.decX (Sm.sealB ((Fr.enc x0).take j)) = .error (2, p) := by
    unfold Fr.decX
    rw [Fr.sealB_length, List.length_take]
    by_cases h3 : min j (Fr.enc x0).length + 4 < 7
    · rw [if_pos h3]; exact ⟨_, rfl⟩
    · rw [if_neg h3, Fr.isSealed_sealB, if_pos rfl]
      obtain ⟨p, hp⟩ := Fr.read_cut hm0 (k := j) (by omega) hjl
      have e := Fr.sealB_take ((Fr.enc x0).take j)
      rw [Fr.sealB_length, List.length_take] at e
      rw [e]
      exact ⟨p, hp⟩
  refine Ev.seq_row ?_
  refine Ev.row_v 1 I57 (by kernel_rfl) (by kernel_rfl) fun ac58 I58 => ?_
  simp only [List.drop_succ_cons, List.drop_zero]
  refine Ev.call_ok (l := [.func 17, .tmp 68]) (A := []) (f := 17) (args := #[.slice qs (Sm.sealB ((Fr.enc x0).take j)).length rs]) (R := fun v w' => ∃ b1d b2d b3d b4d b5d b6d, v = .tuple #[.agg (Fr.cells (Fr.frOf (.error (2, p1) : Except (Int × Nat) Fr.Frame)) (.slice b1d b2d b3d) (.slice b4d b5d b6d)).toArray, .int .i64 (Fr.noOf (Fr.errOf (.error (2, p1) : Except (Int × Nat) Fr.Frame)))] ∧ Fr.FrV w' w'.heap.size (.agg (Fr.cells (Fr.frOf (.error (2, p1) : Except (Int × Nat) Fr.Frame)) (.slice b1d b2d b3d) (.slice b4d b5d b6d)).toArray) (Fr.frOf (.error (2, p1) : Except (Int × Nat) Fr.Frame)) ∧ Below W51.heap.size W51 w') I58 (by kernel_rfl) (by kernel_rfl) (by kernel_rfl) rfl (by kernel_rfl) (fun u => (by kernel_rfl)) ?_ (fun v w' h => by obtain ⟨_, _, _, _, _, _, _, _, h⟩ := h; exact h) ?_
  · refine (Fr.decode_calls _ _ _ S (Sm.sealB ((Fr.enc x0).take j)) _ hrs hS_54 (by rw [Fr.sealB_length, List.length_take]; omega)).mono ?_
    rw [hd1]; rintro e w' ⟨cs, rfl, h1, h2⟩; obtain ⟨y1, y2, y3, y4, y5, y6, ecs, _⟩ := id h1; injection ecs with ecs; rw [ecs] at h1; exact ⟨_, rfl, y1, y2, y3, y4, y5, y6, by rw [ecs], h1, h2⟩
  rintro v ac59 W59 ⟨b1d, b2d, b3d, b4d, b5d, b6d, rfl, hfd, hb59⟩ I59
  have HB60 := HB52.trans (hb59.mono HB52.size)
  have F0_61 := F0_53.later hb59
  have hS_62 := hS_54.later hb59
  have M_63 := M_55.later hb59
  have Rx0_64 := Rx0_56.later hb59
  have Rs_65 := hrs.later hb59
  refine Ev.row_q 6 I59 (by kernel_rfl) (by kernel_rfl) (by kernel_rfl) fun ρ66 ac66 W66 I66 hb66 => ?_
  have HB67 := HB60.trans (hb66.mono HB60.size)
  have F0_68 := F0_61.later hb66
  have hS_69 := hS_62.later hb66
  have M_70 := M_63.later hb66
  have Rx0_71 := Rx0_64.later hb66
  have Rs_72 := Rs_65.later hb66
  have Dd_73 := hfd.later hb66
  show Code.wp _ _ _ _ _
  have J74 := I66.to [3, 1, 2, 7, 8, 12] (s2 := { tab := [⟨3, [], .p 0 0⟩, ⟨1, [], .v (.int .u8 a1)⟩, ⟨2, [], .v (.slice a2 len2 cap2)⟩, ⟨7, [], .v (.slice qx0 (Fr.bytesOf x0).length rx0)⟩, ⟨8, [], .v (.int .i64 (if Fr.mayB x0 = true then (0 : Int) else 1))⟩, ⟨12, [], .v (.int .i64 2)⟩], mem := [(25, (Fr.cells x0 (.slice a n c) (.slice a' n' c'))), (25, (Fr.cells (Fr.frOf (.error (2, p1) : Except (Int × Nat) Fr.Frame)) (.slice b1d b2d b3d) (.slice b4d b5d b6d)))] }) (by kernel_rfl)
  clear I66
  refine Ev.seq_row ?_
  refine Ev.row_v 4 J74 (by kernel_rfl) (by kernel_rfl) fun ac75 I75 => ?_
  simp only [List.drop_succ_cons, List.drop_zero]
  have J76 := I75.to [3, 1, 2, 7, 8, 12, 72, 75] (s2 := { tab := [⟨3, [], .p 0 0⟩, ⟨1, [], .v (.int .u8 a1)⟩, ⟨2, [], .v (.slice a2 len2 cap2)⟩, ⟨7, [], .v (.slice qx0 (Fr.bytesOf x0).length rx0)⟩, ⟨8, [], .v (.int .i64 (if Fr.mayB x0 = true then (0 : Int) else 1))⟩, ⟨12, [], .v (.int .i64 2)⟩, ⟨72, [], .v (.slice qx0 (Fr.bytesOf x0).length rx0)⟩, ⟨75, [], .v (.int .i64 (IntKind.i64.wrap (((Fr.bytesOf x0).length : Int) - 4)))⟩], mem := [(25, (Fr.cells x0 (.slice a n c) (.slice a' n' c'))), (25, (Fr.cells (Fr.frOf (.error (2, p1) : Except (Int × Nat) Fr.Frame)) (.slice b1d b2d b3d) (.slice b4d b5d b6d)))] }) (by kernel_rfl)
  clear I75
  rw [e2] at J76
  refine Ev.slice_ok (lov := none) (hiv := some (.int .i64 ((Fr.enc x0).length : Int))) (xv := .slice qx0 (Fr.bytesOf x0).length rx0) (v := .slice (Sm.cutA qx0 rx0 0) (Fr.enc x0).length rx0) J76 (by kernel_rfl) (by kernel_rfl) rfl (by kernel_rfl) (by kernel_rfl) (by kernel_rfl) (Sm.run_cut_h (P := Tryd.prog) Tryd.underlying23 hi0 hz1 _ qx0 (Fr.bytesOf x0).length rx0 (Fr.enc x0).length (by omega)) fun a77 I77 => ?_
  have hc0 := Rx0_71.cut (lo := 0) (hi := (Fr.enc x0).length) (by omega) (by omega)
  have hc2 : Sm.Row8 W66 W66.heap.size (Sm.cutA qx0 rx0 0) (Fr.enc x0).length rx0 (Fr.enc x0) := by
    rw [List.drop_zero, hby] at hc0
    have e : (Sm.sealB (Fr.enc x0)).take (Fr.enc x0).length = Fr.enc x0 := by unfold Sm.sealB; rw [List.take_left]
    rw [e] at hc0
    exact hc0
  clear hc0
  have hlo : ∀ g ∈ _, g < W66.heap.size := fun g hg => I77.lt hg
  refine Ev.append_ok I77 rfl (by kernel_rfl) _ _ _ rfl W66.heap.size 5 i0 _ Tryd.underlying23 hi0 hz0 hz1 hz2 rfl (.slice none 0 0) [] (by kernel_rfl) (World.ownsRow_nil _ _ _ _) _ (Sm.cutA qx0 rx0 0) (Fr.enc x0).length rx0 (Fr.enc x0) (by kernel_rfl) hc2 (by rw [List.length_nil]; omega) (Nat.le_refl _) hlo ?_
  rintro v78 a78 W78 own78 hb78 I78
  refine Ev.row_v 1 I78 (by kernel_rfl) (by kernel_rfl) fun ac79 I79 => ?_
  simp only [List.drop_succ_cons, List.drop_zero]
  refine Ev.append_ok I79 rfl (by kernel_rfl) _ _ _ rfl W66.heap.size 5 i0 _ Tryd.underlying23 hi0 hz0 hz1 hz2 rfl v78 ([] ++ Fr.enc x0) (by kernel_rfl) own78 _ a2 len2 cap2 x2 (by kernel_rfl) (M_70.below hb78) (by rw [List.nil_append]; omega) hb78.size hlo ?_
  rintro v80 a80 W80 own80 hb80 I80
  obtain ⟨ql, rl, hvl, hrl⟩ := Sm.owns_slice own80
  subst hvl
  have hb12 := hb78.trans hb80
  have HB81 := HB67.trans (hb12.mono HB67.size)
  have F0_82 := F0_68.later hb12
  have hS_83 := hS_69.later hb12
  have M_84 := M_70.later hb12
  have Rx0_85 := Rx0_71.later hb12
  have Rs_86 := Rs_72.later hb12
  have Dd_87 := Dd_73.later hb12
  refine Ev.call_ok (l := [.func 18, .tmp 79]) (A := []) (f := 18) (args := #[.slice ql ([] ++ Fr.enc x0 ++ x2).length rl]) (R := fun v w' => ∃ q r, v = .slice q (Sm.sealB ([] ++ Fr.enc x0 ++ x2)).length r ∧ Sm.Row8 w' w'.heap.size q (Sm.sealB ([] ++ Fr.enc x0 ++ x2)).length r (Sm.sealB ([] ++ Fr.enc x0 ++ x2)) ∧ Below W80.heap.size W80 w') I80 (by kernel_rfl) (by kernel_rfl) (by kernel_rfl) rfl (by kernel_rfl) (fun u => (by kernel_rfl)) ?_ (fun v w' h => by obtain ⟨_, _, _, _, h⟩ := h; exact h) ?_
  · refine (Sm.sealR_calls _ _ _ ([] ++ Fr.enc x0 ++ x2) _ hrl (by have := w2.len; rw [List.nil_append, List.length_append]; omega)).mono ?_
    rintro e w' ⟨v, rfl, hm⟩; obtain ⟨q, r, rfl, h1, h2⟩ := hm.slice; exact ⟨_, rfl, q, r, rfl, h1, h2⟩
  rintro v ac88 W88 ⟨qt, rt, rfl, hrt, hb88⟩ I88
  have HB89 := HB81.trans (hb88.mono HB81.size)
  have F0_90 := F0_82.later hb88
  have hS_91 := hS_83.later hb88
  have M_92 := M_84.later hb88
  have Rx0_93 := Rx0_85.later hb88
  have Rs_94 := Rs_86.later hb88
  have Dd_95 := Dd_87.later hb88
  refine Ev.row_v 1 I88 (by kernel_rfl) (by kernel_rfl) fun ac96 I96 => ?_
  show Code.wp _ _ _ _ _
  have hx2 : x2 ≠ [] := by intro h; have := w2.len; rw [h] at this; exact hl2.1 this.symm
  have hd2 : Fr.decX (Sm.sealB ([] ++ Fr.enc x0 ++ x2)) = .error (3, (Fr.enc x0).length) := by
    have e := Fr.sealB_take ([] ++ Fr.enc x0 ++ x2)
    unfold Fr.decX
    rw [if_neg (by rw [Fr.sealB_length, List.nil_append, List.length_append]; omega), Fr.isSealed_sealB, if_pos rfl, e, List.nil_append]
    exact Fr.read_more hm0 hx2
  refine Ev.seq_row ?_
  refine Ev.row_v 1 I96 (by kernel_rfl) (by kernel_rfl) fun ac97 I97 => ?_
  simp only [List.drop_succ_cons, List.drop_zero]
  refine Ev.call_ok (l := [.func 17, .tmp 82]) (A := []) (f := 17) (args := #[.slice qt (Sm.sealB ([] ++ Fr.enc x0 ++ x2)).length rt]) (R := fun v w' => ∃ b1e b2e b3e b4e b5e b6e, v = .tuple #[.agg (Fr.cells (Fr.frOf (.error (3, (Fr.enc x0).length) : Except (Int × Nat) Fr.Frame)) (.slice b1e b2e b3e) (.slice b4e b5e b6e)).toArray, .int .i64 (Fr.noOf (Fr.errOf (.error (3, (Fr.enc x0).length) : Except (Int × Nat) Fr.Frame)))] ∧ Fr.FrV w' w'.heap.size (.agg (Fr.cells (Fr.frOf (.error (3, (Fr.enc x0).length) : Except (Int × Nat) Fr.Frame)) (.slice b1e b2e b3e) (.slice b4e b5e b6e)).toArray) (Fr.frOf (.error (3, (Fr.enc x0).length) : Except (Int × Nat) Fr.Frame)) ∧ Below W88.heap.size W88 w') I97 (by kernel_rfl) (by kernel_rfl) (by kernel_rfl) rfl (by kernel_rfl) (fun u => (by kernel_rfl)) ?_ (fun v w' h => by obtain ⟨_, _, _, _, _, _, _, _, h⟩ := h; exact h) ?_
  · refine (Fr.decode_calls _ _ _ S (Sm.sealB ([] ++ Fr.enc x0 ++ x2)) _ hrt hS_91 (by have := w2.len; rw [Fr.sealB_length, List.nil_append, List.length_append]; omega)).mono ?_
    rw [hd2]; rintro e w' ⟨cs, rfl, h1, h2⟩; obtain ⟨y1, y2, y3, y4, y5, y6, ecs, _⟩ := id h1; injection ecs with ecs; rw [ecs] at h1; exact ⟨_, rfl, y1, y2, y3, y4, y5, y6, by rw [ecs], h1, h2⟩
  rintro v ac98 W98 ⟨b1e, b2e, b3e, b4e, b5e, b6e, rfl, hfe, hb98⟩ I98
  have HB99 := HB89.trans (hb98.mono HB89.size)
  have F0_100 := F0_90.later hb98
  have hS_101 := hS_91.later hb98
  have M_102 := M_92.later hb98
  have Rx0_103 := Rx0_93.later hb98
  have Rs_104 := Rs_94.later hb98
  have Dd_105 := Dd_95.later hb98
  have Rt_106 := hrt.later hb98
  refine Ev.row_q 6 I98 (by kernel_rfl) (by kernel_rfl) (by kernel_rfl) fun ρ107 ac107 W107 I107 hb107 => ?_
  have HB108 := HB99.trans (hb107.mono HB99.size)
  have F0_109 := F0_100.later hb107
  have hS_110 := hS_101.later hb107
  have M_111 := M_102.later hb107
  have Rx0_112 := Rx0_103.later hb107
  have Rs_113 := Rs_104.later hb107
  have Dd_114 := Dd_105.later hb107
  have Rt_115 := Rt_106.later hb107
  have De_116 := hfe.later hb107
  show Code.wp _ _ _ _ _
  refine Ev.seq_v I107 (by kernel_rfl) (by kernel_rfl) fun ac117 I117 => ?_
  refine wp_ret ?_
  refine Ev.ret1 I117 rfl (v := .bool (((2 : Int) == 2) && ((3 : Int) == 3))) (by kernel_rfl) ?_
  exact ⟨rfl, HB108⟩

/-! ### THE ROW's STEP -/
set_option maxRecDepth 100000 in
theorem lifted (os : Os) (started : os.Started) (H : Type) (enc : TypeId × Value → H) :
    ReturnsInHanded {} Tryd.checked os 5 .any (fun w args => (Rows.frameCutsSpec.pre enc Tryd.prog Tryd.f5 Rows.frameCutsRow.domain false w args ∧ laidMetH Tryd.prog Fr.laidL w) ∧ sizedMet enc Tryd.prog Tryd.f5 (OpenSpec.ofChange Rows.frameCutsSpec) false w args)
      (Rows.frameCutsSpec.post enc Tryd.prog Tryd.f5 false true false false) := by
  refine returnsInHanded_of_change_and (C := Tryd.checked) (X := fun w _ => laidMetH Tryd.prog Fr.laidL w) (fun _ _ _ hh h => h.of_heap hh) own started (by kernel_rfl) Tryd.func5
    (ChangeSpec.witness_shaped (enc := enc) (C := Tryd.checked) (os := os) (X := fun w _ => laidMetH Tryd.prog Fr.laidL w) false (World.doorLaid Tryd.prog 400 os) #[.agg #[.int .i64 0, .int .i64 0, .int .i64 0, .int .i64 0, .int .i64 0, .int .i64 0, .bool false, .int .i64 0, .int .i64 0, .slice none 0 0, .int .i64 0, .int .i64 0, .int .i64 0, .slice none 0 0], .int .u8 0, .slice none 0 0] 8 rfl (Fr.laid_shaped os _) (by kernel_rfl) (by kernel_rfl) (by kernel_rfl) (Fr.laid_met os _)) ?_
  intro W base args ds gs before hval0 hW _ _ hL _
  have hval : ∀ (j : Nat) t v, Tryd.f5.params[j]? = some t → args[j]? = some v → Value.okWide Tryd.prog W .any base t v := hval0
  have hW' := hW
  obtain ⟨p, q, hA0, hV, rfl, hfz, hnd⟩ := hW
  obtain ⟨S, hS⟩ := Fr.sents_of_laid hL
  have hA : DataW.TrodAll enc Tryd.prog W 0 (fun _ => true) true Tryd.f5.params.toList args.toList ds p := hA0
  rw [Tryd.params5] at hA hval
  obtain ⟨v0, vs0, d0, ds0, p0, q0, hargs, rfl, rfl, h0, r0⟩ := trodAll_cons hA
  obtain ⟨v1, vs1, d1, ds1, p1, q1, rfl, rfl, rfl, h1, r1⟩ := trodAll_cons r0
  obtain ⟨v2, vs2, d2, ds2, p2, q2, rfl, rfl, rfl, h2, r2⟩ := trodAll_cons r1
  obtain ⟨rfl, rfl, rfl⟩ := trodAll_nil r2
  obtain rfl : args = #[v0, v1, v2] := by cases args; simp_all
  obtain ⟨rfl, rfl⟩ := trodVars_none hV
  have k0 := h0
  have lt0 : ∀ x ∈ p0, x.block < W.heap.size := by obtain ⟨m, hm⟩ := k0; exact DataW.trod_lt m _ _ _ hm
  obtain ⟨x0, w0⟩ := Fr.frame_of_trod (hval 0 25 v0 rfl rfl) h0
  obtain ⟨a1, rfl, rfl, rfl, w1⟩ := open_int Tryd.underlying5 (hval 1 5 v1 rfl rfl) h1
  obtain ⟨a2, len2, cap2, rfl⟩ := okWide_slice Tryd.underlying23 (hval 2 23 v2 rfl rfl)
  have k2 := h2
  have lt2 : ∀ x ∈ p2, x.block < W.heap.size := by obtain ⟨m, hm⟩ := k2; exact DataW.trod_lt m _ _ _ hm
  obtain ⟨x2, w2⟩ := Sm.Row8.of_trod Tryd.underlying23 Tryd.underlying5 (by kernel_rfl) h2
  clear hA0 hval0
  refine (walk v0 x0 a1 a2 len2 cap2 x2 S W w0 w1 w2 hS).mono fun e W' ⟨he, bel⟩ => ?_
  subst he
  exact ⟨_, rfl, _, _, _, [], _, [], hW', trodAll_mk1 (shut_bool Tryd.underlying4 _), (trodAll_cons_mk (Below.trod laidOut (by kernel_rfl) (of_decide_eq_true (by kernel_rfl)) k0 bel lt0) (trodAll_cons_mk (shut_int Tryd.underlying5 w1) (trodAll_cons_mk (Below.trod laidOut (by kernel_rfl) (of_decide_eq_true (by kernel_rfl)) k2 bel lt2) trodAll_mk0))), rfl, bel.frame _, fun h => by cases h⟩

theorem over : Rows.frameCutsRow.holds Tryd.pinned (OpenSpec.ofChange Rows.frameCutsSpec) :=
  OpenClaim.holds_of_wide 5 Tryd.f5 rfl rfl rfl rfl rfl rfl rfl ⟨rfl, rfl, rfl, rfl, rfl⟩ rfl rfl rfl rfl rfl (by kernel_rfl) Tryd.func5 (by kernel_rfl)
    (of_decide_eq_true (by kernel_rfl)) (by unfold Func.isWrapper; first | (rw [if_pos (by decide +kernel)]; kernel_rfl) | (rw [if_neg (by decide +kernel)]; exact ⟨rfl, rfl⟩))
    (fun os started H enc _ => lifted os started H enc)

theorem proved : Rows.FrameCutsCardSaid :=
  Claim7.holds_tied_plain_at .later [] [.handle, .sentinel, .sentinel, .sentinel, .sentinel, .sentinel] true (true, "6cda7300b51618dea6a1b3e9141af95fe1074587f5da65d640e1e82977b992fe") true
    over (fun _ h => by cases h) (by kernel_rfl) (fun _ h => by cases h) frameCuts_row_tie rfl ⟨rfl, rfl⟩ (by kernel_rfl) rfl
    (fun f fn hf hfn => by
      obtain rfl : f = 5 := Option.some.inj ((show Tryd.prog.funcNamed "drumline/drumlinelaw4.FrameCuts" = some 5 by kernel_rfl).symm.trans hf) |>.symm
      obtain rfl : fn = Tryd.f5 := (Option.some.inj (Tryd.func5.symm.trans hfn)).symm
      exact ⟨by kernel_rfl, fun j t ht => by
        rw [Tryd.params5] at ht
        have hm : t ∈ [25, 5, 23] := by simpa using Array.mem_of_getElem? ht
        have hall : ([25, 5, 23].all fun u => !Tryd.prog.wantsStandIn u) = true := by kernel_rfl
        exact (show Tryd.prog.wantsStandIn t = false by simpa using List.all_eq_true.1 hall t hm)⟩)
    (by kernel_rfl)
#print axioms proved
end Go.Proofs.YtliejllegabdnaaDoor.frameCuts
