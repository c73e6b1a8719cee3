/- For every row of bytes b the law FrameSealed returns true: what the sealed b is, or what is wrong with it, and where, is as the document's own answer says, and what is read is written as it was. The package's error variables are as the program's text lays them; no condition beyond the statement's own. -/
import Derived.Test.YtfpgdimgffamoaaGreatDoorRows
import Derived.WalkKit
import Derived.ProofKit
import Derived.OpenShut
import Derived.Test.YtfpgdimgffamoaaGreatDoorFrQ
import Derived.Test.YtfpgdimgffamoaaGreatDoorFrSeal
import Derived.Test.YtfpgdimgffamoaaGreatDoorFrAlive
import Derived.Test.YtfpgdimgffamoaaGreatDoorFrArgs
import Derived.Test.YtfpgdimgffamoaaGreatDoorFrNumL
import Derived.Test.YtfpgdimgffamoaaGreatDoorFrSameR
import Derived.Test.YtfpgdimgffamoaaGreatDoorSmA
import Derived.Test.YtfpgdimgffamoaaGreatDoorSmMadeR
import Derived.Test.YtfpgdimgffamoaaGreatDoorFrEnc
import Derived.ShutString
import Derived.ChangeOld
import Derived.Below
import Derived.Test.YtfpgdimgffamoaaGreatDoorCards
import Derived.Test.YtfpgdimgffamoaaGreatDoorTie
import Derived.SevenTiedAt
import Derived.Test.YtfpgdimgffamoaaGreatDoorFrLaid
namespace Go.Proofs.YtfpgdimgffamoaaGreatDoor.frameSealed
open Go.ChangeShapes Go.WideShapes Go.ChangeAt Go.RowKit
open Go.ChangeMaps (open_string shut_string)
set_option linter.unusedVariables false

theorem own : ownKnob Tryz.prog.godebug = none := by kernel_rfl
theorem laidOut : laidOutB Tryz.prog = true := by kernel_rfl

set_option maxHeartbeats 4000000 in
set_option maxRecDepth 100000 in
theorem walk (a0 : Option Addr) (len0 cap0 : Nat) (x0 : List UInt8) (S : Fr.Sn) (w : World) (w0 : Sm.Row8 w w.heap.size a0 len0 cap0 x0) (hS : Fr.Sents w w.heap.size S) :
    Calls Tryz.prog 4 #[.slice a0 len0 cap0] w fun e w' => e = .returned (.bool true) ∧ Below w.heap.size w w' := by
  obtain ⟨res, hres⟩ : ∃ res, Fr.decX (Sm.sealB x0) = res := ⟨_, rfl⟩
  refine Ev.enter (N := 81) Tryz.func4 rfl rfl (Nat.le_of_ble_eq_true rfl) fun act I0 => ?_
  refine Ev.seq_q I0 (by kernel_rfl) (by kernel_rfl) (by kernel_rfl) fun ρ1 ac1 W1 I1 hb1 => ?_
  have HB2 : Below w.heap.size w W1 := hb1
  have M_3 := w0.later hb1
  have hS_4 := hS.later hb1
  refine wp_seq (wp_seq (wp_region_list ?_))
  refine Ev.gcall_ok (l := [.func 5]) (A := []) (f := 5) (args := #[]) (v := .bool true) I1 (by kernel_rfl) (by kernel_rfl) rfl (by kernel_rfl) (fun u => (by kernel_rfl)) (Fr.alive_calls S _ hS_4) fun ac5 W5 hb5 I5 => ?_
  have HB6 := HB2.trans (hb5.mono HB2.size)
  have M_7 := M_3.later hb5
  have hS_8 := hS_4.later hb5
  refine Ev.row_v 6 I5 (by kernel_rfl) (by kernel_rfl) fun ac9 I9 => ?_
  have J10 := I9.to [0, 20] (s2 := { tab := [⟨0, [], .v (.slice a0 len0 cap0)⟩, ⟨20, [], .v (.bool (!true || decide ((len0 : Int) > 200)))⟩], mem := [] }) (by kernel_rfl)
  clear I9
  show (Code.cond _ _ _).wp _ _ _ _
  refine Ev.cond_ok J10 (z := (!true || decide ((len0 : Int) > 200))) (by kernel_rfl) (fun hz => ?_) (fun hz => ?_)
  · clear hz
    refine Ev.seq_row ?_
    refine Ev.gcall_ok (l := [.func 5]) (A := []) (f := 5) (args := #[]) (v := .bool true) J10 (by kernel_rfl) (by kernel_rfl) rfl (by kernel_rfl) (fun u => (by kernel_rfl)) (Fr.alive_calls S _ hS_8) fun ac11 W11 hb11 I11 => ?_
    have HB12 := HB6.trans (hb11.mono HB6.size)
    have M_13 := M_7.later hb11
    have hS_14 := hS_8.later hb11
    refine Ev.row_v 1 I11 (by kernel_rfl) (by kernel_rfl) fun ac15 I15 => ?_
    show Code.ret.wp _ _ _ _
    refine wp_ret ?_
    simp only [Exit.then]
    refine Ev.ret1 I15 rfl (v := .bool true) (by kernel_rfl) ?_
    exact ⟨rfl, HB12⟩
  refine wp_skip ?_
  simp only [Exit.then]
  have hl0 : len0 ≤ 200 := by simp at hz; omega
  clear hz
  have hl : (Sm.sealB x0).length ≤ 1000000 := by rw [Fr.sealB_length]; have := w0.len; omega
  refine Ev.seq_row ?_
  refine Ev.row_v 1 J10 (by kernel_rfl) (by kernel_rfl) fun ac16 I16 => ?_
  simp only [List.drop_succ_cons, List.drop_zero]
  refine Ev.call_ok (l := [.func 12, .tmp 22]) (A := []) (f := 12) (args := #[.slice a0 len0 cap0]) (R := fun v w' => ∃ q r, v = .slice q (Sm.sealB x0).length r ∧ Sm.Row8 w' w'.heap.size q (Sm.sealB x0).length r (Sm.sealB x0) ∧ Below W5.heap.size W5 w') I16 (by kernel_rfl) (by kernel_rfl) (by kernel_rfl) rfl (by kernel_rfl) (fun u => (by kernel_rfl)) ?_ (fun v w' h => by obtain ⟨_, _, _, _, h⟩ := h; exact h) ?_
  · refine (Sm.sealR_calls _ _ _ x0 _ M_7 (by omega)).mono ?_
    rintro e w' ⟨v, rfl, hm⟩; obtain ⟨q, r, rfl, h1, h2⟩ := hm.slice; exact ⟨_, rfl, q, r, rfl, h1, h2⟩
  rintro v ac17 W17 ⟨qs, rs, rfl, hrs, hb17⟩ I17
  have HB18 := HB6.trans (hb17.mono HB6.size)
  have M_19 := M_7.later hb17
  have hS_20 := hS_8.later hb17
  refine Ev.row_v 1 I17 (by kernel_rfl) (by kernel_rfl) fun ac21 I21 => ?_
  show Code.wp _ _ _ _ _
  have J22 := I21.to [3] (s2 := { tab := [⟨3, [], .v (.slice qs (Sm.sealB x0).length rs)⟩], mem := [] }) (by kernel_rfl)
  clear I21
  refine Ev.seq_row ?_
  refine Ev.row_v 1 J22 (by kernel_rfl) (by kernel_rfl) fun ac23 I23 => ?_
  simp only [List.drop_succ_cons, List.drop_zero]
  refine Ev.call_ok (l := [.func 6, .tmp 25]) (A := []) (f := 6) (args := #[.slice qs (Sm.sealB x0).length rs]) (R := fun v w' => ∃ b1d b2d b3d b4d b5d b6d, v = .tuple #[.agg (Fr.cells (Fr.frOf res) (.slice b1d b2d b3d) (.slice b4d b5d b6d)).toArray, .int .i64 (Fr.noOf (Fr.errOf res))] ∧ Fr.FrV w' w'.heap.size (.agg (Fr.cells (Fr.frOf res) (.slice b1d b2d b3d) (.slice b4d b5d b6d)).toArray) (Fr.frOf res) ∧ Below W17.heap.size W17 w') I23 (by kernel_rfl) (by kernel_rfl) (by kernel_rfl) rfl (by kernel_rfl) (fun u => (by kernel_rfl)) ?_ (fun v w' h => by obtain ⟨_, _, _, _, _, _, _, _, h⟩ := h; exact h) ?_
  · refine (Fr.decode_calls _ _ _ S (Sm.sealB x0) _ hrs hS_20 hl).mono ?_
    rw [hres]; rintro e w' ⟨cs, rfl, h1, h2⟩; obtain ⟨y1, y2, y3, y4, y5, y6, ecs, _⟩ := id h1; injection ecs with ecs; rw [ecs] at h1; exact ⟨_, rfl, y1, y2, y3, y4, y5, y6, by rw [ecs], h1, h2⟩
  rintro v ac24 W24 ⟨b1d, b2d, b3d, b4d, b5d, b6d, rfl, hfd, hb24⟩ I24
  have HB25 := HB18.trans (hb24.mono HB18.size)
  have hS_26 := hS_20.later hb24
  have Rs_27 := hrs.later hb24
  refine Ev.row_q 6 I24 (by kernel_rfl) (by kernel_rfl) (by kernel_rfl) fun ρ28 ac28 W28 I28 hb28 => ?_
  have HB29 := HB25.trans (hb28.mono HB25.size)
  have hS_30 := hS_26.later hb28
  have Rs_31 := Rs_27.later hb28
  have Dd_32 := hfd.later hb28
  show Code.wp _ _ _ _ _
  have J33 := I28.to [3, 4, 5] (s2 := { tab := [⟨3, [], .v (.slice qs (Sm.sealB x0).length rs)⟩, ⟨4, [], .p 0 0⟩, ⟨5, [], .v (.int .i64 (Fr.noOf (Fr.errOf res)))⟩], mem := [(26, (Fr.cells (Fr.frOf res) (.slice b1d b2d b3d) (.slice b4d b5d b6d)))] }) (by kernel_rfl)
  clear I28
  refine Ev.seq_row ?_
  refine Ev.row_v 1 J33 (by kernel_rfl) (by kernel_rfl) fun ac34 I34 => ?_
  simp only [List.drop_succ_cons, List.drop_zero]
  refine Ev.call_ok (l := [.func 7, .tmp 30]) (A := []) (f := 7) (args := #[.slice qs (Sm.sealB x0).length rs]) (R := fun v w' => ∃ b1e b2e b3e b4e b5e b6e, v = .tuple #[.agg (Fr.cells (Fr.frOf res) (.slice b1e b2e b3e) (.slice b4e b5e b6e)).toArray, .int .i64 (Fr.noOf (Fr.errOf res))] ∧ Fr.FrV w' w'.heap.size (.agg (Fr.cells (Fr.frOf res) (.slice b1e b2e b3e) (.slice b4e b5e b6e)).toArray) (Fr.frOf res) ∧ Below W28.heap.size W28 w') I34 (by kernel_rfl) (by kernel_rfl) (by kernel_rfl) rfl (by kernel_rfl) (fun u => (by kernel_rfl)) ?_ (fun v w' h => by obtain ⟨_, _, _, _, _, _, _, _, h⟩ := h; exact h) ?_
  · refine (Fr.decodeR_calls _ _ _ (Sm.sealB x0) _ Rs_31  hl).mono ?_
    rw [hres]; rintro e w' ⟨cs, rfl, h1, h2⟩; obtain ⟨y1, y2, y3, y4, y5, y6, ecs, _⟩ := id h1; injection ecs with ecs; rw [ecs] at h1; exact ⟨_, rfl, y1, y2, y3, y4, y5, y6, by rw [ecs], h1, h2⟩
  rintro v ac35 W35 ⟨b1e, b2e, b3e, b4e, b5e, b6e, rfl, hfe, hb35⟩ I35
  have HB36 := HB29.trans (hb35.mono HB29.size)
  have hS_37 := hS_30.later hb35
  have Rs_38 := Rs_31.later hb35
  have Dd_39 := Dd_32.later hb35
  refine Ev.row_q 6 I35 (by kernel_rfl) (by kernel_rfl) (by kernel_rfl) fun ρ40 ac40 W40 I40 hb40 => ?_
  have HB41 := HB36.trans (hb40.mono HB36.size)
  have hS_42 := hS_37.later hb40
  have Rs_43 := Rs_38.later hb40
  have Dd_44 := Dd_39.later hb40
  have De_45 := hfe.later hb40
  show Code.wp _ _ _ _ _
  have J46 := I40.to [3, 4, 5, 6, 7] (s2 := { tab := [⟨3, [], .v (.slice qs (Sm.sealB x0).length rs)⟩, ⟨4, [], .p 0 0⟩, ⟨5, [], .v (.int .i64 (Fr.noOf (Fr.errOf res)))⟩, ⟨6, [], .p 1 0⟩, ⟨7, [], .v (.int .i64 (Fr.noOf (Fr.errOf res)))⟩], mem := [(26, (Fr.cells (Fr.frOf res) (.slice b1d b2d b3d) (.slice b4d b5d b6d))), (26, (Fr.cells (Fr.frOf res) (.slice b1e b2e b3e) (.slice b4e b5e b6e)))] }) (by kernel_rfl)
  clear I40
  refine Ev.seq_row ?_
  refine Ev.row_v 1 J46 (by kernel_rfl) (by kernel_rfl) fun ac47 I47 => ?_
  simp only [List.drop_succ_cons, List.drop_zero]
  refine Ev.gcall_ok (l := [.func 8, .tmp 35]) (A := []) (f := 8) (args := #[.slice qs (Sm.sealB x0).length rs]) (v := .tuple #[.int .i64 (Fr.noOf (Fr.errOf res)), .int .i64 ((Fr.atOf (Fr.errOf res) : Nat) : Int)]) I47 (by kernel_rfl) (by kernel_rfl) rfl (by kernel_rfl) (fun u => (by kernel_rfl)) (by rw [← hres]; exact Fr.why_calls _ _ _ S (Sm.sealB x0) _ Rs_43 hS_42 hl) fun ac48 W48 hb48 I48 => ?_
  have HB49 := HB41.trans (hb48.mono HB41.size)
  have hS_50 := hS_42.later hb48
  have Rs_51 := Rs_43.later hb48
  have Dd_52 := Dd_44.later hb48
  have De_53 := De_45.later hb48
  refine Ev.row_v 5 I48 (by kernel_rfl) (by kernel_rfl) fun ac54 I54 => ?_
  show Code.wp _ _ _ _ _
  refine Ev.seq_row ?_
  refine Ev.row_v 1 I54 (by kernel_rfl) (by kernel_rfl) fun ac55 I55 => ?_
  simp only [List.drop_succ_cons, List.drop_zero]
  refine Ev.gcall_ok (l := [.func 9, .tmp 40]) (A := []) (f := 9) (args := #[.slice qs (Sm.sealB x0).length rs]) (v := .tuple #[.int .i64 (Fr.noOf (Fr.errOf res)), .int .i64 ((Fr.atOf (Fr.errOf res) : Nat) : Int)]) I55 (by kernel_rfl) (by kernel_rfl) rfl (by kernel_rfl) (fun u => (by kernel_rfl)) (by rw [← hres]; exact Fr.whyR_calls _ _ _ (Sm.sealB x0) _ Rs_51 hl) fun ac56 W56 hb56 I56 => ?_
  have HB57 := HB49.trans (hb56.mono HB49.size)
  have hS_58 := hS_50.later hb56
  have Rs_59 := Rs_51.later hb56
  have Dd_60 := Dd_52.later hb56
  have De_61 := De_53.later hb56
  refine Ev.row_v 5 I56 (by kernel_rfl) (by kernel_rfl) fun ac62 I62 => ?_
  show Code.wp _ _ _ _ _
  refine wp_seq (wp_seq (wp_region_list ?_))
  refine Ev.row_v 2 I62 (by kernel_rfl) (by kernel_rfl) fun ac63 I63 => ?_
  simp only [List.drop_succ_cons, List.drop_zero]
  refine Ev.gcall_ok (l := [.func 10, .tmp 44, .tmp 45]) (A := []) (f := 10) (args := #[.agg (Fr.cells (Fr.frOf res) (.slice b1d b2d b3d) (.slice b4d b5d b6d)).toArray, .agg (Fr.cells (Fr.frOf res) (.slice b1e b2e b3e) (.slice b4e b5e b6e)).toArray]) (v := .bool (decide ((Fr.frOf res) = (Fr.frOf res)))) I63 (by kernel_rfl) (by kernel_rfl) rfl (by kernel_rfl) (fun u => (by kernel_rfl)) (Fr.sameR_calls _ _ (Fr.frOf res) (Fr.frOf res) _ _ _ Dd_60 De_61 (Nat.le_refl _) (Nat.le_refl _)) fun ac64 W64 hb64 I64 => ?_
  have HB65 := HB57.trans (hb64.mono HB57.size)
  have hS_66 := hS_58.later hb64
  have Rs_67 := Rs_59.later hb64
  have Dd_68 := Dd_60.later hb64
  have De_69 := De_61.later hb64
  refine Ev.row_v 3 I64 (by kernel_rfl) (by kernel_rfl) fun ac70 I70 => ?_
  simp only [List.drop_succ_cons, List.drop_zero]
  refine Ev.gcall_ok (l := [.func 11, .tmp 49]) (A := [(48, false)]) (f := 11) (args := #[.int .i64 (Fr.noOf (Fr.errOf res))]) (v := .int .i64 (Fr.noOf (Fr.errOf res))) I70 (by kernel_rfl) (by kernel_rfl) rfl (by kernel_rfl) (fun u => (by kernel_rfl)) (Fr.num_calls _ _) fun ac71 W71 hb71 I71 => ?_
  have HB72 := HB65.trans (hb71.mono HB65.size)
  have hS_73 := hS_66.later hb71
  have Rs_74 := Rs_67.later hb71
  have Dd_75 := Dd_68.later hb71
  have De_76 := De_69.later hb71
  refine Ev.row_v 5 I71 (by kernel_rfl) (by kernel_rfl) fun ac77 I77 => ?_
  simp only [List.drop_succ_cons, List.drop_zero]
  refine Ev.gcall_ok (l := [.func 11, .tmp 55]) (A := [(54, false)]) (f := 11) (args := #[.int .i64 (Fr.noOf (Fr.errOf res))]) (v := .int .i64 (Fr.noOf (Fr.errOf res))) I77 (by kernel_rfl) (by kernel_rfl) rfl (by kernel_rfl) (fun u => (by kernel_rfl)) (Fr.num_calls _ _) fun ac78 W78 hb78 I78 => ?_
  have HB79 := HB72.trans (hb78.mono HB72.size)
  have hS_80 := hS_73.later hb78
  have Rs_81 := Rs_74.later hb78
  have Dd_82 := Dd_75.later hb78
  have De_83 := De_76.later hb78
  refine Ev.row_v 8 I78 (by kernel_rfl) (by kernel_rfl) fun ac84 I84 => ?_
  have J85 := I84.to [3, 4, 5, 64] (s2 := { tab := [⟨3, [], .v (.slice qs (Sm.sealB x0).length rs)⟩, ⟨4, [], .p 0 0⟩, ⟨5, [], .v (.int .i64 (Fr.noOf (Fr.errOf res)))⟩, ⟨64, [], .v (.bool (!decide ((Fr.frOf res) = (Fr.frOf res)) || ((Fr.noOf (Fr.errOf res)) != (Fr.noOf (Fr.errOf res))) || ((Fr.noOf (Fr.errOf res)) != (Fr.noOf (Fr.errOf res))) || (((Fr.atOf (Fr.errOf res) : Nat) : Int) != ((Fr.atOf (Fr.errOf res) : Nat) : Int))))⟩], mem := [(26, (Fr.cells (Fr.frOf res) (.slice b1d b2d b3d) (.slice b4d b5d b6d))), (26, (Fr.cells (Fr.frOf res) (.slice b1e b2e b3e) (.slice b4e b5e b6e)))] }) (by kernel_rfl)
  clear I84
  show (Code.cond _ _ _).wp _ _ _ _
  refine Ev.cond_ok J85 (z := (!decide ((Fr.frOf res) = (Fr.frOf res)) || ((Fr.noOf (Fr.errOf res)) != (Fr.noOf (Fr.errOf res))) || ((Fr.noOf (Fr.errOf res)) != (Fr.noOf (Fr.errOf res))) || (((Fr.atOf (Fr.errOf res) : Nat) : Int) != ((Fr.atOf (Fr.errOf res) : Nat) : Int)))) (by kernel_rfl) (fun hz => ?_) (fun hz => ?_)
  · exfalso
    simp at hz
  refine wp_skip ?_
  simp only [Exit.then]
  clear hz
  refine wp_seq (wp_seq (wp_region_list ?_))
  refine Ev.row_v 2 J85 (by kernel_rfl) (by kernel_rfl) fun ac86 I86 => ?_
  have J87 := I86.to [3, 4, 5, 66] (s2 := { tab := [⟨3, [], .v (.slice qs (Sm.sealB x0).length rs)⟩, ⟨4, [], .p 0 0⟩, ⟨5, [], .v (.int .i64 (Fr.noOf (Fr.errOf res)))⟩, ⟨66, [], .v (.bool ((Fr.noOf (Fr.errOf res)) != 0))⟩], mem := [(26, (Fr.cells (Fr.frOf res) (.slice b1d b2d b3d) (.slice b4d b5d b6d))), (26, (Fr.cells (Fr.frOf res) (.slice b1e b2e b3e) (.slice b4e b5e b6e)))] }) (by kernel_rfl)
  clear I86
  show (Code.cond _ _ _).wp _ _ _ _
  refine Ev.cond_ok J87 (z := ((Fr.noOf (Fr.errOf res)) != 0)) (by kernel_rfl) (fun hz => ?_) (fun hz => ?_)
  · clear hz
    refine Ev.seq_row ?_
    refine Ev.row_v 1 J87 (by kernel_rfl) (by kernel_rfl) fun ac88 I88 => ?_
    show Code.ret.wp _ _ _ _
    refine wp_ret ?_
    simp only [Exit.then]
    refine Ev.ret1 I88 rfl (v := .bool true) (by kernel_rfl) ?_
    exact ⟨rfl, HB79⟩
  refine wp_skip ?_
  simp only [Exit.then]
  have hm := Fr.sealed_ok hres (by simpa using hz)
  clear hz
  refine Ev.seq_row ?_
  refine Ev.row_v 1 J87 (by kernel_rfl) (by kernel_rfl) fun ac89 I89 => ?_
  simp only [List.drop_succ_cons, List.drop_zero]
  refine Ev.call_ok (l := [.func 13, .tmp 68]) (A := []) (f := 13) (args := #[.agg (Fr.cells (Fr.frOf res) (.slice b1d b2d b3d) (.slice b4d b5d b6d)).toArray]) (R := fun v w' => ∃ q r, v = .tuple #[.slice q (Sm.sealB x0).length r, .int .i64 0] ∧ Sm.Row8 w' w'.heap.size q (Sm.sealB x0).length r (Sm.sealB x0) ∧ Below W78.heap.size W78 w') I89 (by kernel_rfl) (by kernel_rfl) (by kernel_rfl) rfl (by kernel_rfl) (fun u => (by kernel_rfl)) ?_ (fun v w' h => by obtain ⟨_, _, _, _, h⟩ := h; exact h) ?_
  · refine (Fr.encode_calls (Fr.frOf res) _ _ S _ Dd_82 (Nat.le_refl _) hS_80).mono ?_
    rintro e w' ⟨q, r, rfl, h1, h2⟩; rw [hm.2] at h1; exact ⟨_, rfl, q, r, by rw [hm.2, if_pos hm.1], h1, h2⟩
  rintro v ac90 W90 ⟨qe, re, rfl, hre, hb90⟩ I90
  have HB91 := HB79.trans (hb90.mono HB79.size)
  have hS_92 := hS_80.later hb90
  have Rs_93 := Rs_81.later hb90
  have Dd_94 := Dd_82.later hb90
  have De_95 := De_83.later hb90
  refine Ev.row_v 5 I90 (by kernel_rfl) (by kernel_rfl) fun ac96 I96 => ?_
  show Code.wp _ _ _ _ _
  have J97 := I96.to [3, 12, 13] (s2 := { tab := [⟨3, [], .v (.slice qs (Sm.sealB x0).length rs)⟩, ⟨12, [], .v (.slice qe (Sm.sealB x0).length re)⟩, ⟨13, [], .v (.int .i64 0)⟩], mem := [(26, (Fr.cells (Fr.frOf res) (.slice b1d b2d b3d) (.slice b4d b5d b6d))), (26, (Fr.cells (Fr.frOf res) (.slice b1e b2e b3e) (.slice b4e b5e b6e)))] }) (by kernel_rfl)
  clear I96
  refine Ev.seq_row ?_
  refine Ev.row_v 4 J97 (by kernel_rfl) (by kernel_rfl) fun ac98 I98 => ?_
  simp only [List.drop_succ_cons, List.drop_zero]
  refine Ev.conv_okA (A := [(74, true)]) (xv := .slice qe (Sm.sealB x0).length re) (v := .string (Sm.str (Sm.sealB x0))) I98 (by kernel_rfl) (by kernel_rfl) rfl (by kernel_rfl) (Sm.conv_str (P := Tryz.prog) hre Tryz.underlying22 Tryz.underlying5 Tryz.underlying9) fun ac99 I99 => ?_
  refine Ev.row_v 1 I99 (by kernel_rfl) (by kernel_rfl) fun ac100 I100 => ?_
  simp only [List.drop_succ_cons, List.drop_zero]
  refine Ev.conv_okA (A := [(74, true)]) (xv := .slice qs (Sm.sealB x0).length rs) (v := .string (Sm.str (Sm.sealB x0))) I100 (by kernel_rfl) (by kernel_rfl) rfl (by kernel_rfl) (Sm.conv_str (P := Tryz.prog) Rs_93 Tryz.underlying22 Tryz.underlying5 Tryz.underlying9) fun ac101 I101 => ?_
  refine Ev.row_v 3 I101 (by kernel_rfl) (by kernel_rfl) fun ac102 I102 => ?_
  show Code.ret.wp _ _ _ _
  refine wp_ret ?_
  refine Ev.ret1 I102 rfl (v := .bool (((0 : Int) == 0) && ((Sm.str (Sm.sealB x0)).toList == (Sm.str (Sm.sealB x0)).toList))) (by kernel_rfl) ?_
  refine ⟨?_, HB91⟩
  simp

/-! ### THE ROW's STEP -/
set_option maxRecDepth 100000 in
theorem lifted (os : Os) (started : os.Started) (H : Type) (enc : TypeId × Value → H) :
    ReturnsInHanded {} Tryz.checked os 4 .any (fun w args => (Rows.frameSealedSpec.pre enc Tryz.prog Tryz.f4 Rows.frameSealedRow.domain false w args ∧ laidMetH Tryz.prog Fr.laidL w) ∧ sizedMet enc Tryz.prog Tryz.f4 (OpenSpec.ofChange Rows.frameSealedSpec) false w args)
      (Rows.frameSealedSpec.post enc Tryz.prog Tryz.f4 false true false false) := by
  refine returnsInHanded_of_change_and (C := Tryz.checked) (X := fun w _ => laidMetH Tryz.prog Fr.laidL w) (fun _ _ _ hh h => h.of_heap hh) own started (by kernel_rfl) Tryz.func4
    (ChangeSpec.witness_shaped (enc := enc) (C := Tryz.checked) (os := os) (X := fun w _ => laidMetH Tryz.prog Fr.laidL w) false (World.doorLaid Tryz.prog 400 os) #[.slice none 0 0] 8 rfl (Fr.laid_shaped os _) (by kernel_rfl) (by kernel_rfl) (by kernel_rfl) (Fr.laid_met os _)) ?_
  intro W base args ds gs before hval0 hW _ _ hL _
  have hval : ∀ (j : Nat) t v, Tryz.f4.params[j]? = some t → args[j]? = some v → Value.okWide Tryz.prog W .any base t v := hval0
  have hW' := hW
  obtain ⟨p, q, hA0, hV, rfl, hfz, hnd⟩ := hW
  obtain ⟨S, hS⟩ := Fr.sents_of_laid hL
  have hA : DataW.TrodAll enc Tryz.prog W 0 (fun _ => true) true Tryz.f4.params.toList args.toList ds p := hA0
  rw [Tryz.params4] at hA hval
  obtain ⟨v0, vs0, d0, ds0, p0, q0, hargs, rfl, rfl, h0, r0⟩ := trodAll_cons hA
  obtain ⟨rfl, rfl, rfl⟩ := trodAll_nil r0
  obtain rfl : args = #[v0] := by cases args; simp_all
  obtain ⟨rfl, rfl⟩ := trodVars_none hV
  obtain ⟨a0, len0, cap0, rfl⟩ := okWide_slice Tryz.underlying22 (hval 0 22 v0 rfl rfl)
  have k0 := h0
  have lt0 : ∀ x ∈ p0, x.block < W.heap.size := by obtain ⟨m, hm⟩ := k0; exact DataW.trod_lt m _ _ _ hm
  obtain ⟨x0, w0⟩ := Sm.Row8.of_trod Tryz.underlying22 Tryz.underlying5 (by kernel_rfl) h0
  clear hA0 hval0
  refine (walk a0 len0 cap0 x0 S W w0 hS).mono fun e W' ⟨he, bel⟩ => ?_
  subst he
  exact ⟨_, rfl, _, _, _, [], _, [], hW', trodAll_mk1 (shut_bool Tryz.underlying4 _), (trodAll_cons_mk (Below.trod laidOut (by kernel_rfl) (of_decide_eq_true (by kernel_rfl)) k0 bel lt0) trodAll_mk0), rfl, bel.frame _, fun h => by cases h⟩

theorem over : Rows.frameSealedRow.holds Tryz.pinned (OpenSpec.ofChange Rows.frameSealedSpec) :=
  OpenClaim.holds_of_wide 4 Tryz.f4 rfl rfl rfl rfl rfl rfl rfl ⟨rfl, rfl, rfl, rfl, rfl⟩ rfl rfl rfl rfl rfl (by kernel_rfl) Tryz.func4 (by kernel_rfl)
    (of_decide_eq_true (by kernel_rfl)) (by unfold Func.isWrapper; first | (rw [if_pos (by decide +kernel)]; kernel_rfl) | (rw [if_neg (by decide +kernel)]; exact ⟨rfl, rfl⟩))
    (fun os started H enc _ => lifted os started H enc)

theorem proved : Rows.FrameSealedCardSaid :=
  Claim7.holds_tied_plain_at .later [] [.handle, .sentinel, .sentinel, .sentinel, .sentinel, .sentinel] true (true, "a342f1434b76ab051945d57519797fa830aac0ca3c0180b1394f607d2ee4aa50") true
    over (fun _ h => by cases h) (by kernel_rfl) (fun _ h => by cases h) frameSealed_row_tie rfl ⟨rfl, rfl⟩ (by kernel_rfl) rfl
    (fun f fn hf hfn => by
      obtain rfl : f = 4 := Option.some.inj ((show Tryz.prog.funcNamed "drumline/drumlinelaw4.FrameSealed" = some 4 by kernel_rfl).symm.trans hf) |>.symm
      obtain rfl : fn = Tryz.f4 := (Option.some.inj (Tryz.func4.symm.trans hfn)).symm
      exact ⟨by kernel_rfl, fun j t ht => by
        rw [Tryz.params4] at ht
        have hm : t ∈ [22] := by simpa using Array.mem_of_getElem? ht
        have hall : ([22].all fun u => !Tryz.prog.wantsStandIn u) = true := by kernel_rfl
        exact (show Tryz.prog.wantsStandIn t = false by simpa using List.all_eq_true.1 hall t hm)⟩)
    (by kernel_rfl)
#print axioms proved
end Go.Proofs.YtfpgdimgffamoaaGreatDoor.frameSealed
