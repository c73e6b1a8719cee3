/- For every frame f, place at and row of bits the law FrameTurns returns true: a frame's bytes of which a row of at most 32 bits was turned have no right sum, and those of which none was are read. The package's error variables are as the program's text lays them; no condition beyond the statement's own. -/
import Derived.Test.YtliejllegabdnaaDoorRows
import Derived.WalkKit
import Derived.ProofKit
import Derived.OpenShut
import Derived.Test.YtliejllegabdnaaDoorFrMayR
import Derived.Test.YtliejllegabdnaaDoorFrAlive
import Derived.Test.YtliejllegabdnaaDoorFrSmall
import Derived.Test.YtliejllegabdnaaDoorFrArgs
import Derived.Test.YtliejllegabdnaaDoorSmTurnP
import Derived.ShutString
import Derived.ChangeOld
import Derived.Below
import Derived.Test.YtliejllegabdnaaDoorCards
import Derived.Test.YtliejllegabdnaaDoorTie
import Derived.SevenTiedAt
import Derived.Test.YtliejllegabdnaaDoorFrLaid
namespace Go.Proofs.YtliejllegabdnaaDoor.frameTurns
open Go.ChangeShapes Go.WideShapes Go.ChangeAt Go.RowKit
open Go.ChangeMaps (open_string shut_string)
set_option linter.unusedVariables false

theorem own : ownKnob Tryd.prog.godebug = none := by kernel_rfl
theorem laidOut : laidOutB Tryd.prog = true := by kernel_rfl

set_option maxHeartbeats 4000000 in
set_option maxRecDepth 100000 in
theorem walk (v0 : Value) (x0 : Fr.Frame) (a1 : Int) (a2 : Int) (S : Fr.Sn) (w : World) (w0 : Fr.FrV w w.heap.size v0 x0) (w1 : (Lit.int .u16 a1).wf = true) (w2 : (Lit.int .u32 a2).wf = true) (hS : Fr.Sents w w.heap.size S) :
    Calls Tryd.prog 6 #[v0, .int .u16 a1, .int .u32 a2] w fun e w' => e = .returned (.bool true) ∧ Below w.heap.size w w' := by
  obtain ⟨a, n, c, a', n', c', ev0, _⟩ := id w0
  subst ev0
  have hat := bounds_u16 w1
  have hrw := bounds_u32 w2
  obtain ⟨R, hR⟩ : ∃ R : BitVec 32, a2 = (R.toNat : Int) := ⟨BitVec.ofNat 32 a2.toNat, by rw [BitVec.toNat_ofNat]; omega⟩
  refine Ev.enter (N := 103) Tryd.func6 rfl rfl (Nat.le_of_ble_eq_true rfl) fun act I0 => ?_
  refine Ev.seq_q I0 (by kernel_rfl) (by kernel_rfl) (by kernel_rfl) fun ρ1 ac1 W1 I1 hb1 => ?_
  have HB2 : Below w.heap.size w W1 := hb1
  have F0_3 := w0.later hb1
  have hS_4 := hS.later hb1
  refine Ev.seq_row ?_
  refine Ev.row_v 1 I1 (by kernel_rfl) (by kernel_rfl) fun ac5 I5 => ?_
  simp only [List.drop_succ_cons, List.drop_zero]
  refine Ev.call_ok (l := [.func 10, .tmp 15]) (A := []) (f := 10) (args := #[.agg (Fr.cells x0 (.slice a n c) (.slice a' n' c')).toArray]) (R := fun v w' => ∃ q r, v = .tuple #[.slice q (Fr.bytesOf x0).length r, .int .i64 (if Fr.mayB x0 = true then 0 else 1)] ∧ Sm.Row8 w' w'.heap.size q (Fr.bytesOf x0).length r (Fr.bytesOf x0) ∧ Below W1.heap.size W1 w') I5 (by kernel_rfl) (by kernel_rfl) (by kernel_rfl) rfl (by kernel_rfl) (fun u => (by kernel_rfl)) ?_ (fun v w' h => by obtain ⟨_, _, _, _, h⟩ := h; exact h) ?_
  · refine (Fr.encode_calls x0 _ _ S _ F0_3 (Nat.le_refl _) hS_4).mono ?_
    rintro e w' ⟨q, r, rfl, h1, h2⟩; exact ⟨_, rfl, q, r, rfl, h1, h2⟩
  rintro v ac6 W6 ⟨qx0, rx0, rfl, hrx0, hb6⟩ I6
  have HB7 := HB2.trans (hb6.mono HB2.size)
  have F0_8 := F0_3.later hb6
  have hS_9 := hS_4.later hb6
  refine Ev.row_v 5 I6 (by kernel_rfl) (by kernel_rfl) fun ac10 I10 => ?_
  show Code.wp _ _ _ _ _
  have J11 := I10.to [3, 1, 2, 7, 8] (s2 := { tab := [⟨3, [], .p 0 0⟩, ⟨1, [], .v (.int .u16 a1)⟩, ⟨2, [], .v (.int .u32 a2)⟩, ⟨7, [], .v (.slice qx0 (Fr.bytesOf x0).length rx0)⟩, ⟨8, [], .v (.int .i64 (if Fr.mayB x0 = true then (0 : Int) else 1))⟩], mem := [(25, (Fr.cells x0 (.slice a n c) (.slice a' n' c')))] }) (by kernel_rfl)
  clear I10
  refine wp_seq (wp_seq (wp_region_list ?_))
  refine Ev.gcall_ok (l := [.func 8]) (A := []) (f := 8) (args := #[]) (v := .bool true) J11 (by kernel_rfl) (by kernel_rfl) rfl (by kernel_rfl) (fun u => (by kernel_rfl)) (Fr.alive_calls S _ hS_9) fun ac12 W12 hb12 I12 => ?_
  have HB13 := HB7.trans (hb12.mono HB7.size)
  have F0_14 := F0_8.later hb12
  have hS_15 := hS_9.later hb12
  have Rx0_16 := hrx0.later hb12
  refine Ev.row_v 3 I12 (by kernel_rfl) (by kernel_rfl) fun ac17 I17 => ?_
  simp only [List.drop_succ_cons, List.drop_zero]
  refine Ev.gcall_ok (l := [.func 9, .tmp 22]) (A := [(21, false)]) (f := 9) (args := #[.agg (Fr.cells x0 (.slice a n c) (.slice a' n' c')).toArray]) (v := .bool (decide (x0.ages.length ≤ 40 ∧ x0.body.length ≤ 100))) I17 (by kernel_rfl) (by kernel_rfl) rfl (by kernel_rfl) (fun u => (by kernel_rfl)) (Fr.small_calls x0 _ _ _ F0_14) fun ac18 W18 hb18 I18 => ?_
  have HB19 := HB13.trans (hb18.mono HB13.size)
  have F0_20 := F0_14.later hb18
  have hS_21 := hS_15.later hb18
  have Rx0_22 := Rx0_16.later hb18
  refine Ev.row_v 10 I18 (by kernel_rfl) (by kernel_rfl) fun ac23 I23 => ?_
  have J24 := I23.to [3, 1, 2, 7, 8, 33] (s2 := { tab := [⟨3, [], .p 0 0⟩, ⟨1, [], .v (.int .u16 a1)⟩, ⟨2, [], .v (.int .u32 a2)⟩, ⟨7, [], .v (.slice qx0 (Fr.bytesOf x0).length rx0)⟩, ⟨8, [], .v (.int .i64 (if Fr.mayB x0 = true then (0 : Int) else 1))⟩, ⟨33, [], .v (.bool (!true || !(decide (x0.ages.length ≤ 40 ∧ x0.body.length ≤ 100)) || ((if Fr.mayB x0 = true then (0 : Int) else 1) != 0) || (a2 == 0)))⟩], mem := [(25, (Fr.cells x0 (.slice a n c) (.slice a' n' c')))] }) (by kernel_rfl)
  clear I23
  show (Code.cond _ _ _).wp _ _ _ _
  refine Ev.cond_ok J24 (z := (!true || !(decide (x0.ages.length ≤ 40 ∧ x0.body.length ≤ 100)) || ((if Fr.mayB x0 = true then (0 : Int) else 1) != 0) || (a2 == 0))) (by kernel_rfl) (fun hz => ?_) (fun hz => ?_)
  · clear hz
    refine Ev.seq_row ?_
    refine Ev.gcall_ok (l := [.func 8]) (A := []) (f := 8) (args := #[]) (v := .bool true) J24 (by kernel_rfl) (by kernel_rfl) rfl (by kernel_rfl) (fun u => (by kernel_rfl)) (Fr.alive_calls S _ hS_21) fun ac25 W25 hb25 I25 => ?_
    have HB26 := HB19.trans (hb25.mono HB19.size)
    have F0_27 := F0_20.later hb25
    have hS_28 := hS_21.later hb25
    have Rx0_29 := Rx0_22.later hb25
    refine Ev.row_v 4 I25 (by kernel_rfl) (by kernel_rfl) fun ac30 I30 => ?_
    simp only [List.drop_succ_cons, List.drop_zero]
    refine Ev.gcall_ok (l := [.func 13, .tmp 38]) (A := [(35, true)]) (f := 13) (args := #[.agg (Fr.cells x0 (.slice a n c) (.slice a' n' c')).toArray]) (v := .bool (Fr.mayB x0)) I30 (by kernel_rfl) (by kernel_rfl) rfl (by kernel_rfl) (fun u => (by kernel_rfl)) (Fr.mayR_calls x0 _ _ _ F0_27 (Nat.le_refl _)) fun ac31 W31 hb31 I31 => ?_
    have HB32 := HB26.trans (hb31.mono HB26.size)
    have F0_33 := F0_27.later hb31
    have hS_34 := hS_28.later hb31
    have Rx0_35 := Rx0_29.later hb31
    refine Ev.row_v 3 I31 (by kernel_rfl) (by kernel_rfl) fun ac36 I36 => ?_
    show Code.ret.wp _ _ _ _
    refine wp_ret ?_
    simp only [Exit.then]
    refine Ev.ret1 I36 rfl (v := .bool (true && (((if Fr.mayB x0 = true then (0 : Int) else 1) == 0) == Fr.mayB x0))) (by kernel_rfl) ?_
    refine ⟨?_, HB32⟩
    cases Fr.mayB x0 <;> rfl
  refine wp_skip ?_
  simp only [Exit.then]
  have hm0 : Fr.mayB x0 = true := by cases h : Fr.mayB x0 with | true => rfl | false => simp [h] at hz
  clear hz
  have hby : Fr.bytesOf x0 = Sm.sealB (Fr.enc x0) := by unfold Fr.bytesOf; rw [hm0, if_pos rfl]
  have hel := Fr.enc_le hm0
  have he3 := Fr.enc_length x0
  have hL : (Fr.bytesOf x0).length = (Fr.enc x0).length + 4 := by rw [hby, Fr.sealB_length]
  obtain ⟨i0, hi0, hq0, hq1, hq2⟩ := info_parts Sm.byte_info
  obtain ⟨N, hN⟩ : ∃ N, (Fr.bytesOf x0).length = N := ⟨_, rfl⟩
  refine Ev.seq_row ?_
  refine Ev.row_v 1 J24 (by kernel_rfl) (by kernel_rfl) fun ac37 I37 => ?_
  simp only [List.drop_succ_cons, List.drop_zero]
  have hlo : ∀ g ∈ _, g < W18.heap.size := fun g hg => I37.lt hg
  refine Ev.append_ok I37 rfl (by kernel_rfl) _ _ _ rfl W18.heap.size 5 i0 _ Tryd.underlying23 hi0 hq0 hq1 hq2 rfl (.slice none 0 0) [] (by kernel_rfl) (World.ownsRow_nil _ _ _ _) _ qx0 (Fr.bytesOf x0).length rx0 (Fr.bytesOf x0) (by kernel_rfl) Rx0_22 (by rw [List.length_nil]; omega) (Nat.le_refl _) hlo ?_
  rintro v38 ac38 W38 own38 hb38 I38
  rw [List.nil_append] at own38
  obtain ⟨gg, c1, rfl, hg, hgs⟩ := own38.form (by omega)
  refine Ev.row_v 1 I38 (by kernel_rfl) (by kernel_rfl) fun ac39 I39 => ?_
  show Code.wp _ _ _ _ _
  refine Ev.seq_row ?_
  refine Ev.row_v 5 I39 (by kernel_rfl) (by kernel_rfl) fun ac40 I40 => ?_
  simp only [List.drop_succ_cons, List.drop_zero]
  have J41 := I40.to [1, 2, 7, 9, 45, 48] (s2 := { tab := [⟨1, [], .v (.int .u16 a1)⟩, ⟨2, [], .v (.int .u32 a2)⟩, ⟨7, [], .v (.slice qx0 (Fr.bytesOf x0).length rx0)⟩, ⟨9, [], .v (.slice (some ⟨gg, 0, none⟩) (Fr.bytesOf x0).length c1)⟩, ⟨45, [], .v (.int .i64 (IntKind.i64.wrap a1))⟩, ⟨48, [], .v (.int .i64 (IntKind.i64.wrap (8 * ((Fr.bytesOf x0).length : Int))))⟩], mem := [(25, (Fr.cells x0 (.slice a n c) (.slice a' n' c')))] }) (by kernel_rfl)
  clear I40
  have e1 : IntKind.i64.wrap a1 = a1 := Ev.wrap_i64 (by omega) (by omega)
  have e2 : IntKind.i64.wrap (8 * ((Fr.bytesOf x0).length : Int)) = 8 * ((Fr.bytesOf x0).length : Int) := Ev.wrap_i64 (by omega) (by omega)
  rw [e1, e2] at J41
  obtain ⟨p, hp⟩ : ∃ p : Nat, a1.tmod (8 * ((Fr.bytesOf x0).length : Int)) = (p : Int) := ⟨(a1.tmod (8 * ((Fr.bytesOf x0).length : Int))).toNat, by rw [Int.toNat_of_nonneg (Int.tmod_nonneg _ (by omega))]⟩
  have hpl : p < 8 * (Fr.bytesOf x0).length := by have := Int.tmod_lt_of_pos a1 (show 0 < (8 * ((Fr.bytesOf x0).length : Int)) by omega); omega
  refine Ev.bin_ok (x := .tmp 45) (y := .tmp 48) (xv := .int .i64 a1) (yv := .int .i64 (8 * ((Fr.bytesOf x0).length : Int))) (v := .int .i64 (p : Int)) J41 (by kernel_rfl) (by kernel_rfl) rfl (by kernel_rfl) (by kernel_rfl) ⟨(by kernel_rfl), by rw [Ev.run_rem (by omega), hp]⟩ fun ac42 I42 => ?_
  refine Ev.row_v 1 I42 (by kernel_rfl) (by kernel_rfl) fun ac43 I43 => ?_
  show Code.wp _ _ _ _ _
  have J44 := I43.to [2, 7, 9, 10] (s2 := { tab := [⟨2, [], .v (.int .u32 a2)⟩, ⟨7, [], .v (.slice qx0 (Fr.bytesOf x0).length rx0)⟩, ⟨9, [], .v (.slice (some ⟨gg, 0, none⟩) (Fr.bytesOf x0).length c1)⟩, ⟨10, [], .v (.int .i64 (p : Int))⟩], mem := [(25, (Fr.cells x0 (.slice a n c) (.slice a' n' c')))] }) (by kernel_rfl)
  clear I43
  refine wp_seq (Ev.seq_v J44 (by kernel_rfl) (by kernel_rfl) fun ac45 I45 => wp_block ?_)
  have J46 := I45.to [2, 7, 9, 10, 11] (s2 := { tab := [⟨2, [], .v (.int .u32 a2)⟩, ⟨7, [], .v (.slice qx0 (Fr.bytesOf x0).length rx0)⟩, ⟨9, [], .v (.slice (some ⟨gg, 0, none⟩) (Fr.bytesOf x0).length c1)⟩, ⟨10, [], .v (.int .i64 (p : Int))⟩, ⟨11, [], .v (.int .i64 ((0 : Nat) : Int))⟩], mem := [(25, (Fr.cells x0 (.slice a n c) (.slice a' n' c')))] }) (by kernel_rfl)
  clear I45
  have hlen : ∀ k, (Sm.turnTo (Fr.bytesOf x0) p R.toNat k).length = (Fr.bytesOf x0).length := fun k => Sm.turnTo_length _ _ _ _
  refine wp_loop (fun aL wL => ∃ i : Nat, i ≤ 32 ∧ Ev.Inv w.heap.size _ { tab := [⟨2, [], .v (.int .u32 a2)⟩, ⟨7, [], .v (.slice qx0 (Fr.bytesOf x0).length rx0)⟩, ⟨9, [], .v (.slice (some ⟨gg, 0, none⟩) (Fr.bytesOf x0).length c1)⟩, ⟨10, [], .v (.int .i64 (p : Int))⟩, ⟨11, [], .v (.int .i64 (i : Int))⟩], mem := [(25, (Fr.cells x0 (.slice a n c) (.slice a' n' c')))] } 103 aL wL ∧ wL.ownsRow W18.heap.size 5 1 (.slice (some ⟨gg, 0, none⟩) (Fr.bytesOf x0).length c1) (Fr.bytesOf x0).length (Sm.cells8 (Sm.turnTo (Fr.bytesOf x0) p R.toNat i)) ∧ Below W18.heap.size W18 wL) (fun aL _ => 32 - (intOf (Sm.sl aL 11)).toNat) ⟨0, by omega, J46, own38, hb38⟩ ?_
  rintro aL wL ⟨i, hi, I, own, hb⟩
  have hmu : 32 - (intOf (Sm.sl aL 11)).toNat = 32 - i := by
    have : Sm.sl aL 11 = .int .i64 (i : Int) := I.val (x := .tmp 11) (by kernel_rfl)
    rw [this]
    simp [intOf]
  rw [hmu]
  clear hmu
  refine wp_seq (wp_seq (Ev.region_v I (by kernel_rfl) (by kernel_rfl) fun b1 I1 => ?_))
  have J47 := I1.to [2, 7, 9, 10, 11, 60] (s2 := { tab := [⟨2, [], .v (.int .u32 a2)⟩, ⟨7, [], .v (.slice qx0 (Fr.bytesOf x0).length rx0)⟩, ⟨9, [], .v (.slice (some ⟨gg, 0, none⟩) (Fr.bytesOf x0).length c1)⟩, ⟨10, [], .v (.int .i64 (p : Int))⟩, ⟨11, [], .v (.int .i64 (i : Int))⟩, ⟨60, [], .v (.bool (decide ((i : Int) < 32) && decide (IntKind.i64.wrap ((p : Int) + (i : Int)) < IntKind.i64.wrap (8 * ((Fr.bytesOf x0).length : Int)))))⟩], mem := [(25, (Fr.cells x0 (.slice a n c) (.slice a' n' c')))] }) (by kernel_rfl)
  clear I1
  have e3 : IntKind.i64.wrap ((p : Int) + (i : Int)) = ((p + i : Nat) : Int) := by rw [Ev.wrap_i64 (by omega) (by omega)]; omega
  rw [e2, e3] at J47
  show (Code.cond _ _ _).wp _ _ _ _
  refine Ev.cond_ok J47 (z := (decide ((i : Int) < 32) && decide (((p + i : Nat) : Int) < 8 * ((Fr.bytesOf x0).length : Int)))) (by kernel_rfl) (fun hz => ?_) (fun hz => ?_)
  · simp only [Bool.and_eq_true, decide_eq_true_eq] at hz
    refine wp_skip ?_
    simp only [Exit.then]
    obtain ⟨hi32, hpi⟩ : i < 32 ∧ p + i < 8 * (Fr.bytesOf x0).length := by omega
    refine wp_seq (wp_block ?_)
    refine Ev.seq_row ?_
    refine Ev.row_v 3 J47 (by kernel_rfl) (by kernel_rfl) fun ac48 I48 => ?_
    simp only [List.drop_succ_cons, List.drop_zero]
    have J49 := I48.to [2, 7, 9, 10, 11, 63, 65] (s2 := { tab := [⟨2, [], .v (.int .u32 a2)⟩, ⟨7, [], .v (.slice qx0 (Fr.bytesOf x0).length rx0)⟩, ⟨9, [], .v (.slice (some ⟨gg, 0, none⟩) (Fr.bytesOf x0).length c1)⟩, ⟨10, [], .v (.int .i64 (p : Int))⟩, ⟨11, [], .v (.int .i64 (i : Int))⟩, ⟨63, [], .v (.int .u32 a2)⟩, ⟨65, [], .v (.int .u64 (IntKind.u64.wrap (i : Int)))⟩], mem := [(25, (Fr.cells x0 (.slice a n c) (.slice a' n' c')))] }) (by kernel_rfl)
    clear I48
    rw [show IntKind.u64.wrap (i : Int) = (i : Int) by rw [IntKind.wrap_u64]; omega] at J49
    refine Ev.bin_ok (x := .tmp 63) (y := .tmp 65) (xv := .int .u32 a2) (yv := .int .u64 (i : Int)) (v := .int .u32 (a2 / 2 ^ i)) J49 (by kernel_rfl) (by kernel_rfl) rfl (by kernel_rfl) (by kernel_rfl) ⟨(by kernel_rfl), Sm.run_shr32 a2 i hi32⟩ fun ac50 I50 => ?_
    refine Ev.row_v 2 I50 (by kernel_rfl) (by kernel_rfl) fun ac51 I51 => ?_
    show (Code.cond _ _ _).wp _ _ _ _
    have J52 := I51.to [2, 7, 9, 10, 11, 68] (s2 := { tab := [⟨2, [], .v (.int .u32 a2)⟩, ⟨7, [], .v (.slice qx0 (Fr.bytesOf x0).length rx0)⟩, ⟨9, [], .v (.slice (some ⟨gg, 0, none⟩) (Fr.bytesOf x0).length c1)⟩, ⟨10, [], .v (.int .i64 (p : Int))⟩, ⟨11, [], .v (.int .i64 (i : Int))⟩, ⟨68, [], .v (.bool (bits .and .u32 (a2 / 2 ^ i) 1 == 1))⟩], mem := [(25, (Fr.cells x0 (.slice a n c) (.slice a' n' c')))] }) (by kernel_rfl)
    clear I51
    have hbt := Sm.bit_test R i
    rw [← hR] at hbt
    rw [hbt] at J52
    refine Ev.cond_ok J52 (z := R.toNat.testBit i) (by kernel_rfl) (fun hbit => ?_) (fun hbit => ?_)
    · have hd : (p + i) / 8 < (Fr.bytesOf x0).length := by omega
      obtain ⟨d, hdv⟩ : ∃ d, (Sm.turnTo (Fr.bytesOf x0) p R.toNat i)[(p + i) / 8]? = some d := ⟨_, List.getElem?_eq_getElem (by rw [hlen]; exact hd)⟩
      have hc : wL.cell? ⟨gg, (p + i) / 8, none⟩ = some (.int .u8 (d.toNat : Int)) := by rw [own.cellAt _ (by omega), Sm.cells8_get, hdv]; rfl
      have hf := own.frozenAt ((p + i) / 8)
      refine wp_region_list ?_
      refine Ev.row_v 10 J52 (by kernel_rfl) (by kernel_rfl) fun ac53 I53 => ?_
      simp only [List.drop_succ_cons, List.drop_zero]
      have J54 := I53.to [2, 7, 9, 10, 11, 69, 73, 74, 78] (s2 := { tab := [⟨2, [], .v (.int .u32 a2)⟩, ⟨7, [], .v (.slice qx0 (Fr.bytesOf x0).length rx0)⟩, ⟨9, [], .v (.slice (some ⟨gg, 0, none⟩) (Fr.bytesOf x0).length c1)⟩, ⟨10, [], .v (.int .i64 (p : Int))⟩, ⟨11, [], .v (.int .i64 (i : Int))⟩, ⟨69, [], .v (.slice (some ⟨gg, 0, none⟩) (Fr.bytesOf x0).length c1)⟩, ⟨73, [], .v (.int .i64 (IntKind.i64.wrap ((IntKind.i64.wrap ((p : Int) + (i : Int))).tdiv 8)))⟩, ⟨74, [], .v (.slice (some ⟨gg, 0, none⟩) (Fr.bytesOf x0).length c1)⟩, ⟨78, [], .v (.int .i64 (IntKind.i64.wrap ((IntKind.i64.wrap ((p : Int) + (i : Int))).tdiv 8)))⟩], mem := [(25, (Fr.cells x0 (.slice a n c) (.slice a' n' c')))] }) (by kernel_rfl)
      clear I53
      have e4 : (IntKind.i64.wrap ((IntKind.i64.wrap ((p : Int) + (i : Int))).tdiv 8)) = (((p + i) / 8 : Nat) : Int) := by rw [e3, show ((p + i : Nat) : Int).tdiv 8 = (((p + i) / 8 : Nat) : Int) from (Int.ofNat_tdiv (p + i) 8).symm, Ev.wrap_i64 (by omega) (by omega)]
      rw [e4] at J54
      refine Ev.idx_ok (x := .tmp 74) (y := .tmp 78) (xv := (.slice (some ⟨gg, 0, none⟩) (Fr.bytesOf x0).length c1)) (yv := .int .i64 (((p + i) / 8 : Nat) : Int)) (v := .pointer (some ⟨gg, (p + i) / 8, none⟩)) J54 (by kernel_rfl) (by kernel_rfl) rfl (by kernel_rfl) (by kernel_rfl) (Ev.run_index1 Tryd.underlying23 (by kernel_rfl) gg (Fr.bytesOf x0).length c1 _ hd _) fun ac55 I55 => ?_
      refine Ev.ld_ok (x := .tmp 79) (xv := .pointer (some ⟨gg, (p + i) / 8, none⟩)) (v := .int .u8 (d.toNat : Int)) I55 (by kernel_rfl) (by kernel_rfl) rfl (by kernel_rfl) (Ev.isRow_false (by kernel_rfl) hc) fun ac56 I56 => ?_
      refine Ev.row_v 5 I56 (by kernel_rfl) (by kernel_rfl) fun ac57 I57 => ?_
      simp only [List.drop_succ_cons, List.drop_zero]
      have J58 := I57.to [2, 7, 9, 10, 11, 69, 73, 80, 85] (s2 := { tab := [⟨2, [], .v (.int .u32 a2)⟩, ⟨7, [], .v (.slice qx0 (Fr.bytesOf x0).length rx0)⟩, ⟨9, [], .v (.slice (some ⟨gg, 0, none⟩) (Fr.bytesOf x0).length c1)⟩, ⟨10, [], .v (.int .i64 (p : Int))⟩, ⟨11, [], .v (.int .i64 (i : Int))⟩, ⟨69, [], .v (.slice (some ⟨gg, 0, none⟩) (Fr.bytesOf x0).length c1)⟩, ⟨73, [], .v (.int .i64 (((p + i) / 8 : Nat) : Int))⟩, ⟨80, [], .v (.int .u8 (d.toNat : Int))⟩, ⟨85, [], .v (.int .u64 (IntKind.u64.wrap ((IntKind.i64.wrap ((p : Int) + (i : Int))).tmod 8)))⟩], mem := [(25, (Fr.cells x0 (.slice a n c) (.slice a' n' c')))] }) (by kernel_rfl)
      clear I57
      rw [show IntKind.u64.wrap ((IntKind.i64.wrap ((p : Int) + (i : Int))).tmod 8) = (((p + i) % 8 : Nat) : Int) by rw [e3, show ((p + i : Nat) : Int).tmod 8 = (((p + i) % 8 : Nat) : Int) from (Int.ofNat_tmod (p + i) 8).symm, IntKind.wrap_u64]; omega] at J58
      refine Ev.bin_ok (x := .const (.int .u8 128)) (y := .tmp 85) (xv := .int .u8 128) (yv := .int .u64 (((p + i) % 8 : Nat) : Int)) (v := .int .u8 (128 / 2 ^ ((p + i) % 8))) J58 (by kernel_rfl) (by kernel_rfl) rfl (by kernel_rfl) (by kernel_rfl) ⟨(by kernel_rfl), Sm.run_shr8 128 _ (by omega)⟩ fun ac59 I59 => ?_
      refine Ev.row_v 1 I59 (by kernel_rfl) (by kernel_rfl) fun ac60 I60 => ?_
      simp only [List.drop_succ_cons, List.drop_zero]
      refine Ev.idx_ok (x := .tmp 69) (y := .tmp 73) (xv := (.slice (some ⟨gg, 0, none⟩) (Fr.bytesOf x0).length c1)) (yv := .int .i64 (((p + i) / 8 : Nat) : Int)) (v := .pointer (some ⟨gg, (p + i) / 8, none⟩)) I60 (by kernel_rfl) (by kernel_rfl) rfl (by kernel_rfl) (by kernel_rfl) (Ev.run_index1 Tryd.underlying23 (by kernel_rfl) gg (Fr.bytesOf x0).length c1 _ hd _) fun ac61 I61 => ?_
      have hb2 : Below W18.heap.size wL (wL.setCell ⟨gg, (p + i) / 8, none⟩ (.int .u8 (bits .xor .u8 (d.toNat : Int) (128 / 2 ^ ((p + i) % 8))))) := (Below.refl _ _).setCell (by exact hg) _
      refine Ev.st_ok (x := .tmp 88) (y := .tmp 87) (xv := .pointer (some ⟨gg, (p + i) / 8, none⟩)) (yv := (.int .u8 (bits .xor .u8 (d.toNat : Int) (128 / 2 ^ ((p + i) % 8))))) I61 (by kernel_rfl) rfl rfl (by kernel_rfl) (by kernel_rfl) (Ev.run_store1 (by kernel_rfl) gg _ _ rfl _ hc hf) (I61.laterB hb2 hlo) fun I62 => ?_
      show (Code.region _ _ _).wp _ _ _ _
      have own2 := (own.stored ((p + i) / 8) (.int .u8 (bits .xor .u8 (d.toNat : Int) (128 / 2 ^ ((p + i) % 8))))).1
      rw [Sm.cells8_flip _ _ d hdv, ← Sm.turnTo_yes hbit hpi] at own2
      refine Ev.region_v I62 (by kernel_rfl) (by kernel_rfl) fun ac63 I63 => ?_
      have J64 := I63.to [2, 7, 9, 10, 11] (s2 := { tab := [⟨2, [], .v (.int .u32 a2)⟩, ⟨7, [], .v (.slice qx0 (Fr.bytesOf x0).length rx0)⟩, ⟨9, [], .v (.slice (some ⟨gg, 0, none⟩) (Fr.bytesOf x0).length c1)⟩, ⟨10, [], .v (.int .i64 (p : Int))⟩, ⟨11, [], .v (.int .i64 (IntKind.i64.wrap ((i : Int) + 1)))⟩], mem := [(25, (Fr.cells x0 (.slice a n c) (.slice a' n' c')))] }) (by kernel_rfl)
      clear I63
      rw [show IntKind.i64.wrap ((i : Int) + 1) = ((i + 1 : Nat) : Int) by rw [Ev.wrap_i64 (by omega) (by omega)]; omega] at J64
      refine ⟨⟨i + 1, by omega, J64, own2, hb.trans hb2⟩, ?_⟩
      have : Sm.sl ac63 11 = .int .i64 ((i + 1 : Nat) : Int) := J64.val (x := .tmp 11) (by kernel_rfl)
      rw [this]
      simp [intOf]
      omega
    · refine wp_skip ?_
      show (Code.region _ _ _).wp _ _ _ _
      rw [← Sm.turnTo_no hbit] at own
      refine Ev.region_v J52 (by kernel_rfl) (by kernel_rfl) fun ac65 I65 => ?_
      have J66 := I65.to [2, 7, 9, 10, 11] (s2 := { tab := [⟨2, [], .v (.int .u32 a2)⟩, ⟨7, [], .v (.slice qx0 (Fr.bytesOf x0).length rx0)⟩, ⟨9, [], .v (.slice (some ⟨gg, 0, none⟩) (Fr.bytesOf x0).length c1)⟩, ⟨10, [], .v (.int .i64 (p : Int))⟩, ⟨11, [], .v (.int .i64 (IntKind.i64.wrap ((i : Int) + 1)))⟩], mem := [(25, (Fr.cells x0 (.slice a n c) (.slice a' n' c')))] }) (by kernel_rfl)
      clear I65
      rw [show IntKind.i64.wrap ((i : Int) + 1) = ((i + 1 : Nat) : Int) by rw [Ev.wrap_i64 (by omega) (by omega)]; omega] at J66
      refine ⟨⟨i + 1, by omega, J66, own, hb⟩, ?_⟩
      have : Sm.sl ac65 11 = .int .i64 ((i + 1 : Nat) : Int) := J66.val (x := .tmp 11) (by kernel_rfl)
      rw [this]
      simp [intOf]
      omega
  refine wp_exit ?_
  simp only [Exit.then, Exit.inBlock, if_true]
  simp only [Bool.and_eq_false_iff, decide_eq_false_iff_not] at hz
  have h32 : Sm.turnTo (Fr.bytesOf x0) p R.toNat 32 = Sm.turnTo (Fr.bytesOf x0) p R.toNat i := by
    by_cases hi32 : i = 32
    · rw [hi32]
    · have he := Sm.turnTo_end (Fr.bytesOf x0) p R.toNat i (by omega) (32 - i)
      rw [show i + (32 - i) = 32 by omega] at he
      exact he
  rw [← h32] at own
  clear h32 hz
  obtain ⟨D, hD⟩ : ∃ D, Sm.turnTo (Fr.bytesOf x0) p R.toNat 32 = D := ⟨_, rfl⟩
  rw [hD] at own
  have hDl : D.length = (Fr.bytesOf x0).length := by rw [← hD]; exact hlen 32
  have HB67 := HB19.trans (hb.mono HB19.size)
  have F0_68 := F0_20.later hb
  have hS_69 := hS_21.later hb
  have Rx0_70 := Rx0_22.later hb
  have hrD : Sm.Row8 wL wL.heap.size (some ⟨gg, 0, none⟩) (Fr.bytesOf x0).length c1 D := by
    rw [← hDl] at own
    obtain ⟨q, r, hv, h⟩ := Sm.owns_slice own
    rw [hDl] at hv h
    injection hv with h1 h2 h3
    subst h1 h3
    exact h
  refine Ev.seq_row ?_
  refine Ev.row_v 1 J47 (by kernel_rfl) (by kernel_rfl) fun ac71 I71 => ?_
  simp only [List.drop_succ_cons, List.drop_zero]
  refine Ev.call_ok (l := [.func 17, .tmp 90]) (A := []) (f := 17) (args := #[(.slice (some ⟨gg, 0, none⟩) (Fr.bytesOf x0).length c1)]) (R := fun v w' => ∃ b1d b2d b3d b4d b5d b6d, v = .tuple #[.agg (Fr.cells (Fr.frOf (Fr.decX D)) (.slice b1d b2d b3d) (.slice b4d b5d b6d)).toArray, .int .i64 (Fr.noOf (Fr.errOf (Fr.decX D)))] ∧ Fr.FrV w' w'.heap.size (.agg (Fr.cells (Fr.frOf (Fr.decX D)) (.slice b1d b2d b3d) (.slice b4d b5d b6d)).toArray) (Fr.frOf (Fr.decX D)) ∧ Below wL.heap.size wL w') I71 (by kernel_rfl) (by kernel_rfl) (by kernel_rfl) rfl (by kernel_rfl) (fun u => (by kernel_rfl)) ?_ (fun v w' h => by obtain ⟨_, _, _, _, _, _, _, _, h⟩ := h; exact h) ?_
  · refine (Fr.decode_calls _ _ _ S D _ hrD hS_69 (by omega)).mono ?_
    rw [show Fr.decX D = Fr.decX D from rfl]; rintro e w' ⟨cs, rfl, h1, h2⟩; obtain ⟨y1, y2, y3, y4, y5, y6, ecs, _⟩ := id h1; injection ecs with ecs; rw [ecs] at h1; exact ⟨_, rfl, y1, y2, y3, y4, y5, y6, by rw [ecs], h1, h2⟩
  rintro v ac72 W72 ⟨b1d, b2d, b3d, b4d, b5d, b6d, rfl, hfd, hb72⟩ I72
  have HB73 := HB67.trans (hb72.mono HB67.size)
  have F0_74 := F0_68.later hb72
  have hS_75 := hS_69.later hb72
  have Rx0_76 := Rx0_70.later hb72
  have D_77 := hrD.later hb72
  refine Ev.row_q 6 I72 (by kernel_rfl) (by kernel_rfl) (by kernel_rfl) fun ρ78 ac78 W78 I78 hb78 => ?_
  have HB79 := HB73.trans (hb78.mono HB73.size)
  have F0_80 := F0_74.later hb78
  have hS_81 := hS_75.later hb78
  have Rx0_82 := Rx0_76.later hb78
  have D_83 := D_77.later hb78
  have Dd_84 := hfd.later hb78
  show Code.wp _ _ _ _ _
  have J85 := I78.to [7, 9, 13] (s2 := { tab := [⟨7, [], .v (.slice qx0 (Fr.bytesOf x0).length rx0)⟩, ⟨9, [], .v (.slice (some ⟨gg, 0, none⟩) (Fr.bytesOf x0).length c1)⟩, ⟨13, [], .v (.int .i64 (Fr.noOf (Fr.errOf (Fr.decX D))))⟩], mem := [(25, (Fr.cells x0 (.slice a n c) (.slice a' n' c'))), (25, (Fr.cells (Fr.frOf (Fr.decX D)) (.slice b1d b2d b3d) (.slice b4d b5d b6d)))] }) (by kernel_rfl)
  clear I78
  refine wp_seq (wp_seq (wp_region_list ?_))
  refine Ev.row_v 1 J85 (by kernel_rfl) (by kernel_rfl) fun ac86 I86 => ?_
  simp only [List.drop_succ_cons, List.drop_zero]
  refine Ev.conv_ok (xv := (.slice (some ⟨gg, 0, none⟩) (Fr.bytesOf x0).length c1)) (v := .string (Sm.str D)) I86 (by kernel_rfl) (by kernel_rfl) rfl (by kernel_rfl) (Sm.conv_str D_83 Tryd.underlying23 Tryd.underlying5 Tryd.underlying9) fun ac87 I87 => ?_
  refine Ev.row_v 1 I87 (by kernel_rfl) (by kernel_rfl) fun ac88 I88 => ?_
  simp only [List.drop_succ_cons, List.drop_zero]
  refine Ev.conv_ok (xv := .slice qx0 (Fr.bytesOf x0).length rx0) (v := .string (Sm.str (Fr.bytesOf x0))) I88 (by kernel_rfl) (by kernel_rfl) rfl (by kernel_rfl) (Sm.conv_str Rx0_82 Tryd.underlying23 Tryd.underlying5 Tryd.underlying9) fun ac89 I89 => ?_
  refine Ev.row_v 1 I89 (by kernel_rfl) (by kernel_rfl) fun ac90 I90 => ?_
  have J91 := I90.to [13, 98] (s2 := { tab := [⟨13, [], .v (.int .i64 (Fr.noOf (Fr.errOf (Fr.decX D))))⟩, ⟨98, [], .v (.bool ((Sm.str D).toList == (Sm.str (Fr.bytesOf x0)).toList))⟩], mem := [(25, (Fr.cells x0 (.slice a n c) (.slice a' n' c'))), (25, (Fr.cells (Fr.frOf (Fr.decX D)) (.slice b1d b2d b3d) (.slice b4d b5d b6d)))] }) (by kernel_rfl)
  clear I90
  rw [Sm.str_eq] at J91
  have hsl := Sm.isSealed_turned (Fr.enc x0) p R.toNat
  rw [← hby, hD] at hsl
  show (Code.cond _ _ _).wp _ _ _ _
  refine Ev.cond_ok J91 (z := (decide (D = (Fr.bytesOf x0)))) (by kernel_rfl) (fun hz => ?_) (fun hz => ?_)
  · have hDe := of_decide_eq_true hz
    refine Ev.seq_v J91 (by kernel_rfl) (by kernel_rfl) fun ac92 I92 => ?_
    refine wp_ret ?_
    simp only [Exit.then]
    refine Ev.ret1 I92 rfl (v := .bool ((Fr.noOf (Fr.errOf (Fr.decX D))) == 0)) (by kernel_rfl) ?_
    refine ⟨?_, HB79⟩
    have hdx : Fr.decX D = .ok x0 := by rw [hDe, hby]; exact Fr.dec_enc hm0
    rw [hdx]
    rfl
  refine wp_skip ?_
  simp only [Exit.then]
  refine Ev.seq_v J91 (by kernel_rfl) (by kernel_rfl) fun ac93 I93 => ?_
  refine wp_ret ?_
  refine Ev.ret1 I93 rfl (v := .bool ((Fr.noOf (Fr.errOf (Fr.decX D))) == 4)) (by kernel_rfl) ?_
  refine ⟨?_, HB79⟩
  have hdx : Fr.decX D = .error (4, D.length - 4) := by
    unfold Fr.decX
    rw [if_neg (by omega), hsl, hz, if_neg (by decide)]
  rw [hdx]
  rfl

/-! ### THE ROW's STEP -/
set_option maxRecDepth 100000 in
theorem lifted (os : Os) (started : os.Started) (H : Type) (enc : TypeId × Value → H) :
    ReturnsInHanded {} Tryd.checked os 6 .any (fun w args => (Rows.frameTurnsSpec.pre enc Tryd.prog Tryd.f6 Rows.frameTurnsRow.domain false w args ∧ laidMetH Tryd.prog Fr.laidL w) ∧ sizedMet enc Tryd.prog Tryd.f6 (OpenSpec.ofChange Rows.frameTurnsSpec) false w args)
      (Rows.frameTurnsSpec.post enc Tryd.prog Tryd.f6 false true false false) := by
  refine returnsInHanded_of_change_and (C := Tryd.checked) (X := fun w _ => laidMetH Tryd.prog Fr.laidL w) (fun _ _ _ hh h => h.of_heap hh) own started (by kernel_rfl) Tryd.func6
    (ChangeSpec.witness_shaped (enc := enc) (C := Tryd.checked) (os := os) (X := fun w _ => laidMetH Tryd.prog Fr.laidL w) false (World.doorLaid Tryd.prog 400 os) #[.agg #[.int .i64 0, .int .i64 0, .int .i64 0, .int .i64 0, .int .i64 0, .int .i64 0, .bool false, .int .i64 0, .int .i64 0, .slice none 0 0, .int .i64 0, .int .i64 0, .int .i64 0, .slice none 0 0], .int .u16 0, .int .u32 0] 8 rfl (Fr.laid_shaped os _) (by kernel_rfl) (by kernel_rfl) (by kernel_rfl) (Fr.laid_met os _)) ?_
  intro W base args ds gs before hval0 hW _ _ hL _
  have hval : ∀ (j : Nat) t v, Tryd.f6.params[j]? = some t → args[j]? = some v → Value.okWide Tryd.prog W .any base t v := hval0
  have hW' := hW
  obtain ⟨p, q, hA0, hV, rfl, hfz, hnd⟩ := hW
  obtain ⟨S, hS⟩ := Fr.sents_of_laid hL
  have hA : DataW.TrodAll enc Tryd.prog W 0 (fun _ => true) true Tryd.f6.params.toList args.toList ds p := hA0
  rw [Tryd.params6] at hA hval
  obtain ⟨v0, vs0, d0, ds0, p0, q0, hargs, rfl, rfl, h0, r0⟩ := trodAll_cons hA
  obtain ⟨v1, vs1, d1, ds1, p1, q1, rfl, rfl, rfl, h1, r1⟩ := trodAll_cons r0
  obtain ⟨v2, vs2, d2, ds2, p2, q2, rfl, rfl, rfl, h2, r2⟩ := trodAll_cons r1
  obtain ⟨rfl, rfl, rfl⟩ := trodAll_nil r2
  obtain rfl : args = #[v0, v1, v2] := by cases args; simp_all
  obtain ⟨rfl, rfl⟩ := trodVars_none hV
  have k0 := h0
  have lt0 : ∀ x ∈ p0, x.block < W.heap.size := by obtain ⟨m, hm⟩ := k0; exact DataW.trod_lt m _ _ _ hm
  obtain ⟨x0, w0⟩ := Fr.frame_of_trod (hval 0 25 v0 rfl rfl) h0
  obtain ⟨a1, rfl, rfl, rfl, w1⟩ := open_int Tryd.underlying39 (hval 1 39 v1 rfl rfl) h1
  obtain ⟨a2, rfl, rfl, rfl, w2⟩ := open_int Tryd.underlying40 (hval 2 40 v2 rfl rfl) h2
  clear hA0 hval0
  refine (walk v0 x0 a1 a2 S W w0 w1 w2 hS).mono fun e W' ⟨he, bel⟩ => ?_
  subst he
  exact ⟨_, rfl, _, _, _, [], _, [], hW', trodAll_mk1 (shut_bool Tryd.underlying4 _), (trodAll_cons_mk (Below.trod laidOut (by kernel_rfl) (of_decide_eq_true (by kernel_rfl)) k0 bel lt0) (trodAll_cons_mk (shut_int Tryd.underlying39 w1) (trodAll_cons_mk (shut_int Tryd.underlying40 w2) trodAll_mk0))), rfl, bel.frame _, fun h => by cases h⟩

theorem over : Rows.frameTurnsRow.holds Tryd.pinned (OpenSpec.ofChange Rows.frameTurnsSpec) :=
  OpenClaim.holds_of_wide 6 Tryd.f6 rfl rfl rfl rfl rfl rfl rfl ⟨rfl, rfl, rfl, rfl, rfl⟩ rfl rfl rfl rfl rfl (by kernel_rfl) Tryd.func6 (by kernel_rfl)
    (of_decide_eq_true (by kernel_rfl)) (by unfold Func.isWrapper; first | (rw [if_pos (by decide +kernel)]; kernel_rfl) | (rw [if_neg (by decide +kernel)]; exact ⟨rfl, rfl⟩))
    (fun os started H enc _ => lifted os started H enc)

theorem proved : Rows.FrameTurnsCardSaid :=
  Claim7.holds_tied_plain_at .later [] [.handle, .sentinel, .sentinel, .sentinel, .sentinel, .sentinel] true (true, "6cda7300b51618dea6a1b3e9141af95fe1074587f5da65d640e1e82977b992fe") true
    over (fun _ h => by cases h) (by kernel_rfl) (fun _ h => by cases h) frameTurns_row_tie rfl ⟨rfl, rfl⟩ (by kernel_rfl) rfl
    (fun f fn hf hfn => by
      obtain rfl : f = 6 := Option.some.inj ((show Tryd.prog.funcNamed "drumline/drumlinelaw4.FrameTurns" = some 6 by kernel_rfl).symm.trans hf) |>.symm
      obtain rfl : fn = Tryd.f6 := (Option.some.inj (Tryd.func6.symm.trans hfn)).symm
      exact ⟨by kernel_rfl, fun j t ht => by
        rw [Tryd.params6] at ht
        have hm : t ∈ [25, 39, 40] := by simpa using Array.mem_of_getElem? ht
        have hall : ([25, 39, 40].all fun u => !Tryd.prog.wantsStandIn u) = true := by kernel_rfl
        exact (show Tryd.prog.wantsStandIn t = false by simpa using List.all_eq_true.1 hall t hm)⟩)
    (by kernel_rfl)
#print axioms proved
end Go.Proofs.YtliejllegabdnaaDoor.frameTurns
