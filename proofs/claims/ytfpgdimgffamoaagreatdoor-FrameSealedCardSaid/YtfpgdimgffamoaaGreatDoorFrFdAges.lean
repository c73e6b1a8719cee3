/- The document's own reader of fields: ages. -/
import Derived.Test.YtfpgdimgffamoaaGreatDoorFrFdRun
import Derived.Test.YtfpgdimgffamoaaGreatDoorFrList
namespace Go.Proofs.YtfpgdimgffamoaaGreatDoor.Fr
open Go.RowKit Go.Proofs.YtfpgdimgffamoaaGreatDoor.Sm Go.Proofs.YtfpgdimgffamoaaGreatDoor.Wr
set_option maxHeartbeats 4000000
set_option maxRecDepth 100000
set_option linter.unusedVariables false

section
variable {B : Nat} {a : Option Addr} {n c : Nat} {w W : World} {g : Nat} {l : List UInt8}
theorem FS.belowB {e p : Int} {at_ : Nat} {bad : Bool} (h : FS B a n c e p w g l at_ bad) {base : Nat} (hb : Below base w W) (hg : g < base) (hB : B ≤ base) : FS B a n c e p W g l at_ bad :=
  ⟨h.ob.below hb hg, h.row.below (hb.mono hB), h.le, h.small, Nat.le_trans h.lowB hb.size, h.apart⟩
theorem Beside.below_trans {w1 w2 : World} (h : Beside g w w1) (hb : Below w.heap.size w1 w2) : Beside g w w2 :=
  ⟨hb.os.trans h.os, hb.tape.trans h.tape, hb.output.trans h.output, Nat.le_trans h.size hb.size, fun k hk hne => (hb.block k hk).trans (h.block k hk hne)⟩
theorem fages_run (st : Except (Int × Nat) Nat) (h : FSx B a n c w g l st) :
    Calls Tryz.prog 28 #[.pointer (some ⟨g, 0, none⟩)] w fun x w' => ∃ q m r L, x = .returned (.slice q m r) ∧ w'.ownsRow w.heap.size 3 1 (.slice q m r) m (cellsI L) ∧ (∀ d ∈ L, -9223372036854775808 ≤ d ∧ d ≤ 9223372036854775807) ∧ (∀ pos, (runP agesP [] l st).2 = .ok pos → L = (runP agesP [] l st).1) ∧ FSx B a n c w' g l (runP agesP [] l st).2 ∧ Beside g w w' := by
  obtain ⟨at_, bad, e, p, hF, hr⟩ := id h
  have hgl := hF.ob.lt
  obtain ⟨hR1, hR2⟩ := ages_reps l st
  have hN0 := runP_wf (lo := 1) (hi := 6) (k := 1) (x := l) (st := st) (by omega) (by decide)
  have hcn := fnumber_run (B := B) (a := a) (n := n) (c := c) (w := w) (g := g) (l := l) 1 1 6 (by omega) st h
  obtain ⟨N, hN⟩ : ∃ N, (runP (numP 1 1 6) 0 l st).1 = N := ⟨_, rfl⟩
  obtain ⟨s1, hs1⟩ : ∃ s, (runP (numP 1 1 6) 0 l st).2 = s := ⟨_, rfl⟩
  rw [hN, hs1] at hcn hR1 hR2
  rw [hN] at hN0
  obtain ⟨K, rfl⟩ : ∃ K : Nat, N = (K : Int) := ⟨N.toNat, by omega⟩
  rw [Int.toNat_natCast] at hR1 hR2
  have hK : K ≤ 6 := by omega
  clear hN hs1
  obtain ⟨i0, hi0, hq0, hq1, hq2⟩ := int_parts
  refine Ev.enterP (N := 19) Tryz.func28 rfl rfl [] g hF.ob rfl (Nat.le_of_ble_eq_true rfl) fun act I0 => ?_
  refine Ev.seq_v I0 (by kernel_rfl) (by kernel_rfl) fun a1 I1 => ?_
  refine Ev.seq_v I1 (by kernel_rfl) (by kernel_rfl) fun a1 I1 => ?_
  refine Ev.seq_row ?_
  refine Ev.row_v 1 I1 (by kernel_rfl) (by kernel_rfl) fun a2 I2 => ?_
  simp only [List.drop_succ_cons, List.drop_zero]
  refine Ev.callP_ok (l := [.func 27, .tmp 6, .const (.int .i64 1), .const (.int .i64 1), .const (.int .i64 6)]) (f := 27) (args := #[.pointer (some ⟨g, 0, none⟩), .int .i64 1, .int .i64 1, .int .i64 6]) (t := 65) (R := fun v cs w' => v = .int .i64 (K : Int) ∧ (∃ at_ bad e p, cs = fcells a n c at_ bad e p ∧ FS B a n c e p w' g l at_ bad ∧ Rel s1 at_ bad e p) ∧ Beside g w w') I2 (by kernel_rfl) (by kernel_rfl) (by kernel_rfl) rfl (by kernel_rfl) (fun u => (by kernel_rfl)) ?_ ?_
  · refine hcn.mono ?_
    rintro x w' ⟨rfl, ⟨at1, bad1, e1, p1, h1, h2⟩, h3⟩
    exact ⟨_, _, rfl, h1.ob, rfl, ⟨at1, bad1, e1, p1, rfl, h1, h2⟩, h3⟩
  rintro v cs a3 w3 ⟨rfl, ⟨at1, bad1, e1, p1, rfl, hF1, hr1⟩, hb3⟩ I3
  refine Ev.row_v 1 I3 (by kernel_rfl) (by kernel_rfl) fun a4 I4 => ?_
  show Code.wp _ _ _ _ _
  refine wp_seq (Ev.seq_v I4 (by kernel_rfl) (by kernel_rfl) fun a5 I5 => wp_block ?_)
  have J5 := I5.to [0, 3, 4, 5] (s2 := { tab := [⟨0, [], .p 0 0⟩, ⟨3, [], .v (.slice none 0 0)⟩, ⟨4, [], .v (.int .i64 (K : Int))⟩, ⟨5, [], .v (.int .i64 ((0 : Nat) : Int))⟩], mem := [(65, fcells a n c at1 bad1 e1 p1)] }) (by kernel_rfl)
  clear I0 I1 I2 I3 I4 I5 hcn
  have hlo : ∀ x ∈ [g], x < w.heap.size := fun x hx => by rw [List.mem_singleton.1 hx]; exact hgl
  refine wp_loop (fun aL wL => ∃ (i : Nat) (lv : Value) (at2 : Nat) (bad2 : Bool) (e2 p2 : Int), i ≤ K ∧ Ev.Inv 0 [g] { tab := [⟨0, [], .p 0 0⟩, ⟨3, [], .v lv⟩, ⟨4, [], .v (.int .i64 (K : Int))⟩, ⟨5, [], .v (.int .i64 (i : Int))⟩], mem := [(65, fcells a n c at2 bad2 e2 p2)] } 19 aL wL ∧ wL.ownsRow w.heap.size 3 1 lv i (cellsI (reps l i s1).1) ∧ FS B a n c e2 p2 wL g l at2 bad2 ∧ Rel (reps l i s1).2 at2 bad2 e2 p2 ∧ Beside g w wL) (fun aL _ => K - (intOf (sl aL 5)).toNat) ⟨0, _, _, _, _, _, Nat.zero_le _, J5, World.ownsRow_nil _ _ _ _, hF1, hr1, hb3⟩ ?_
  rintro aL wL ⟨i, lv, at2, bad2, e2, p2, hi, I, own, hF2, hr2, hb⟩
  have hmu : K - (intOf (sl aL 5)).toNat = K - i := by
    have : sl aL 5 = .int .i64 (i : Int) := I.val (x := .tmp 5) (by kernel_rfl)
    rw [this]
    simp [intOf]
  rw [hmu]
  clear hmu
  refine wp_seq (wp_seq (Ev.region_v I (by kernel_rfl) (by kernel_rfl) fun b1 I1 => ?_))
  have J1 := I1.to [0, 3, 4, 5, 10] (s2 := { tab := [⟨0, [], .p 0 0⟩, ⟨3, [], .v lv⟩, ⟨4, [], .v (.int .i64 (K : Int))⟩, ⟨5, [], .v (.int .i64 (i : Int))⟩, ⟨10, [], .v (.bool (decide ((i : Int) < (K : Int))))⟩], mem := [(65, fcells a n c at2 bad2 e2 p2)] }) (by kernel_rfl)
  show (Code.cond _ _ _).wp _ _ _ _
  refine Ev.cond_ok J1 (z := decide ((i : Int) < (K : Int))) (by kernel_rfl) (fun hz => ?_) (fun hz => ?_)
  · have hiK : i < K := by rw [decide_eq_true_eq] at hz; omega
    refine wp_skip ?_
    simp only [Exit.then]
    refine wp_seq (wp_block (wp_region_list ?_))
    refine Ev.row_v 2 J1 (by kernel_rfl) (by kernel_rfl) fun b2 I2 => ?_
    simp only [List.drop_succ_cons, List.drop_zero]
    have hc2 := fnumber_run (B := B) (a := a) (n := n) (c := c) (w := wL) (g := g) (l := l) 1 0 201 (by omega) (reps l i s1).2 ⟨at2, bad2, e2, p2, hF2, hr2⟩
    obtain ⟨D, hD⟩ : ∃ D, (runP (numP 1 0 201) 0 l (reps l i s1).2).1 = D := ⟨_, rfl⟩
    obtain ⟨s2, hs2⟩ : ∃ s, (runP (numP 1 0 201) 0 l (reps l i s1).2).2 = s := ⟨_, rfl⟩
    rw [hD, hs2] at hc2
    have hre : reps l (i + 1) s1 = ((reps l i s1).1 ++ [D], s2) := by rw [← hD, ← hs2]; rfl
    refine Ev.callP_ok (l := [.func 27, .tmp 14, .const (.int .i64 1), .const (.int .i64 0), .const (.int .i64 201)]) (f := 27) (args := #[.pointer (some ⟨g, 0, none⟩), .int .i64 1, .int .i64 0, .int .i64 201]) (t := 65) (R := fun v cs w' => v = .int .i64 D ∧ (∃ at_ bad e p, cs = fcells a n c at_ bad e p ∧ FS B a n c e p w' g l at_ bad ∧ Rel s2 at_ bad e p) ∧ Beside g wL w') I2 (by kernel_rfl) (by kernel_rfl) (by kernel_rfl) rfl (by kernel_rfl) (fun u => (by kernel_rfl)) ?_ ?_
    · refine hc2.mono ?_
      rintro x w' ⟨rfl, ⟨at1, bad1, e1, p1, h1, h2⟩, h3⟩
      exact ⟨_, _, rfl, h1.ob, rfl, ⟨at1, bad1, e1, p1, rfl, h1, h2⟩, h3⟩
    rintro v cs b3 w4 ⟨rfl, ⟨at3, bad3, e3, p3, rfl, hF3, hr3⟩, hb4⟩ I3
    have own4 := owns_beside own hb4 hgl
    have hb44 := hb.trans hb4
    refine Ev.lit1_ok I3 rfl (by kernel_rfl) rfl Tryz.underlying24 hi0 hq0 hq1 (v := .int .i64 D) (by kernel_rfl) rfl rfl fun b4 I4 => ?_
    have hbA : Below w4.heap.size w4 (w4.alloc (.cells #[.int .i64 D] 3)) := (Below.refl _ _).alloc (Nat.le_refl _) _
    have own5 := own4.alloc (.cells #[.int .i64 D] 3)
    refine Ev.appendR_ok I4 rfl (by kernel_rfl) _ _ _ rfl w.heap.size 3 i0 _ 1 8 Tryz.underlying24 hi0 hq0 hq1 hq2 rfl (by decide) lv i (cellsI (reps l i s1).1) (by kernel_rfl) own5 _ (some ⟨w4.heap.size, 0, none⟩) 1 1 [.int .i64 D] (by kernel_rfl) (RowC.lit w4 3 #[.int .i64 D] 1 1 rfl (by decide)) (by intro u hu; obtain rfl := List.mem_singleton.1 hu; rfl) (by unfold maxLen; omega) (by omega) (by have := hb44.size; simp; omega) hlo ?_
    rintro lv2 b5 w5 own6 hb5 I5
    refine Ev.row_v 1 I5 (by kernel_rfl) (by kernel_rfl) fun b6 I6 => ?_
    show (Code.region _ _ _).wp _ _ _ _
    refine Ev.region_v I6 (by kernel_rfl) (by kernel_rfl) fun b7 I7 => ?_
    have J7 := I7.to [0, 3, 4, 5] (s2 := { tab := [⟨0, [], .p 0 0⟩, ⟨3, [], .v lv2⟩, ⟨4, [], .v (.int .i64 (K : Int))⟩, ⟨5, [], .v (.int .i64 (IntKind.i64.wrap ((i : Int) + 1)))⟩], mem := [(65, fcells a n c at3 bad3 e3 p3)] }) (by kernel_rfl)
    rw [show IntKind.i64.wrap ((i : Int) + 1) = ((i + 1 : Nat) : Int) by rw [Ev.wrap_i64 (by omega) (by omega)]; omega] at J7
    have hbW : Below w.heap.size w4 w5 := (hbA.mono hb44.size).trans hb5
    refine ⟨⟨i + 1, lv2, at3, bad3, e3, p3, by omega, J7, ?_, hF3.belowB hbW hgl hF.lowB, ?_, Beside.below_trans hb44 hbW⟩, ?_⟩
    · rw [hre, cellsI_append]; exact own6
    · rw [hre]; exact hr3
    · have : sl b7 5 = .int .i64 ((i + 1 : Nat) : Int) := J7.val (x := .tmp 5) (by kernel_rfl)
      rw [this]
      simp [intOf]
      omega
  · have hiK : i = K := by rw [decide_eq_false_iff_not] at hz; omega
    subst hiK
    refine wp_exit ?_
    simp only [Exit.then, Exit.inBlock, if_true]
    refine Ev.seq_v J1 (by kernel_rfl) (by kernel_rfl) fun b2 I2 => ?_
    obtain ⟨q, r, hv, _⟩ := owns_form own
    subst hv
    refine wp_ret (Ev.ret1 I2 rfl (v := .slice q i r) (by kernel_rfl) ⟨q, i, r, (reps l i s1).1, rfl, own, reps_wf l s1 i, hR2, ?_, hb⟩)
    · rw [hR1]; exact ⟨_, _, _, _, hF2, hr2⟩
end
end Go.Proofs.YtfpgdimgffamoaaGreatDoor.Fr
