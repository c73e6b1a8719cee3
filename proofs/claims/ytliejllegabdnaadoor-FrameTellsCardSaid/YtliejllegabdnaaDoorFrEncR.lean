/- What the document's own Encode returns. -/
import Derived.Test.YtliejllegabdnaaDoorFrMayR
import Derived.Test.YtliejllegabdnaaDoorFrPutR
import Derived.Test.YtliejllegabdnaaDoorFrEnc
import Derived.Test.YtliejllegabdnaaDoorFrWr
import Derived.Test.YtliejllegabdnaaDoorSmMadeR
namespace Go.Proofs.YtliejllegabdnaaDoor.Fr
open Go.ChangeShapes Go.WideShapes Go.ChangeAt Go.RowKit Go.Proofs.YtliejllegabdnaaDoor.Sm Go.Proofs.YtliejllegabdnaaDoor.Wr
set_option maxHeartbeats 4000000
set_option maxRecDepth 100000
set_option linter.unusedVariables false

theorem plainL_be {n : Int} (k : Nat) (hk : 1 ≤ k ∧ k ≤ 7) (h0 : 0 ≤ n) (h1 : n < 256 ^ k) : plainL n k = be n.toNat k := by
  have hb : plainB n k = true := by unfold plainB; exact decide_eq_true ⟨by omega, h0, by simpa using h1⟩
  unfold plainL
  rw [if_pos hb]
  rfl
theorem owns_later {w w' : World} {base : Nat} {e : TypeId} {z : Nat} {v : Value} {n : Nat} {xs : List Value} (o : w.ownsRow base e z v n xs) (hb : Below w.heap.size w w') : w'.ownsRow base e z v n xs := owns_keep o fun k _ hk => hb.block k hk
theorem ages_be {l : List Int} (h : agesOk l = true) : plainL l.length 1 ++ agesL l = be l.length 1 ++ agesB l := by
  obtain ⟨⟨h1, h2⟩, h3⟩ := agesOk_iff.1 h
  rw [show plainL (l.length : Int) 1 = be l.length 1 from plainL_be (n := (l.length : Int)) 1 (by omega) (by omega) (by omega)]
  congr 1
  unfold agesL agesB
  exact congrArg List.flatten (List.map_congr_left fun x hx => plainL_be 1 (by omega) (h3 x hx).1 (by have := (h3 x hx).2; omega))
theorem encL_1 {f : Frame} (hm : mayB f = true) (hk : f.kind = 1) : ((((([] : List UInt8) ++ plainL f.kind 1) ++ plainL f.part 1) ++ plainL f.node 1) ++ plainL f.wait 2) = enc f := by
  obtain ⟨⟨g1, g2, g3⟩, g4, g5, g6, g7⟩ := may_iff.1 hm
  unfold enc tailL
  rw [show plainL f.kind 1 = be (f.kind).toNat 1 from plainL_be 1 (by omega) (by omega) (by omega)]
  rw [show plainL f.part 1 = be (f.part).toNat 1 from plainL_be 1 (by omega) (by omega) (by omega)]
  rw [show plainL f.node 1 = be (f.node).toNat 1 from plainL_be 1 (by omega) (by omega) (by omega)]
  rw [show plainL f.wait 2 = be (f.wait).toNat 2 from plainL_be 2 (by omega) (by omega) (by omega)]
  simp [hk]
theorem encL_2 {f : Frame} (hm : mayB f = true) (hk : f.kind = 2) : ((((((([] : List UInt8) ++ plainL f.kind 1) ++ plainL f.part 1) ++ plainL f.node 1) ++ plainL f.cycle 6) ++ plainL f.mask 2) ++ (plainL f.ages.length 1 ++ agesL f.ages)) = enc f := by
  obtain ⟨⟨g1, g2, g3⟩, g4, g5, g6, g7⟩ := may_iff.1 hm
  unfold enc tailL
  rw [show plainL f.kind 1 = be (f.kind).toNat 1 from plainL_be 1 (by omega) (by omega) (by omega)]
  rw [show plainL f.part 1 = be (f.part).toNat 1 from plainL_be 1 (by omega) (by omega) (by omega)]
  rw [show plainL f.node 1 = be (f.node).toNat 1 from plainL_be 1 (by omega) (by omega) (by omega)]
  rw [show plainL f.cycle 6 = be (f.cycle).toNat 6 from plainL_be 6 (by omega) (by omega) (by omega)]
  rw [show plainL f.mask 2 = be (f.mask).toNat 2 from plainL_be 2 (by omega) (by omega) (by omega)]
  rw [ages_be (g5 (.inl hk))]
  simp [hk]
theorem encL_3 {f : Frame} (hm : mayB f = true) (hk : f.kind = 3) : (((((((([] : List UInt8) ++ plainL f.kind 1) ++ plainL f.part 1) ++ plainL f.node 1) ++ plainL f.link 1) ++ plainL (if f.flag = true then (1 : Int) else 0) 1) ++ plainL f.cycle 6) ++ signedL f.offset 6) = enc f := by
  obtain ⟨⟨g1, g2, g3⟩, g4, g5, g6, g7⟩ := may_iff.1 hm
  unfold enc tailL
  rw [show plainL f.kind 1 = be (f.kind).toNat 1 from plainL_be 1 (by omega) (by omega) (by omega)]
  rw [show plainL f.part 1 = be (f.part).toNat 1 from plainL_be 1 (by omega) (by omega) (by omega)]
  rw [show plainL f.node 1 = be (f.node).toNat 1 from plainL_be 1 (by omega) (by omega) (by omega)]
  rw [show plainL f.link 1 = be (f.link).toNat 1 from plainL_be 1 (by omega) (by omega) (by omega)]
  rw [show plainL (if f.flag = true then (1 : Int) else 0) 1 = be f.flag.toNat 1 by cases f.flag <;> rfl]
  rw [show plainL f.cycle 6 = be (f.cycle).toNat 6 from plainL_be 6 (by omega) (by omega) (by omega)]
  simp [hk]
theorem encL_4 {f : Frame} (hm : mayB f = true) (hk : f.kind = 4) : (((((([] : List UInt8) ++ plainL f.kind 1) ++ plainL f.part 1) ++ plainL f.node 1) ++ plainL f.link 1) ++ (plainL f.ages.length 1 ++ agesL f.ages)) = enc f := by
  obtain ⟨⟨g1, g2, g3⟩, g4, g5, g6, g7⟩ := may_iff.1 hm
  unfold enc tailL
  rw [show plainL f.kind 1 = be (f.kind).toNat 1 from plainL_be 1 (by omega) (by omega) (by omega)]
  rw [show plainL f.part 1 = be (f.part).toNat 1 from plainL_be 1 (by omega) (by omega) (by omega)]
  rw [show plainL f.node 1 = be (f.node).toNat 1 from plainL_be 1 (by omega) (by omega) (by omega)]
  rw [show plainL f.link 1 = be (f.link).toNat 1 from plainL_be 1 (by omega) (by omega) (by omega)]
  rw [ages_be (g5 (.inr hk))]
  simp [hk]
theorem encL_5 {f : Frame} {n' : Nat} (hm : mayB f = true) (hla : f.body.length = n') (hk : f.kind = 5) : (((((((((([] : List UInt8) ++ plainL f.kind 1) ++ plainL f.part 1) ++ plainL f.node 1) ++ plainL f.link 1) ++ plainL f.frm 1) ++ plainL f.to 1) ++ plainL f.seq 4) ++ plainL (n' : Int) 1) ++ f.body) = enc f := by
  obtain ⟨⟨g1, g2, g3⟩, g4, g5, g6, g7⟩ := may_iff.1 hm
  unfold enc tailL
  rw [show plainL f.kind 1 = be (f.kind).toNat 1 from plainL_be 1 (by omega) (by omega) (by omega)]
  rw [show plainL f.part 1 = be (f.part).toNat 1 from plainL_be 1 (by omega) (by omega) (by omega)]
  rw [show plainL f.node 1 = be (f.node).toNat 1 from plainL_be 1 (by omega) (by omega) (by omega)]
  rw [show plainL f.link 1 = be (f.link).toNat 1 from plainL_be 1 (by omega) (by omega) (by omega)]
  rw [show plainL f.frm 1 = be (f.frm).toNat 1 from plainL_be 1 (by omega) (by omega) (by omega)]
  rw [show plainL f.to 1 = be (f.to).toNat 1 from plainL_be 1 (by omega) (by omega) (by omega)]
  rw [show plainL f.seq 4 = be (f.seq).toNat 4 from plainL_be 4 (by omega) (by omega) (by omega)]
  rw [show plainL (n' : Int) 1 = be ((n' : Int)).toNat 1 from plainL_be 1 (by omega) (by omega) (by omega)]
  simp [hk, hla]
theorem encR_calls (f : Frame) (v : Value) (B : Nat) (w : World) (hf : FrV w B v f) (hB : B ≤ w.heap.size) :
    Calls Tryd.prog 11 #[v] w fun e w' => RetEnc w f e w' := by
  obtain ⟨a, n, c, a', n', c', ev, ra, rb, hw⟩ := id hf
  subst ev
  have hf0 := hf.more hB
  have hla := ra.len
  have hlb := rb.len
  refine Ev.enter (N := 95) Tryd.func11 rfl rfl (Nat.le_of_ble_eq_true rfl) fun act I0 => ?_
  refine Ev.seq_q I0 (by kernel_rfl) (by kernel_rfl) (by kernel_rfl) fun ρ1 ac1 W1 I1 hb1 => ?_
  have HB2 : Below w.heap.size w W1 := hb1
  have F0_3 := hf0.later hb1
  refine wp_seq (wp_seq (wp_region_list ?_))
  refine Ev.row_v 1 I1 (by kernel_rfl) (by kernel_rfl) fun ac4 I4 => ?_
  simp only [List.drop_succ_cons, List.drop_zero]
  refine Ev.gcall_ok (l := [.func 13, .tmp 7]) (A := []) (f := 13) (args := #[.agg (cells f (.slice a n c) (.slice a' n' c')).toArray]) (v := .bool (mayB f)) I4 (by kernel_rfl) (by kernel_rfl) rfl (by kernel_rfl) (fun u => (by kernel_rfl)) (mayR_calls f _ _ _ F0_3 (Nat.le_refl _)) fun ac5 W5 hb5 I5 => ?_
  have HB6 := HB2.trans (hb5.mono HB2.size)
  have F0_7 := F0_3.later hb5
  refine Ev.row_v 1 I5 (by kernel_rfl) (by kernel_rfl) fun ac8 I8 => ?_
  have J9 := I8.to [1, 9] (s2 := { tab := [⟨1, [], .p 0 0⟩, ⟨9, [], .v (.bool (!mayB f))⟩], mem := [(25, (cells f (.slice a n c) (.slice a' n' c')))] }) (by kernel_rfl)
  clear I8
  show (Code.cond _ _ _).wp _ _ _ _
  refine Ev.cond_ok J9 (z := (!mayB f)) (by kernel_rfl) (fun hz => ?_) (fun hz => ?_)
  · have hm : mayB f = false := by simpa using hz
    refine Ev.seq_v J9 (by kernel_rfl) (by kernel_rfl) fun ac10 I10 => ?_
    refine wp_ret ?_
    simp only [Exit.then]
    refine Ev.ret2 I10 rfl (v := .slice none 0 0) (v' := .int .i64 1) (by kernel_rfl) (by kernel_rfl) ?_
    have hb : bytesOf f = [] := by unfold bytesOf; rw [hm]; rfl
    refine ⟨none, 0, ?_, ?_, HB6⟩
    · rw [hb, hm]; rfl
    · rw [hb]; exact Row8.nil
  refine wp_skip ?_
  simp only [Exit.then]
  have hm : mayB f = true := by simpa using hz
  clear hz
  obtain ⟨⟨g1, g2, g3⟩, g4, g5, g6, g7⟩ := may_iff.1 hm
  obtain ⟨i0, hi0, hq0, hq1, hq2⟩ := info_parts byte_info
  refine wp_seq ?_
  refine Ev.held_begin (fun _ => True) [0, 1, 3, 4, 6, 7] 4 trivial J9 (by kernel_rfl) (by kernel_rfl) (fun _ _ d _ _ h => by cases d <;> exact h) (by kernel_rfl) (by kernel_rfl) (by kernel_rfl) (by kernel_rfl) fun ac11 I11 => ?_
  have HBB : Below w.heap.size w W5.drew := HB6.trans (below_draw _ _)
  have hlo : ∀ g ∈ _, g < W5.drew.heap.size := fun g hg => I11.lt hg
  have hz0' : W5.drew.heap.size ≤ W5.drew.heap.size := Nat.le_refl _
  have hc0' : Below W5.drew.heap.size W5.drew W5.drew := Below.refl _ _
  refine Ev.held_callB (W5.drew).heap.size hlo (i := 2) (n := 3) (l := [.func 22, .const (.slice none 0 0), .tmp 11, .const (.int .i64 1)]) (A := []) (f := 22) (args := #[(.slice none 0 0), .int .i64 f.kind, .int .i64 1]) (R := fun v w' => w'.ownsRow (W5.drew).heap.size 5 1 v (([] : List UInt8) ++ plainL f.kind 1).length (cells8 (([] : List UInt8) ++ plainL f.kind 1)) ∧ Below (W5.drew).heap.size W5.drew w') I11 (by kernel_rfl) rfl (by kernel_rfl) (by kernel_rfl) (by kernel_rfl) (by kernel_rfl) rfl (by kernel_rfl) (fun u => (by kernel_rfl)) ?_ (fun v w' h => h.2) (fun v w' h => trivial) ?_
  · refine (putR_calls (W5.drew).heap.size (.slice none 0 0) ([] : List UInt8) f.kind 1 (by omega) _ (World.ownsRow_nil _ _ _ _) hz0' (by rw [List.length_nil]; omega)).mono ?_
    rintro e w' ⟨v, rfl, h1, h2⟩; exact ⟨_, rfl, h1, h2⟩
  rintro p1 ac12 W12 ⟨own1, hb12⟩ I12
  have hz1 := Nat.le_trans hz0' hb12.size
  have hc1 := hc0'.trans hb12
  refine Ev.held_callB (W5.drew).heap.size hlo (i := 5) (n := 2) (l := [.func 22, .tmp 12, .tmp 14, .const (.int .i64 1)]) (A := []) (f := 22) (args := #[p1, .int .i64 f.part, .int .i64 1]) (R := fun v w' => w'.ownsRow (W5.drew).heap.size 5 1 v ((([] : List UInt8) ++ plainL f.kind 1) ++ plainL f.part 1).length (cells8 ((([] : List UInt8) ++ plainL f.kind 1) ++ plainL f.part 1)) ∧ Below (W5.drew).heap.size W12 w') I12 (by kernel_rfl) rfl (by kernel_rfl) (by kernel_rfl) (by kernel_rfl) (by kernel_rfl) rfl (by kernel_rfl) (fun u => (by kernel_rfl)) ?_ (fun v w' h => h.2) (fun v w' h => trivial) ?_
  · refine (putR_calls (W5.drew).heap.size p1 (([] : List UInt8) ++ plainL f.kind 1) f.part 1 (by omega) _ own1 hz1 (by simp only [List.length_append, List.length_nil]; have := plainL_le f.kind 1 (by omega); omega)).mono ?_
    rintro e w' ⟨v, rfl, h1, h2⟩; exact ⟨_, rfl, h1, h2⟩
  rintro p2 ac13 W13 ⟨own2, hb13⟩ I13
  have hz2 := Nat.le_trans hz1 hb13.size
  have hc2 := hc1.trans hb13
  refine Ev.held_callB (W5.drew).heap.size hlo (i := 8) (n := 1) (l := [.func 22, .tmp 15, .tmp 17, .const (.int .i64 1)]) (A := []) (f := 22) (args := #[p2, .int .i64 f.node, .int .i64 1]) (R := fun v w' => w'.ownsRow (W5.drew).heap.size 5 1 v (((([] : List UInt8) ++ plainL f.kind 1) ++ plainL f.part 1) ++ plainL f.node 1).length (cells8 (((([] : List UInt8) ++ plainL f.kind 1) ++ plainL f.part 1) ++ plainL f.node 1)) ∧ Below (W5.drew).heap.size W13 w') I13 (by kernel_rfl) rfl (by kernel_rfl) (by kernel_rfl) (by kernel_rfl) (by kernel_rfl) rfl (by kernel_rfl) (fun u => (by kernel_rfl)) ?_ (fun v w' h => h.2) (fun v w' h => trivial) ?_
  · refine (putR_calls (W5.drew).heap.size p2 ((([] : List UInt8) ++ plainL f.kind 1) ++ plainL f.part 1) f.node 1 (by omega) _ own2 hz2 (by simp only [List.length_append, List.length_nil]; have := plainL_le f.kind 1 (by omega); have := plainL_le f.part 1 (by omega); omega)).mono ?_
    rintro e w' ⟨v, rfl, h1, h2⟩; exact ⟨_, rfl, h1, h2⟩
  rintro p3 ac14 W14 ⟨own3, hb14⟩ I14
  have hz3 := Nat.le_trans hz2 hb14.size
  have hc3 := hc2.trans hb14
  refine Ev.held_more [9] (fuel := 0) trivial I14 (by kernel_rfl) (by kernel_rfl) (fun _ _ d _ _ h => by cases d <;> exact h) rfl (by kernel_rfl) (by kernel_rfl) (by kernel_rfl) fun ac15 I15 => ?_
  refine Ev.held_done (by kernel_rfl) ?_
  show Code.wp _ _ _ _ _
  have J16 := I15.to [1, 4] (s2 := { tab := [⟨1, [], .p 0 0⟩, ⟨4, [], .v p3⟩], mem := [(25, (cells f (.slice a n c) (.slice a' n' c')))] }) (by kernel_rfl)
  clear I15
  refine wp_seq (Ev.seq_v J16 (by kernel_rfl) (by kernel_rfl) fun ac17 I17 => wp_block ?_)
  have J18 := I17.to [1, 4, 20] (s2 := { tab := [⟨1, [], .p 0 0⟩, ⟨4, [], .v p3⟩, ⟨20, [], .v (.int .i64 f.kind)⟩], mem := [(25, (cells f (.slice a n c) (.slice a' n' c')))] }) (by kernel_rfl)
  clear I17
  have hk5 : f.kind = 1 ∨ f.kind = 2 ∨ f.kind = 3 ∨ f.kind = 4 ∨ f.kind = 5 := by omega
  rcases hk5 with hk | hk | hk | hk | hk
  · refine Ev.seq_v J18 (by kernel_rfl) (by kernel_rfl) fun ac19 I19 => ?_
    refine Ev.condT_ok I19 (z := (f.kind == 1)) (by kernel_rfl) (by rw [hk]; rfl) ?_
    have J20 := I19.to [1, 4] (s2 := { tab := [⟨1, [], .p 0 0⟩, ⟨4, [], .v p3⟩], mem := [(25, (cells f (.slice a n c) (.slice a' n' c')))] }) (by kernel_rfl)
    clear I19
    refine wp_region_list ?_
    refine Ev.row_v 3 J20 (by kernel_rfl) (by kernel_rfl) fun ac21 I21 => ?_
    simp only [List.drop_succ_cons, List.drop_zero]
    refine Ev.call_okB (W5.drew).heap.size hlo (l := [.func 22, .tmp 23, .tmp 25, .const (.int .i64 2)]) (A := []) (f := 22) (args := #[p3, .int .i64 f.wait, .int .i64 2]) (R := fun v w' => w'.ownsRow (W5.drew).heap.size 5 1 v ((((([] : List UInt8) ++ plainL f.kind 1) ++ plainL f.part 1) ++ plainL f.node 1) ++ plainL f.wait 2).length (cells8 ((((([] : List UInt8) ++ plainL f.kind 1) ++ plainL f.part 1) ++ plainL f.node 1) ++ plainL f.wait 2)) ∧ Below (W5.drew).heap.size W14 w') I21 (by kernel_rfl) (by kernel_rfl) (by kernel_rfl) rfl (by kernel_rfl) (fun u => (by kernel_rfl)) ?_ (fun v w' h => h.2) ?_
    · refine (putR_calls (W5.drew).heap.size p3 (((([] : List UInt8) ++ plainL f.kind 1) ++ plainL f.part 1) ++ plainL f.node 1) f.wait 2 (by omega) _ own3 hz3 (by simp only [List.length_append, List.length_nil]; have := plainL_le f.kind 1 (by omega); have := plainL_le f.part 1 (by omega); have := plainL_le f.node 1 (by omega); omega)).mono ?_
      rintro e w' ⟨v, rfl, h1, h2⟩; exact ⟨_, rfl, h1, h2⟩
    rintro p104 ac22 W22 ⟨own104, hb22⟩ I22
    have hz104 := Nat.le_trans hz3 hb22.size
    have hc104 := hc3.trans hb22
    refine Ev.row_v 1 I22 (by kernel_rfl) (by kernel_rfl) fun ac23 I23 => ?_
    show Code.wp _ _ _ _ _
    have J24 := I23.to [4] (s2 := { tab := [⟨4, [], .v p104⟩], mem := [(25, (cells f (.slice a n c) (.slice a' n' c')))] }) (by kernel_rfl)
    clear I23
    have hen : ((((([] : List UInt8) ++ plainL f.kind 1) ++ plainL f.part 1) ++ plainL f.node 1) ++ plainL f.wait 2) = enc f := by
      exact encL_1 hm hk
    rw [hen] at own104
    obtain ⟨qe, re, hve, hre⟩ := owns_slice own104
    subst hve
    have hel := enc_le hm
    have HBE := HBB.trans (hc104.mono HBB.size)
    refine Ev.seq_row ?_
    refine Ev.row_v 1 J24 (by kernel_rfl) (by kernel_rfl) fun ac25 I25 => ?_
    simp only [List.drop_succ_cons, List.drop_zero]
    refine Ev.call_ok (l := [.func 18, .tmp 93]) (A := []) (f := 18) (args := #[.slice qe (enc f).length re]) (R := fun v w' => ∃ q r, v = .slice q (sealB (enc f)).length r ∧ Row8 w' w'.heap.size q (sealB (enc f)).length r (sealB (enc f)) ∧ Below W22.heap.size W22 w') I25 (by kernel_rfl) (by kernel_rfl) (by kernel_rfl) rfl (by kernel_rfl) (fun u => (by kernel_rfl)) ?_ (fun v w' h => by obtain ⟨_, _, _, _, h⟩ := h; exact h) ?_
    · refine (sealR_calls _ _ _ (enc f) _ hre (by omega)).mono ?_
      rintro e w' ⟨v, rfl, hmm⟩; obtain ⟨q, r, rfl, h1, h2⟩ := hmm.slice; exact ⟨_, rfl, q, r, rfl, h1, h2⟩
    rintro v ac26 W26 ⟨qz, rz, rfl, hrz, hb26⟩ I26
    have HB27 := HBE.trans (hb26.mono HBE.size)
    refine Ev.row_v 2 I26 (by kernel_rfl) (by kernel_rfl) fun ac28 I28 => ?_
    show Code.ret.wp _ _ _ _
    refine wp_ret (Ev.ret2 I28 rfl (v := .slice qz (sealB (enc f)).length rz) (v' := .int .i64 0) (by kernel_rfl) (by kernel_rfl) ?_)
    have hb : bytesOf f = sealB (enc f) := by unfold bytesOf; rw [hm, if_pos rfl]
    refine ⟨qz, rz, ?_, ?_, HB27⟩
    · rw [hb, hm]; rfl
    · rw [hb]; exact hrz
  · refine Ev.seq_v J18 (by kernel_rfl) (by kernel_rfl) fun ac29 I29 => ?_
    refine Ev.condF_ok I29 (z := (f.kind == 1)) (by kernel_rfl) (by rw [hk]; rfl) ?_
    refine Ev.seq_v I29 (by kernel_rfl) (by kernel_rfl) fun ac30 I30 => ?_
    refine Ev.condT_ok I30 (z := (f.kind == 2)) (by kernel_rfl) (by rw [hk]; rfl) ?_
    have J31 := I30.to [1, 4] (s2 := { tab := [⟨1, [], .p 0 0⟩, ⟨4, [], .v p3⟩], mem := [(25, (cells f (.slice a n c) (.slice a' n' c')))] }) (by kernel_rfl)
    clear I30
    refine Ev.held_begin (fun _ => True) [0, 1, 2, 4, 5, 7, 8] 4 trivial J31 (by kernel_rfl) (by kernel_rfl) (fun _ _ d _ _ h => by cases d <;> exact h) (by kernel_rfl) (by kernel_rfl) (by kernel_rfl) (by kernel_rfl) fun ac32 I32 => ?_
    have hcd := hc3.trans (below_draw _ _)
    refine Ev.held_callB (W5.drew).heap.size hlo (i := 3) (n := 3) (l := [.func 22, .tmp 29, .tmp 31, .const (.int .i64 6)]) (A := []) (f := 22) (args := #[p3, .int .i64 f.cycle, .int .i64 6]) (R := fun v w' => w'.ownsRow (W5.drew).heap.size 5 1 v ((((([] : List UInt8) ++ plainL f.kind 1) ++ plainL f.part 1) ++ plainL f.node 1) ++ plainL f.cycle 6).length (cells8 ((((([] : List UInt8) ++ plainL f.kind 1) ++ plainL f.part 1) ++ plainL f.node 1) ++ plainL f.cycle 6)) ∧ Below (W5.drew).heap.size W14.drew w') I32 (by kernel_rfl) rfl (by kernel_rfl) (by kernel_rfl) (by kernel_rfl) (by kernel_rfl) rfl (by kernel_rfl) (fun u => (by kernel_rfl)) ?_ (fun v w' h => h.2) (fun v w' h => trivial) ?_
    · refine (putR_calls (W5.drew).heap.size p3 (((([] : List UInt8) ++ plainL f.kind 1) ++ plainL f.part 1) ++ plainL f.node 1) f.cycle 6 (by omega) _ (show World.ownsRow W14.drew _ _ _ _ _ _ from own3) hz3 (by simp only [List.length_append, List.length_nil]; have := plainL_le f.kind 1 (by omega); have := plainL_le f.part 1 (by omega); have := plainL_le f.node 1 (by omega); omega)).mono ?_
      rintro e w' ⟨v, rfl, h1, h2⟩; exact ⟨_, rfl, h1, h2⟩
    rintro p204 ac33 W33 ⟨own204, hb33⟩ I33
    have hz204 := Nat.le_trans hz3 hb33.size
    have hc204 := hcd.trans hb33
    refine Ev.held_callB (W5.drew).heap.size hlo (i := 6) (n := 2) (l := [.func 22, .tmp 32, .tmp 34, .const (.int .i64 2)]) (A := []) (f := 22) (args := #[p204, .int .i64 f.mask, .int .i64 2]) (R := fun v w' => w'.ownsRow (W5.drew).heap.size 5 1 v (((((([] : List UInt8) ++ plainL f.kind 1) ++ plainL f.part 1) ++ plainL f.node 1) ++ plainL f.cycle 6) ++ plainL f.mask 2).length (cells8 (((((([] : List UInt8) ++ plainL f.kind 1) ++ plainL f.part 1) ++ plainL f.node 1) ++ plainL f.cycle 6) ++ plainL f.mask 2)) ∧ Below (W5.drew).heap.size W33 w') I33 (by kernel_rfl) rfl (by kernel_rfl) (by kernel_rfl) (by kernel_rfl) (by kernel_rfl) rfl (by kernel_rfl) (fun u => (by kernel_rfl)) ?_ (fun v w' h => h.2) (fun v w' h => trivial) ?_
    · refine (putR_calls (W5.drew).heap.size p204 ((((([] : List UInt8) ++ plainL f.kind 1) ++ plainL f.part 1) ++ plainL f.node 1) ++ plainL f.cycle 6) f.mask 2 (by omega) _ own204 hz204 (by simp only [List.length_append, List.length_nil]; have := plainL_le f.kind 1 (by omega); have := plainL_le f.part 1 (by omega); have := plainL_le f.node 1 (by omega); have := plainL_le f.cycle 6 (by omega); omega)).mono ?_
      rintro e w' ⟨v, rfl, h1, h2⟩; exact ⟨_, rfl, h1, h2⟩
    rintro p205 ac34 W34 ⟨own205, hb34⟩ I34
    have hz205 := Nat.le_trans hz204 hb34.size
    have hc205 := hc204.trans hb34
    have hn6 : n ≤ 6 := by have := (agesOk_iff.1 (g5 (.inl hk))).1.2; omega
    refine Ev.held_callB (W5.drew).heap.size hlo (i := 9) (n := 1) (l := [.func 23, .tmp 35, .tmp 37]) (A := []) (f := 23) (args := #[p205, .slice a n c]) (R := fun v w' => w'.ownsRow (W5.drew).heap.size 5 1 v ((((((([] : List UInt8) ++ plainL f.kind 1) ++ plainL f.part 1) ++ plainL f.node 1) ++ plainL f.cycle 6) ++ plainL f.mask 2) ++ (plainL f.ages.length 1 ++ agesL f.ages)).length (cells8 ((((((([] : List UInt8) ++ plainL f.kind 1) ++ plainL f.part 1) ++ plainL f.node 1) ++ plainL f.cycle 6) ++ plainL f.mask 2) ++ (plainL f.ages.length 1 ++ agesL f.ages))) ∧ Below (W5.drew).heap.size W34 w') I34 (by kernel_rfl) rfl (by kernel_rfl) (by kernel_rfl) (by kernel_rfl) (by kernel_rfl) rfl (by kernel_rfl) (fun u => (by kernel_rfl)) ?_ (fun v w' h => h.2) (fun v w' h => trivial) ?_
    · refine (putAgesR_calls (W5.drew).heap.size p205 (((((([] : List UInt8) ++ plainL f.kind 1) ++ plainL f.part 1) ++ plainL f.node 1) ++ plainL f.cycle 6) ++ plainL f.mask 2) a n c f.ages w.heap.size _ own205 ((ra.more hB).below (HBB.trans (hc205.mono HBB.size))) HBB.size hz205 (by simp only [List.length_append, List.length_nil]; have := plainL_le f.kind 1 (by omega); have := plainL_le f.part 1 (by omega); have := plainL_le f.node 1 (by omega); have := plainL_le f.cycle 6 (by omega); have := plainL_le f.mask 2 (by omega); omega) (by omega)).mono ?_
      rintro e w' ⟨v, rfl, h1, h2⟩; exact ⟨_, rfl, h1, h2⟩
    rintro p206 ac35 W35 ⟨own206, hb35⟩ I35
    have hz206 := Nat.le_trans hz205 hb35.size
    have hc206 := hc205.trans hb35
    refine Ev.held_more [10] (fuel := 0) trivial I35 (by kernel_rfl) (by kernel_rfl) (fun _ _ d _ _ h => by cases d <;> exact h) rfl (by kernel_rfl) (by kernel_rfl) (by kernel_rfl) fun ac36 I36 => ?_
    refine Ev.held_done (by kernel_rfl) ?_
    show Code.wp _ _ _ _ _
    have J37 := I36.to [4] (s2 := { tab := [⟨4, [], .v p206⟩], mem := [(25, (cells f (.slice a n c) (.slice a' n' c')))] }) (by kernel_rfl)
    clear I36
    have hen : ((((((([] : List UInt8) ++ plainL f.kind 1) ++ plainL f.part 1) ++ plainL f.node 1) ++ plainL f.cycle 6) ++ plainL f.mask 2) ++ (plainL f.ages.length 1 ++ agesL f.ages)) = enc f := by
      exact encL_2 hm hk
    rw [hen] at own206
    obtain ⟨qe, re, hve, hre⟩ := owns_slice own206
    subst hve
    have hel := enc_le hm
    have HBE := HBB.trans (hc206.mono HBB.size)
    refine Ev.seq_row ?_
    refine Ev.row_v 1 J37 (by kernel_rfl) (by kernel_rfl) fun ac38 I38 => ?_
    simp only [List.drop_succ_cons, List.drop_zero]
    refine Ev.call_ok (l := [.func 18, .tmp 93]) (A := []) (f := 18) (args := #[.slice qe (enc f).length re]) (R := fun v w' => ∃ q r, v = .slice q (sealB (enc f)).length r ∧ Row8 w' w'.heap.size q (sealB (enc f)).length r (sealB (enc f)) ∧ Below W35.heap.size W35 w') I38 (by kernel_rfl) (by kernel_rfl) (by kernel_rfl) rfl (by kernel_rfl) (fun u => (by kernel_rfl)) ?_ (fun v w' h => by obtain ⟨_, _, _, _, h⟩ := h; exact h) ?_
    · refine (sealR_calls _ _ _ (enc f) _ hre (by omega)).mono ?_
      rintro e w' ⟨v, rfl, hmm⟩; obtain ⟨q, r, rfl, h1, h2⟩ := hmm.slice; exact ⟨_, rfl, q, r, rfl, h1, h2⟩
    rintro v ac39 W39 ⟨qz, rz, rfl, hrz, hb39⟩ I39
    have HB40 := HBE.trans (hb39.mono HBE.size)
    refine Ev.row_v 2 I39 (by kernel_rfl) (by kernel_rfl) fun ac41 I41 => ?_
    show Code.ret.wp _ _ _ _
    refine wp_ret (Ev.ret2 I41 rfl (v := .slice qz (sealB (enc f)).length rz) (v' := .int .i64 0) (by kernel_rfl) (by kernel_rfl) ?_)
    have hb : bytesOf f = sealB (enc f) := by unfold bytesOf; rw [hm, if_pos rfl]
    refine ⟨qz, rz, ?_, ?_, HB40⟩
    · rw [hb, hm]; rfl
    · rw [hb]; exact hrz
  · refine Ev.seq_v J18 (by kernel_rfl) (by kernel_rfl) fun ac42 I42 => ?_
    refine Ev.condF_ok I42 (z := (f.kind == 1)) (by kernel_rfl) (by rw [hk]; rfl) ?_
    refine Ev.seq_v I42 (by kernel_rfl) (by kernel_rfl) fun ac43 I43 => ?_
    refine Ev.condF_ok I43 (z := (f.kind == 2)) (by kernel_rfl) (by rw [hk]; rfl) ?_
    refine Ev.seq_v I43 (by kernel_rfl) (by kernel_rfl) fun ac44 I44 => ?_
    refine Ev.condT_ok I44 (z := (f.kind == 3)) (by kernel_rfl) (by rw [hk]; rfl) ?_
    have J45 := I44.to [1, 4] (s2 := { tab := [⟨1, [], .p 0 0⟩, ⟨4, [], .v p3⟩], mem := [(25, (cells f (.slice a n c) (.slice a' n' c')))] }) (by kernel_rfl)
    clear I44
    refine wp_seq ?_
    refine Ev.held_begin (fun _ => True) [0, 1, 2, 4, 5, 8, 9] 5 trivial J45 (by kernel_rfl) (by kernel_rfl) (fun _ _ d _ _ h => by cases d <;> exact h) (by kernel_rfl) (by kernel_rfl) (by kernel_rfl) (by kernel_rfl) fun ac46 I46 => ?_
    have hcd := hc3.trans (below_draw _ _)
    refine Ev.held_callB (W5.drew).heap.size hlo (i := 3) (n := 4) (l := [.func 22, .tmp 41, .tmp 43, .const (.int .i64 1)]) (A := []) (f := 22) (args := #[p3, .int .i64 f.link, .int .i64 1]) (R := fun v w' => w'.ownsRow (W5.drew).heap.size 5 1 v ((((([] : List UInt8) ++ plainL f.kind 1) ++ plainL f.part 1) ++ plainL f.node 1) ++ plainL f.link 1).length (cells8 ((((([] : List UInt8) ++ plainL f.kind 1) ++ plainL f.part 1) ++ plainL f.node 1) ++ plainL f.link 1)) ∧ Below (W5.drew).heap.size W14.drew w') I46 (by kernel_rfl) rfl (by kernel_rfl) (by kernel_rfl) (by kernel_rfl) (by kernel_rfl) rfl (by kernel_rfl) (fun u => (by kernel_rfl)) ?_ (fun v w' h => h.2) (fun v w' h => trivial) ?_
    · refine (putR_calls (W5.drew).heap.size p3 (((([] : List UInt8) ++ plainL f.kind 1) ++ plainL f.part 1) ++ plainL f.node 1) f.link 1 (by omega) _ (show World.ownsRow W14.drew _ _ _ _ _ _ from own3) hz3 (by simp only [List.length_append, List.length_nil]; have := plainL_le f.kind 1 (by omega); have := plainL_le f.part 1 (by omega); have := plainL_le f.node 1 (by omega); omega)).mono ?_
      rintro e w' ⟨v, rfl, h1, h2⟩; exact ⟨_, rfl, h1, h2⟩
    rintro p304 ac47 W47 ⟨own304, hb47⟩ I47
    have hz304 := Nat.le_trans hz3 hb47.size
    have hc304 := hcd.trans hb47
    refine Ev.held_call (i := 6) (n := 3) (l := [.func 24, .tmp 46]) (A := []) (f := 24) (args := #[.bool f.flag]) (R := fun v w' => v = .int .i64 (if f.flag = true then 1 else 0) ∧ W47 = w') I47 (by kernel_rfl) rfl (by kernel_rfl) (by kernel_rfl) (by kernel_rfl) (by kernel_rfl) rfl (by kernel_rfl) (fun u => (by kernel_rfl)) ?_ (fun v w' h => by rw [← h.2]; exact Below.refl _ _) (fun v w' h => trivial) ?_
    · refine (flagR_calls f.flag _).mono ?_
      rintro e w' ⟨rfl, h⟩; exact ⟨_, rfl, rfl, h⟩
    rintro v ac48 _ ⟨rfl, rfl⟩ I48
    refine Ev.held_callB (W5.drew).heap.size hlo (i := 7) (n := 2) (l := [.func 22, .tmp 44, .tmp 47, .const (.int .i64 1)]) (A := []) (f := 22) (args := #[p304, .int .i64 (if f.flag = true then (1 : Int) else 0), .int .i64 1]) (R := fun v w' => w'.ownsRow (W5.drew).heap.size 5 1 v (((((([] : List UInt8) ++ plainL f.kind 1) ++ plainL f.part 1) ++ plainL f.node 1) ++ plainL f.link 1) ++ plainL (if f.flag = true then (1 : Int) else 0) 1).length (cells8 (((((([] : List UInt8) ++ plainL f.kind 1) ++ plainL f.part 1) ++ plainL f.node 1) ++ plainL f.link 1) ++ plainL (if f.flag = true then (1 : Int) else 0) 1)) ∧ Below (W5.drew).heap.size W47 w') I48 (by kernel_rfl) rfl (by kernel_rfl) (by kernel_rfl) (by kernel_rfl) (by kernel_rfl) rfl (by kernel_rfl) (fun u => (by kernel_rfl)) ?_ (fun v w' h => h.2) (fun v w' h => trivial) ?_
    · refine (putR_calls (W5.drew).heap.size p304 ((((([] : List UInt8) ++ plainL f.kind 1) ++ plainL f.part 1) ++ plainL f.node 1) ++ plainL f.link 1) (if f.flag = true then (1 : Int) else 0) 1 (by omega) _ own304 hz304 (by simp only [List.length_append, List.length_nil]; have := plainL_le f.kind 1 (by omega); have := plainL_le f.part 1 (by omega); have := plainL_le f.node 1 (by omega); have := plainL_le f.link 1 (by omega); omega)).mono ?_
      rintro e w' ⟨v, rfl, h1, h2⟩; exact ⟨_, rfl, h1, h2⟩
    rintro p305 ac51 W51 ⟨own305, hb51⟩ I51
    have hz305 := Nat.le_trans hz304 hb51.size
    have hc305 := hc304.trans hb51
    refine Ev.held_callB (W5.drew).heap.size hlo (i := 10) (n := 1) (l := [.func 22, .tmp 48, .tmp 50, .const (.int .i64 6)]) (A := []) (f := 22) (args := #[p305, .int .i64 f.cycle, .int .i64 6]) (R := fun v w' => w'.ownsRow (W5.drew).heap.size 5 1 v ((((((([] : List UInt8) ++ plainL f.kind 1) ++ plainL f.part 1) ++ plainL f.node 1) ++ plainL f.link 1) ++ plainL (if f.flag = true then (1 : Int) else 0) 1) ++ plainL f.cycle 6).length (cells8 ((((((([] : List UInt8) ++ plainL f.kind 1) ++ plainL f.part 1) ++ plainL f.node 1) ++ plainL f.link 1) ++ plainL (if f.flag = true then (1 : Int) else 0) 1) ++ plainL f.cycle 6)) ∧ Below (W5.drew).heap.size W51 w') I51 (by kernel_rfl) rfl (by kernel_rfl) (by kernel_rfl) (by kernel_rfl) (by kernel_rfl) rfl (by kernel_rfl) (fun u => (by kernel_rfl)) ?_ (fun v w' h => h.2) (fun v w' h => trivial) ?_
    · refine (putR_calls (W5.drew).heap.size p305 (((((([] : List UInt8) ++ plainL f.kind 1) ++ plainL f.part 1) ++ plainL f.node 1) ++ plainL f.link 1) ++ plainL (if f.flag = true then (1 : Int) else 0) 1) f.cycle 6 (by omega) _ own305 hz305 (by simp only [List.length_append, List.length_nil]; have := plainL_le f.kind 1 (by omega); have := plainL_le f.part 1 (by omega); have := plainL_le f.node 1 (by omega); have := plainL_le f.link 1 (by omega); have := plainL_le (if f.flag = true then (1 : Int) else 0) 1 (by omega); omega)).mono ?_
      rintro e w' ⟨v, rfl, h1, h2⟩; exact ⟨_, rfl, h1, h2⟩
    rintro p306 ac52 W52 ⟨own306, hb52⟩ I52
    have hz306 := Nat.le_trans hz305 hb52.size
    have hc306 := hc305.trans hb52
    refine Ev.held_more [11] (fuel := 0) trivial I52 (by kernel_rfl) (by kernel_rfl) (fun _ _ d _ _ h => by cases d <;> exact h) rfl (by kernel_rfl) (by kernel_rfl) (by kernel_rfl) fun ac53 I53 => ?_
    refine Ev.held_done (by kernel_rfl) ?_
    show Code.wp _ _ _ _ _
    have J54 := I53.to [1, 4] (s2 := { tab := [⟨1, [], .p 0 0⟩, ⟨4, [], .v p306⟩], mem := [(25, (cells f (.slice a n c) (.slice a' n' c')))] }) (by kernel_rfl)
    clear I53
    refine Ev.seq_row ?_
    refine Ev.row_v 2 J54 (by kernel_rfl) (by kernel_rfl) fun ac55 I55 => ?_
    simp only [List.drop_succ_cons, List.drop_zero]
    refine Ev.call_ok (l := [.func 25, .tmp 54, .const (.int .i64 6)]) (A := []) (f := 25) (args := #[.int .i64 f.offset, .int .i64 6]) (R := fun v w' => ∃ q r, v = .tuple #[.slice q (signedL f.offset 6).length r, .bool (signedB f.offset 6)] ∧ Row8 w' w'.heap.size q (signedL f.offset 6).length r (signedL f.offset 6) ∧ Below W52.heap.size W52 w') I55 (by kernel_rfl) (by kernel_rfl) (by kernel_rfl) rfl (by kernel_rfl) (fun u => (by kernel_rfl)) ?_ (fun v w' h => by obtain ⟨_, _, _, _, h⟩ := h; exact h) ?_
    · refine (signedR_calls f.offset 6 _).mono ?_
      rintro e w' ⟨v, rfl, hmm⟩; obtain ⟨q, r, rfl, h1, h2⟩ := hmm.slice; exact ⟨_, rfl, q, r, rfl, h1, h2⟩
    rintro v ac56 W56 ⟨qg, rg, rfl, hrg, hbg⟩ I56
    refine Ev.row_v 5 I56 (by kernel_rfl) (by kernel_rfl) fun ac59 I59 => ?_
    show Code.wp _ _ _ _ _
    have hcg := hc306.trans (hbg.mono hz306)
    have hzg := Nat.le_trans hz306 hbg.size
    have owng := owns_later own306 hbg
    refine wp_region_list ?_
    refine Ev.row_v 2 I59 (by kernel_rfl) (by kernel_rfl) fun ac60 I60 => ?_
    simp only [List.drop_succ_cons, List.drop_zero]
    have hsl : (signedL f.offset 6).length ≤ 7 := Nat.le_trans (signedL_le f.offset) (by omega)
    refine Ev.append_ok I60 rfl (by kernel_rfl) _ _ _ rfl (W5.drew).heap.size 5 i0 _ Tryd.underlying23 hi0 hq0 hq1 hq2 rfl p306 ((((((([] : List UInt8) ++ plainL f.kind 1) ++ plainL f.part 1) ++ plainL f.node 1) ++ plainL f.link 1) ++ plainL (if f.flag = true then (1 : Int) else 0) 1) ++ plainL f.cycle 6) (by kernel_rfl) owng _ qg _ rg (signedL f.offset 6) (by kernel_rfl) hrg (by simp only [List.length_append, List.length_nil]; have := plainL_le f.kind 1 (by omega); have := plainL_le f.part 1 (by omega); have := plainL_le f.node 1 (by omega); have := plainL_le f.link 1 (by omega); have := plainL_le (if f.flag = true then (1 : Int) else 0) 1 (by omega); have := plainL_le f.cycle 6 (by omega); have := hsl; omega) hzg hlo ?_
    rintro pg ac61 W61 owng2 hbg2 I61
    have hcg2 := hcg.trans hbg2
    refine Ev.row_v 1 I61 (by kernel_rfl) (by kernel_rfl) fun ac62 I62 => ?_
    show Code.wp _ _ _ _ _
    have J63 := I62.to [4] (s2 := { tab := [⟨4, [], .v pg⟩], mem := [(25, (cells f (.slice a n c) (.slice a' n' c')))] }) (by kernel_rfl)
    clear I62
    have hen : (((((((([] : List UInt8) ++ plainL f.kind 1) ++ plainL f.part 1) ++ plainL f.node 1) ++ plainL f.link 1) ++ plainL (if f.flag = true then (1 : Int) else 0) 1) ++ plainL f.cycle 6) ++ signedL f.offset 6) = enc f := by
      exact encL_3 hm hk
    rw [hen] at owng2
    obtain ⟨qe, re, hve, hre⟩ := owns_slice owng2
    subst hve
    have hel := enc_le hm
    have HBE := HBB.trans (hcg2.mono HBB.size)
    refine Ev.seq_row ?_
    refine Ev.row_v 1 J63 (by kernel_rfl) (by kernel_rfl) fun ac64 I64 => ?_
    simp only [List.drop_succ_cons, List.drop_zero]
    refine Ev.call_ok (l := [.func 18, .tmp 93]) (A := []) (f := 18) (args := #[.slice qe (enc f).length re]) (R := fun v w' => ∃ q r, v = .slice q (sealB (enc f)).length r ∧ Row8 w' w'.heap.size q (sealB (enc f)).length r (sealB (enc f)) ∧ Below W61.heap.size W61 w') I64 (by kernel_rfl) (by kernel_rfl) (by kernel_rfl) rfl (by kernel_rfl) (fun u => (by kernel_rfl)) ?_ (fun v w' h => by obtain ⟨_, _, _, _, h⟩ := h; exact h) ?_
    · refine (sealR_calls _ _ _ (enc f) _ hre (by omega)).mono ?_
      rintro e w' ⟨v, rfl, hmm⟩; obtain ⟨q, r, rfl, h1, h2⟩ := hmm.slice; exact ⟨_, rfl, q, r, rfl, h1, h2⟩
    rintro v ac65 W65 ⟨qz, rz, rfl, hrz, hb65⟩ I65
    have HB66 := HBE.trans (hb65.mono HBE.size)
    refine Ev.row_v 2 I65 (by kernel_rfl) (by kernel_rfl) fun ac67 I67 => ?_
    show Code.ret.wp _ _ _ _
    refine wp_ret (Ev.ret2 I67 rfl (v := .slice qz (sealB (enc f)).length rz) (v' := .int .i64 0) (by kernel_rfl) (by kernel_rfl) ?_)
    have hb : bytesOf f = sealB (enc f) := by unfold bytesOf; rw [hm, if_pos rfl]
    refine ⟨qz, rz, ?_, ?_, HB66⟩
    · rw [hb, hm]; rfl
    · rw [hb]; exact hrz
  · refine Ev.seq_v J18 (by kernel_rfl) (by kernel_rfl) fun ac68 I68 => ?_
    refine Ev.condF_ok I68 (z := (f.kind == 1)) (by kernel_rfl) (by rw [hk]; rfl) ?_
    refine Ev.seq_v I68 (by kernel_rfl) (by kernel_rfl) fun ac69 I69 => ?_
    refine Ev.condF_ok I69 (z := (f.kind == 2)) (by kernel_rfl) (by rw [hk]; rfl) ?_
    refine Ev.seq_v I69 (by kernel_rfl) (by kernel_rfl) fun ac70 I70 => ?_
    refine Ev.condF_ok I70 (z := (f.kind == 3)) (by kernel_rfl) (by rw [hk]; rfl) ?_
    refine Ev.seq_v I70 (by kernel_rfl) (by kernel_rfl) fun ac71 I71 => ?_
    refine Ev.condT_ok I71 (z := (f.kind == 4)) (by kernel_rfl) (by rw [hk]; rfl) ?_
    have J72 := I71.to [1, 4] (s2 := { tab := [⟨1, [], .p 0 0⟩, ⟨4, [], .v p3⟩], mem := [(25, (cells f (.slice a n c) (.slice a' n' c')))] }) (by kernel_rfl)
    clear I71
    refine Ev.held_begin (fun _ => True) [0, 1, 2, 4, 5] 3 trivial J72 (by kernel_rfl) (by kernel_rfl) (fun _ _ d _ _ h => by cases d <;> exact h) (by kernel_rfl) (by kernel_rfl) (by kernel_rfl) (by kernel_rfl) fun ac73 I73 => ?_
    have hcd := hc3.trans (below_draw _ _)
    refine Ev.held_callB (W5.drew).heap.size hlo (i := 3) (n := 2) (l := [.func 22, .tmp 63, .tmp 65, .const (.int .i64 1)]) (A := []) (f := 22) (args := #[p3, .int .i64 f.link, .int .i64 1]) (R := fun v w' => w'.ownsRow (W5.drew).heap.size 5 1 v ((((([] : List UInt8) ++ plainL f.kind 1) ++ plainL f.part 1) ++ plainL f.node 1) ++ plainL f.link 1).length (cells8 ((((([] : List UInt8) ++ plainL f.kind 1) ++ plainL f.part 1) ++ plainL f.node 1) ++ plainL f.link 1)) ∧ Below (W5.drew).heap.size W14.drew w') I73 (by kernel_rfl) rfl (by kernel_rfl) (by kernel_rfl) (by kernel_rfl) (by kernel_rfl) rfl (by kernel_rfl) (fun u => (by kernel_rfl)) ?_ (fun v w' h => h.2) (fun v w' h => trivial) ?_
    · refine (putR_calls (W5.drew).heap.size p3 (((([] : List UInt8) ++ plainL f.kind 1) ++ plainL f.part 1) ++ plainL f.node 1) f.link 1 (by omega) _ (show World.ownsRow W14.drew _ _ _ _ _ _ from own3) hz3 (by simp only [List.length_append, List.length_nil]; have := plainL_le f.kind 1 (by omega); have := plainL_le f.part 1 (by omega); have := plainL_le f.node 1 (by omega); omega)).mono ?_
      rintro e w' ⟨v, rfl, h1, h2⟩; exact ⟨_, rfl, h1, h2⟩
    rintro p404 ac74 W74 ⟨own404, hb74⟩ I74
    have hz404 := Nat.le_trans hz3 hb74.size
    have hc404 := hcd.trans hb74
    have hn6 : n ≤ 6 := by have := (agesOk_iff.1 (g5 (.inr hk))).1.2; omega
    refine Ev.held_callB (W5.drew).heap.size hlo (i := 6) (n := 1) (l := [.func 23, .tmp 66, .tmp 68]) (A := []) (f := 23) (args := #[p404, .slice a n c]) (R := fun v w' => w'.ownsRow (W5.drew).heap.size 5 1 v (((((([] : List UInt8) ++ plainL f.kind 1) ++ plainL f.part 1) ++ plainL f.node 1) ++ plainL f.link 1) ++ (plainL f.ages.length 1 ++ agesL f.ages)).length (cells8 (((((([] : List UInt8) ++ plainL f.kind 1) ++ plainL f.part 1) ++ plainL f.node 1) ++ plainL f.link 1) ++ (plainL f.ages.length 1 ++ agesL f.ages))) ∧ Below (W5.drew).heap.size W74 w') I74 (by kernel_rfl) rfl (by kernel_rfl) (by kernel_rfl) (by kernel_rfl) (by kernel_rfl) rfl (by kernel_rfl) (fun u => (by kernel_rfl)) ?_ (fun v w' h => h.2) (fun v w' h => trivial) ?_
    · refine (putAgesR_calls (W5.drew).heap.size p404 ((((([] : List UInt8) ++ plainL f.kind 1) ++ plainL f.part 1) ++ plainL f.node 1) ++ plainL f.link 1) a n c f.ages w.heap.size _ own404 ((ra.more hB).below (HBB.trans (hc404.mono HBB.size))) HBB.size hz404 (by simp only [List.length_append, List.length_nil]; have := plainL_le f.kind 1 (by omega); have := plainL_le f.part 1 (by omega); have := plainL_le f.node 1 (by omega); have := plainL_le f.link 1 (by omega); omega) (by omega)).mono ?_
      rintro e w' ⟨v, rfl, h1, h2⟩; exact ⟨_, rfl, h1, h2⟩
    rintro p405 ac75 W75 ⟨own405, hb75⟩ I75
    have hz405 := Nat.le_trans hz404 hb75.size
    have hc405 := hc404.trans hb75
    refine Ev.held_more [7] (fuel := 0) trivial I75 (by kernel_rfl) (by kernel_rfl) (fun _ _ d _ _ h => by cases d <;> exact h) rfl (by kernel_rfl) (by kernel_rfl) (by kernel_rfl) fun ac76 I76 => ?_
    refine Ev.held_done (by kernel_rfl) ?_
    show Code.wp _ _ _ _ _
    have J77 := I76.to [4] (s2 := { tab := [⟨4, [], .v p405⟩], mem := [(25, (cells f (.slice a n c) (.slice a' n' c')))] }) (by kernel_rfl)
    clear I76
    have hen : (((((([] : List UInt8) ++ plainL f.kind 1) ++ plainL f.part 1) ++ plainL f.node 1) ++ plainL f.link 1) ++ (plainL f.ages.length 1 ++ agesL f.ages)) = enc f := by
      exact encL_4 hm hk
    rw [hen] at own405
    obtain ⟨qe, re, hve, hre⟩ := owns_slice own405
    subst hve
    have hel := enc_le hm
    have HBE := HBB.trans (hc405.mono HBB.size)
    refine Ev.seq_row ?_
    refine Ev.row_v 1 J77 (by kernel_rfl) (by kernel_rfl) fun ac78 I78 => ?_
    simp only [List.drop_succ_cons, List.drop_zero]
    refine Ev.call_ok (l := [.func 18, .tmp 93]) (A := []) (f := 18) (args := #[.slice qe (enc f).length re]) (R := fun v w' => ∃ q r, v = .slice q (sealB (enc f)).length r ∧ Row8 w' w'.heap.size q (sealB (enc f)).length r (sealB (enc f)) ∧ Below W75.heap.size W75 w') I78 (by kernel_rfl) (by kernel_rfl) (by kernel_rfl) rfl (by kernel_rfl) (fun u => (by kernel_rfl)) ?_ (fun v w' h => by obtain ⟨_, _, _, _, h⟩ := h; exact h) ?_
    · refine (sealR_calls _ _ _ (enc f) _ hre (by omega)).mono ?_
      rintro e w' ⟨v, rfl, hmm⟩; obtain ⟨q, r, rfl, h1, h2⟩ := hmm.slice; exact ⟨_, rfl, q, r, rfl, h1, h2⟩
    rintro v ac79 W79 ⟨qz, rz, rfl, hrz, hb79⟩ I79
    have HB80 := HBE.trans (hb79.mono HBE.size)
    refine Ev.row_v 2 I79 (by kernel_rfl) (by kernel_rfl) fun ac81 I81 => ?_
    show Code.ret.wp _ _ _ _
    refine wp_ret (Ev.ret2 I81 rfl (v := .slice qz (sealB (enc f)).length rz) (v' := .int .i64 0) (by kernel_rfl) (by kernel_rfl) ?_)
    have hb : bytesOf f = sealB (enc f) := by unfold bytesOf; rw [hm, if_pos rfl]
    refine ⟨qz, rz, ?_, ?_, HB80⟩
    · rw [hb, hm]; rfl
    · rw [hb]; exact hrz
  · refine Ev.seq_v J18 (by kernel_rfl) (by kernel_rfl) fun ac82 I82 => ?_
    refine Ev.condF_ok I82 (z := (f.kind == 1)) (by kernel_rfl) (by rw [hk]; rfl) ?_
    refine Ev.seq_v I82 (by kernel_rfl) (by kernel_rfl) fun ac83 I83 => ?_
    refine Ev.condF_ok I83 (z := (f.kind == 2)) (by kernel_rfl) (by rw [hk]; rfl) ?_
    refine Ev.seq_v I83 (by kernel_rfl) (by kernel_rfl) fun ac84 I84 => ?_
    refine Ev.condF_ok I84 (z := (f.kind == 3)) (by kernel_rfl) (by rw [hk]; rfl) ?_
    refine Ev.seq_v I84 (by kernel_rfl) (by kernel_rfl) fun ac85 I85 => ?_
    refine Ev.condF_ok I85 (z := (f.kind == 4)) (by kernel_rfl) (by rw [hk]; rfl) ?_
    refine Ev.seq_v I85 (by kernel_rfl) (by kernel_rfl) fun ac86 I86 => ?_
    refine Ev.condT_ok I86 (z := (f.kind == 5)) (by kernel_rfl) (by rw [hk]; rfl) ?_
    have J87 := I86.to [1, 4] (s2 := { tab := [⟨1, [], .p 0 0⟩, ⟨4, [], .v p3⟩], mem := [(25, (cells f (.slice a n c) (.slice a' n' c')))] }) (by kernel_rfl)
    clear I86
    refine wp_seq ?_
    refine Ev.held_begin (fun _ => True) [0, 1, 2, 4, 5, 7, 8, 10, 11] 5 trivial J87 (by kernel_rfl) (by kernel_rfl) (fun _ _ d _ _ h => by cases d <;> exact h) (by kernel_rfl) (by kernel_rfl) (by kernel_rfl) (by kernel_rfl) fun ac88 I88 => ?_
    have hcd := hc3.trans (below_draw _ _)
    refine Ev.held_callB (W5.drew).heap.size hlo (i := 3) (n := 4) (l := [.func 22, .tmp 72, .tmp 74, .const (.int .i64 1)]) (A := []) (f := 22) (args := #[p3, .int .i64 f.link, .int .i64 1]) (R := fun v w' => w'.ownsRow (W5.drew).heap.size 5 1 v ((((([] : List UInt8) ++ plainL f.kind 1) ++ plainL f.part 1) ++ plainL f.node 1) ++ plainL f.link 1).length (cells8 ((((([] : List UInt8) ++ plainL f.kind 1) ++ plainL f.part 1) ++ plainL f.node 1) ++ plainL f.link 1)) ∧ Below (W5.drew).heap.size W14.drew w') I88 (by kernel_rfl) rfl (by kernel_rfl) (by kernel_rfl) (by kernel_rfl) (by kernel_rfl) rfl (by kernel_rfl) (fun u => (by kernel_rfl)) ?_ (fun v w' h => h.2) (fun v w' h => trivial) ?_
    · refine (putR_calls (W5.drew).heap.size p3 (((([] : List UInt8) ++ plainL f.kind 1) ++ plainL f.part 1) ++ plainL f.node 1) f.link 1 (by omega) _ (show World.ownsRow W14.drew _ _ _ _ _ _ from own3) hz3 (by simp only [List.length_append, List.length_nil]; have := plainL_le f.kind 1 (by omega); have := plainL_le f.part 1 (by omega); have := plainL_le f.node 1 (by omega); omega)).mono ?_
      rintro e w' ⟨v, rfl, h1, h2⟩; exact ⟨_, rfl, h1, h2⟩
    rintro p504 ac89 W89 ⟨own504, hb89⟩ I89
    have hz504 := Nat.le_trans hz3 hb89.size
    have hc504 := hcd.trans hb89
    refine Ev.held_callB (W5.drew).heap.size hlo (i := 6) (n := 3) (l := [.func 22, .tmp 75, .tmp 77, .const (.int .i64 1)]) (A := []) (f := 22) (args := #[p504, .int .i64 f.frm, .int .i64 1]) (R := fun v w' => w'.ownsRow (W5.drew).heap.size 5 1 v (((((([] : List UInt8) ++ plainL f.kind 1) ++ plainL f.part 1) ++ plainL f.node 1) ++ plainL f.link 1) ++ plainL f.frm 1).length (cells8 (((((([] : List UInt8) ++ plainL f.kind 1) ++ plainL f.part 1) ++ plainL f.node 1) ++ plainL f.link 1) ++ plainL f.frm 1)) ∧ Below (W5.drew).heap.size W89 w') I89 (by kernel_rfl) rfl (by kernel_rfl) (by kernel_rfl) (by kernel_rfl) (by kernel_rfl) rfl (by kernel_rfl) (fun u => (by kernel_rfl)) ?_ (fun v w' h => h.2) (fun v w' h => trivial) ?_
    · refine (putR_calls (W5.drew).heap.size p504 ((((([] : List UInt8) ++ plainL f.kind 1) ++ plainL f.part 1) ++ plainL f.node 1) ++ plainL f.link 1) f.frm 1 (by omega) _ own504 hz504 (by simp only [List.length_append, List.length_nil]; have := plainL_le f.kind 1 (by omega); have := plainL_le f.part 1 (by omega); have := plainL_le f.node 1 (by omega); have := plainL_le f.link 1 (by omega); omega)).mono ?_
      rintro e w' ⟨v, rfl, h1, h2⟩; exact ⟨_, rfl, h1, h2⟩
    rintro p505 ac90 W90 ⟨own505, hb90⟩ I90
    have hz505 := Nat.le_trans hz504 hb90.size
    have hc505 := hc504.trans hb90
    refine Ev.held_callB (W5.drew).heap.size hlo (i := 9) (n := 2) (l := [.func 22, .tmp 78, .tmp 80, .const (.int .i64 1)]) (A := []) (f := 22) (args := #[p505, .int .i64 f.to, .int .i64 1]) (R := fun v w' => w'.ownsRow (W5.drew).heap.size 5 1 v ((((((([] : List UInt8) ++ plainL f.kind 1) ++ plainL f.part 1) ++ plainL f.node 1) ++ plainL f.link 1) ++ plainL f.frm 1) ++ plainL f.to 1).length (cells8 ((((((([] : List UInt8) ++ plainL f.kind 1) ++ plainL f.part 1) ++ plainL f.node 1) ++ plainL f.link 1) ++ plainL f.frm 1) ++ plainL f.to 1)) ∧ Below (W5.drew).heap.size W90 w') I90 (by kernel_rfl) rfl (by kernel_rfl) (by kernel_rfl) (by kernel_rfl) (by kernel_rfl) rfl (by kernel_rfl) (fun u => (by kernel_rfl)) ?_ (fun v w' h => h.2) (fun v w' h => trivial) ?_
    · refine (putR_calls (W5.drew).heap.size p505 (((((([] : List UInt8) ++ plainL f.kind 1) ++ plainL f.part 1) ++ plainL f.node 1) ++ plainL f.link 1) ++ plainL f.frm 1) f.to 1 (by omega) _ own505 hz505 (by simp only [List.length_append, List.length_nil]; have := plainL_le f.kind 1 (by omega); have := plainL_le f.part 1 (by omega); have := plainL_le f.node 1 (by omega); have := plainL_le f.link 1 (by omega); have := plainL_le f.frm 1 (by omega); omega)).mono ?_
      rintro e w' ⟨v, rfl, h1, h2⟩; exact ⟨_, rfl, h1, h2⟩
    rintro p506 ac91 W91 ⟨own506, hb91⟩ I91
    have hz506 := Nat.le_trans hz505 hb91.size
    have hc506 := hc505.trans hb91
    refine Ev.held_callB (W5.drew).heap.size hlo (i := 12) (n := 1) (l := [.func 22, .tmp 81, .tmp 83, .const (.int .i64 4)]) (A := []) (f := 22) (args := #[p506, .int .i64 f.seq, .int .i64 4]) (R := fun v w' => w'.ownsRow (W5.drew).heap.size 5 1 v (((((((([] : List UInt8) ++ plainL f.kind 1) ++ plainL f.part 1) ++ plainL f.node 1) ++ plainL f.link 1) ++ plainL f.frm 1) ++ plainL f.to 1) ++ plainL f.seq 4).length (cells8 (((((((([] : List UInt8) ++ plainL f.kind 1) ++ plainL f.part 1) ++ plainL f.node 1) ++ plainL f.link 1) ++ plainL f.frm 1) ++ plainL f.to 1) ++ plainL f.seq 4)) ∧ Below (W5.drew).heap.size W91 w') I91 (by kernel_rfl) rfl (by kernel_rfl) (by kernel_rfl) (by kernel_rfl) (by kernel_rfl) rfl (by kernel_rfl) (fun u => (by kernel_rfl)) ?_ (fun v w' h => h.2) (fun v w' h => trivial) ?_
    · refine (putR_calls (W5.drew).heap.size p506 ((((((([] : List UInt8) ++ plainL f.kind 1) ++ plainL f.part 1) ++ plainL f.node 1) ++ plainL f.link 1) ++ plainL f.frm 1) ++ plainL f.to 1) f.seq 4 (by omega) _ own506 hz506 (by simp only [List.length_append, List.length_nil]; have := plainL_le f.kind 1 (by omega); have := plainL_le f.part 1 (by omega); have := plainL_le f.node 1 (by omega); have := plainL_le f.link 1 (by omega); have := plainL_le f.frm 1 (by omega); have := plainL_le f.to 1 (by omega); omega)).mono ?_
      rintro e w' ⟨v, rfl, h1, h2⟩; exact ⟨_, rfl, h1, h2⟩
    rintro p507 ac92 W92 ⟨own507, hb92⟩ I92
    have hz507 := Nat.le_trans hz506 hb92.size
    have hc507 := hc506.trans hb92
    refine Ev.held_more [13] (fuel := 0) trivial I92 (by kernel_rfl) (by kernel_rfl) (fun _ _ d _ _ h => by cases d <;> exact h) rfl (by kernel_rfl) (by kernel_rfl) (by kernel_rfl) fun ac93 I93 => ?_
    refine Ev.held_done (by kernel_rfl) ?_
    show Code.wp _ _ _ _ _
    have J94 := I93.to [1, 4] (s2 := { tab := [⟨1, [], .p 0 0⟩, ⟨4, [], .v p507⟩], mem := [(25, (cells f (.slice a n c) (.slice a' n' c')))] }) (by kernel_rfl)
    clear I93
    refine Ev.held_begin (fun _ => True) [0, 1, 2, 3, 5, 6] 3 trivial J94 (by kernel_rfl) (by kernel_rfl) (fun _ _ d _ _ h => by cases d <;> exact h) (by kernel_rfl) (by kernel_rfl) (by kernel_rfl) (by kernel_rfl) fun ac95 I95 => ?_
    have hce := hc507.trans (below_draw _ _)
    refine Ev.held_callB (W5.drew).heap.size hlo (i := 4) (n := 2) (l := [.func 22, .tmp 85, .tmp 88, .const (.int .i64 1)]) (A := []) (f := 22) (args := #[p507, .int .i64 (n' : Int), .int .i64 1]) (R := fun v w' => w'.ownsRow (W5.drew).heap.size 5 1 v ((((((((([] : List UInt8) ++ plainL f.kind 1) ++ plainL f.part 1) ++ plainL f.node 1) ++ plainL f.link 1) ++ plainL f.frm 1) ++ plainL f.to 1) ++ plainL f.seq 4) ++ plainL (n' : Int) 1).length (cells8 ((((((((([] : List UInt8) ++ plainL f.kind 1) ++ plainL f.part 1) ++ plainL f.node 1) ++ plainL f.link 1) ++ plainL f.frm 1) ++ plainL f.to 1) ++ plainL f.seq 4) ++ plainL (n' : Int) 1)) ∧ Below (W5.drew).heap.size W92.drew w') I95 (by kernel_rfl) rfl (by kernel_rfl) (by kernel_rfl) (by kernel_rfl) (by kernel_rfl) rfl (by kernel_rfl) (fun u => (by kernel_rfl)) ?_ (fun v w' h => h.2) (fun v w' h => trivial) ?_
    · refine (putR_calls (W5.drew).heap.size p507 (((((((([] : List UInt8) ++ plainL f.kind 1) ++ plainL f.part 1) ++ plainL f.node 1) ++ plainL f.link 1) ++ plainL f.frm 1) ++ plainL f.to 1) ++ plainL f.seq 4) (n' : Int) 1 (by omega) _ (show World.ownsRow W92.drew _ _ _ _ _ _ from own507) hz507 (by simp only [List.length_append, List.length_nil]; have := plainL_le f.kind 1 (by omega); have := plainL_le f.part 1 (by omega); have := plainL_le f.node 1 (by omega); have := plainL_le f.link 1 (by omega); have := plainL_le f.frm 1 (by omega); have := plainL_le f.to 1 (by omega); have := plainL_le f.seq 4 (by omega); omega)).mono ?_
      rintro e w' ⟨v, rfl, h1, h2⟩; exact ⟨_, rfl, h1, h2⟩
    rintro p508 ac96 W96 ⟨own508, hb96⟩ I96
    have hz508 := Nat.le_trans hz507 hb96.size
    have hc508 := hce.trans hb96
    refine Ev.held_append (i := 7) (n := 1) I96 (by kernel_rfl) rfl (by kernel_rfl) rfl (by kernel_rfl) _ _ _ rfl (W5.drew).heap.size 5 i0 _ Tryd.underlying23 hi0 hq0 hq1 hq2 rfl p508 ((((((((([] : List UInt8) ++ plainL f.kind 1) ++ plainL f.part 1) ++ plainL f.node 1) ++ plainL f.link 1) ++ plainL f.frm 1) ++ plainL f.to 1) ++ plainL f.seq 4) ++ plainL (n' : Int) 1) (by kernel_rfl) own508 _ a' n' c' f.body (by kernel_rfl) ((rb.more hB).below (HBB.trans (hc508.mono HBB.size))) (by simp only [List.length_append, List.length_nil]; have := plainL_le f.kind 1 (by omega); have := plainL_le f.part 1 (by omega); have := plainL_le f.node 1 (by omega); have := plainL_le f.link 1 (by omega); have := plainL_le f.frm 1 (by omega); have := plainL_le f.to 1 (by omega); have := plainL_le f.seq 4 (by omega); have := plainL_le (n' : Int) 1 (by omega); omega) hz508 hlo (fun _ _ => trivial) ?_
    rintro pg ac97 W97 owng2 hbg2 I97
    have hcg2 := hc508.trans hbg2
    refine Ev.held_more [8] (fuel := 0) trivial I97 (by kernel_rfl) (by kernel_rfl) (fun _ _ d _ _ h => by cases d <;> exact h) rfl (by kernel_rfl) (by kernel_rfl) (by kernel_rfl) fun ac98 I98 => ?_
    refine Ev.held_done (by kernel_rfl) ?_
    show Code.wp _ _ _ _ _
    have J99 := I98.to [4] (s2 := { tab := [⟨4, [], .v pg⟩], mem := [(25, (cells f (.slice a n c) (.slice a' n' c')))] }) (by kernel_rfl)
    clear I98
    have hen : (((((((((([] : List UInt8) ++ plainL f.kind 1) ++ plainL f.part 1) ++ plainL f.node 1) ++ plainL f.link 1) ++ plainL f.frm 1) ++ plainL f.to 1) ++ plainL f.seq 4) ++ plainL (n' : Int) 1) ++ f.body) = enc f := by
      exact encL_5 hm hlb hk
    rw [hen] at owng2
    obtain ⟨qe, re, hve, hre⟩ := owns_slice owng2
    subst hve
    have hel := enc_le hm
    have HBE := HBB.trans (hcg2.mono HBB.size)
    refine Ev.seq_row ?_
    refine Ev.row_v 1 J99 (by kernel_rfl) (by kernel_rfl) fun ac100 I100 => ?_
    simp only [List.drop_succ_cons, List.drop_zero]
    refine Ev.call_ok (l := [.func 18, .tmp 93]) (A := []) (f := 18) (args := #[.slice qe (enc f).length re]) (R := fun v w' => ∃ q r, v = .slice q (sealB (enc f)).length r ∧ Row8 w' w'.heap.size q (sealB (enc f)).length r (sealB (enc f)) ∧ Below W97.heap.size W97 w') I100 (by kernel_rfl) (by kernel_rfl) (by kernel_rfl) rfl (by kernel_rfl) (fun u => (by kernel_rfl)) ?_ (fun v w' h => by obtain ⟨_, _, _, _, h⟩ := h; exact h) ?_
    · refine (sealR_calls _ _ _ (enc f) _ hre (by omega)).mono ?_
      rintro e w' ⟨v, rfl, hmm⟩; obtain ⟨q, r, rfl, h1, h2⟩ := hmm.slice; exact ⟨_, rfl, q, r, rfl, h1, h2⟩
    rintro v ac101 W101 ⟨qz, rz, rfl, hrz, hb101⟩ I101
    have HB102 := HBE.trans (hb101.mono HBE.size)
    refine Ev.row_v 2 I101 (by kernel_rfl) (by kernel_rfl) fun ac103 I103 => ?_
    show Code.ret.wp _ _ _ _
    refine wp_ret (Ev.ret2 I103 rfl (v := .slice qz (sealB (enc f)).length rz) (v' := .int .i64 0) (by kernel_rfl) (by kernel_rfl) ?_)
    have hb : bytesOf f = sealB (enc f) := by unfold bytesOf; rw [hm, if_pos rfl]
    refine ⟨qz, rz, ?_, ?_, HB102⟩
    · rw [hb, hm]; rfl
    · rw [hb]; exact hrz
end Go.Proofs.YtliejllegabdnaaDoor.Fr
