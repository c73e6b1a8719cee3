/- What frame.fields returns: a valid frame's fields as bytes; false of a frame that is not valid. -/
import Derived.Test.YtfpgdimgffamoaaGreatDoorFrWr
import Derived.Test.YtfpgdimgffamoaaGreatDoorFrRead
import Derived.Test.YtfpgdimgffamoaaGreatDoorFrSame
namespace Go.Proofs.YtfpgdimgffamoaaGreatDoor.Fr
open Go.ChangeShapes Go.WideShapes Go.ChangeAt Go.RowKit Go.Proofs.YtfpgdimgffamoaaGreatDoor.Sm Go.Proofs.YtfpgdimgffamoaaGreatDoor.Wr
set_option maxHeartbeats 4000000
set_option maxRecDepth 100000

/-! ### the mathematics -/
theorem plainB_of {n : Int} {k : Int} (h : (1 ≤ k ∧ k ≤ 7) ∧ 0 ≤ n ∧ n < 256 ^ k.toNat) : plainB n k = true := decide_eq_true h
theorem pw1 : (256 : Int) ^ (1 : Int).toNat = 256 := by decide
theorem pw2 : (256 : Int) ^ (2 : Int).toNat = 65536 := by decide
theorem pw4 : (256 : Int) ^ (4 : Int).toNat = 4294967296 := by decide
theorem pw6 : (256 : Int) ^ (6 : Int).toNat = 281474976710656 := by decide
theorem may_write {f : Frame} (h : mayB f = true) : writeB f = true := by
  obtain ⟨⟨hk, hp, hn⟩, _, ha, hq, r1, r2, r3, r4, r5, r6, r7, r8⟩ := may_iff.1 h
  have b1 : ∀ {n : Int}, 0 ≤ n ∧ n ≤ 255 → plainB n 1 = true := fun h => plainB_of ⟨by omega, by rw [pw1]; omega⟩
  have b2 : ∀ {n : Int}, 0 ≤ n ∧ n ≤ 65535 → plainB n 2 = true := fun h => plainB_of ⟨by omega, by rw [pw2]; omega⟩
  have b4 : ∀ {n : Int}, 0 ≤ n ∧ n ≤ 4294967295 → plainB n 4 = true := fun h => plainB_of ⟨by omega, by rw [pw4]; omega⟩
  have b6 : ∀ {n : Int}, 0 ≤ n ∧ n ≤ 281474976710655 → plainB n 6 = true := fun h => plainB_of ⟨by omega, by rw [pw6]; omega⟩
  have s6 : signedB f.offset 6 = true := by
    unfold signedB
    have : (256 : Int) ^ (6 : Int).toNat = 281474976710656 := by decide
    rw [this]
    exact decide_eq_true ⟨by omega, by omega⟩
  have hag : agesOk f.ages = true → agesW f.ages = true := fun ho => by
    obtain ⟨h1, h2⟩ := agesOk_iff.1 ho
    unfold agesW
    rw [Bool.and_eq_true, List.all_eq_true]
    exact ⟨b1 (by omega), fun a ha => b1 (by have := h2 a ha; omega)⟩
  unfold writeB
  rw [b1 (n := f.kind) (by omega), b1 (n := f.part) (by omega), b1 (n := f.node) (by omega)]
  simp only [Bool.true_and]
  have hk' : f.kind = 1 ∨ f.kind = 2 ∨ f.kind = 3 ∨ f.kind = 4 ∨ f.kind = 5 := by omega
  rcases hk' with e | e | e | e | e
  · rw [if_pos e]; exact b2 (by omega)
  · rw [if_neg (by omega), if_pos e, b6 (by omega), b2 (by omega), hag (ha (.inl e))]; rfl
  · rw [if_neg (by omega), if_neg (by omega), if_pos e, b1 (by omega), b6 (by omega), s6]; rfl
  · rw [if_neg (by omega), if_neg (by omega), if_neg (by omega), if_pos e, b1 (by omega), hag (ha (.inr e))]; rfl
  · have := hq e
    rw [if_neg (by omega), if_neg (by omega), if_neg (by omega), if_neg (by omega), if_pos e, b1 (n := f.link) (by omega), b1 (n := f.frm) (by omega), b1 (n := f.to) (by omega), b4 (by omega), b1 (by omega)]; rfl
theorem agesB_length (l : List Int) : (agesB l).length = l.length := by
  unfold agesB
  induction l with
  | nil => rfl
  | cons a l ih => rw [List.flatMap_cons, List.length_append, ih, be_length, List.length_cons]; omega
theorem plain_le {n : Nat} (h : plainB n 1 = true) : n ≤ 255 := by
  have := of_decide_eq_true (show decide _ = true from h)
  have h2 : (256 : Int) ^ (1 : Int).toNat = 256 := by decide
  rw [h2] at this
  omega
theorem signedL_le (n : Int) : (signedL n 6).length ≤ 6 := by
  unfold signedL
  split
  · split <;> (rw [be_length]; decide)
  · simp
theorem write_len {f : Frame} (h : writeB f = true) : (enc f).length ≤ 1000 := by
  unfold writeB at h
  simp only [Bool.and_eq_true] at h
  have h4 := h.2
  unfold enc tailL
  simp only [List.length_append, be_length]
  split at h4
  · rename_i e; rw [if_pos e, be_length]; omega
  rename_i e1
  rw [if_neg e1]
  split at h4
  · rename_i e
    rw [if_pos e]
    simp only [Bool.and_eq_true, agesW] at h4
    have := plain_le h4.2.1
    simp only [List.length_append, be_length, agesB_length]
    omega
  rename_i e2
  rw [if_neg e2]
  split at h4
  · rename_i e
    rw [if_pos e]
    have := signedL_le f.offset
    simp only [List.length_append, be_length]
    omega
  rename_i e3
  rw [if_neg e3]
  split at h4
  · rename_i e
    rw [if_pos e]
    simp only [Bool.and_eq_true, agesW] at h4
    have := plain_le h4.2.1
    simp only [List.length_append, be_length, agesB_length]
    omega
  rename_i e4
  rw [if_neg e4]
  split at h4
  · simp only [Bool.and_eq_true] at h4
    have := plain_le h4.2
    simp only [List.length_append, be_length]
    omega
  · cases h4
/-- read back, and the same: valid. -/
theorem may_read {f g : Frame} (h : readX (enc f) = .ok g) : decide (f = g) = mayB f := by
  by_cases hm : mayB f = true
  · have := (read_enc hm).symm.trans h
    injection this with this
    rw [hm, decide_eq_true this]
  · have hb := (read_back h).1
    have : ¬ f = g := fun e => hm (e ▸ hb)
    rw [decide_eq_false this]
    simpa using hm
section
variable {P : Program} {ops : Array Oper} {rest : List Oper} {o : Oper} {a : Act} {w : World} {Q : Exit → Act → World → Prop}
theorem wpList_load_g (hw : Region.wanted o (yielded ops a.tmps) = true) (t : TypeId) (x : Operand) (ho : o.op = .load t x) (p : Nat) (cs : List Value) (hp : Ob w p t cs) (hx : a.eval x = .pointer (some ⟨p, 0, none⟩)) {d : TypeDesc}
    (hu : P.underlying t = some d) (hd : d.isRow = true) (hi : (P.info? t).map (·.size) = some cs.length)
    (h : wpList P ops Q rest (a.put o.dst (.agg cs.toArray)) w) : wpList P ops Q (o :: rest) a w :=
  BigFrame.wpList_want hw fun _ hK => wp_load_mid t x ho p 0 hx cs d hp.range hu hd hi (hK _ _ h)
end
def RetFields (w : World) (f : Frame) (e : Ending) (w' : World) : Prop :=
  ∃ v, e = .returned (.tuple #[v, .bool (mayB f)]) ∧ Below w.heap.size w w' ∧ (mayB f = true → ∃ a c, v = .slice a (enc f).length c ∧ Row8 w' w'.heap.size a (enc f).length c (enc f)) ∧ (mayB f = false → v = .slice none 0 0)
theorem fields_calls (f : Frame) (v : Value) (B : Nat) (S : Sn) (w : World) (hf : FrV w B v f) (hB : B ≤ w.heap.size) (hS : Sents w w.heap.size S) :
    Calls Tryz.prog 21 #[v] w fun e w' => RetFields w f e w' := by
  have HF := hid (hf.more hB)
  have HS := hid hS
  obtain ⟨a, n, c, a', n', c', ev, _⟩ := id hf
  have HV := hid ev
  have HM := hid (fun h : mayB f = true => may_write h)
  clear hf hS ev hB
  obtain ⟨m, hm⟩ : ∃ m, mayB f = m := ⟨_, rfl⟩
  have HMM := hid hm
  clear hm
  go_enter Tryz.func21, Tryz.ntmps21
  iterate 3 go_step
  refine wpList_box_any rfl _ _ rfl _ HV.out ?_
  intro p W n0
  have HO := hid n0.ob
  have hpw : p < W.heap.size := n0.ob.lt
  have HBW := hid n0.below
  have HF1 := hid (HF.out.later n0.below)
  have HS1 := hid (HS.out.later n0.below)
  have hwp : w.heap.size ≤ p := Nat.le_of_eq n0.is_.symm
  clear n0 HF HS
  iterate 11 go_step
  refine wpList_load_ob rfl _ _ rfl p _ HO.out rfl Tryz.underlying26 rfl frame_info ?_
  rw [← HV.out]
  go_wp2_with (go_at_call 33; refine stop ?_)
  unfold Stop
  refine (write_calls f v _ W HF1.out (Nat.le_refl _)).mono ?_
  rintro e w1 ⟨v1, rfl, hb1, hw1⟩
  have HO1 := hid (HO.out.below hb1 hpw)
  have HF2 := hid (HF1.out.later hb1)
  have HS2 := hid (HS1.out.later hb1)
  have HB1 := hid (HBW.out.trans (hb1.mono HBW.out.size))
  have HW1 := hid hw1
  have hpw1 : p < w1.heap.size := HO1.out.lt
  clear hb1 hw1 HO HF1 HS1 HBW
  cases hwb : writeB f with
  | false =>
    have hmf : mayB f = false := by
      cases hh : mayB f with
      | false => rfl
      | true => rw [HM.out hh] at hwb; cases hwb
    have HMF := hid hmf
    clear hwb hmf
    go_wp2
    go_ret2
    exact ⟨_, by rw [HMF.out]; rfl, HB1.out, (fun hh => by rw [HMF.out] at hh; cases hh), fun _ => rfl⟩
  | true =>
    have HWB := hid hwb
    clear hwb
    obtain ⟨a1, c1, rfl, hr1⟩ := HW1.out HWB.out
    have hlen := write_len HWB.out
    have hlen3 := enc_length f
    obtain ⟨N, hN⟩ : ∃ N, (enc f).length = N := ⟨_, rfl⟩
    rw [hN] at hr1 hlen hlen3 ⊢
    have HNN := hid hN
    have HR1 := hid hr1
    clear hr1 hN HW1
    go_wp2_with (go_at_call 24; refine stop ?_)
    unfold Stop
    refine (read_calls a1 N c1 S (enc f) w1 HR1.out HS2.out (by omega) (by omega)).mono ?_
    rintro e w2 ⟨hb2, hres⟩
    have HO2 := hid (HO1.out.below hb2 hpw1)
    have HF3 := hid (HF2.out.later hb2)
    have HR2 := hid (HR1.out.later hb2)
    have HB2 := hid (HB1.out.trans (hb2.mono HB1.out.size))
    have hpw2 : p < w2.heap.size := HO2.out.lt
    clear hb2 HO1 HF2 HS2 HR1 HB1
    cases hrx : readX (enc f) with
    | error z =>
      rw [hrx] at hres
      obtain ⟨ev2, rfl, hfl⟩ := hres
      obtain ⟨fb, rfl, _⟩ := hfl.now
      clear hfl
      have hmf : mayB f = false := by
        cases hh : mayB f with
        | false => rfl
        | true => rw [read_enc hh] at hrx; cases hrx
      have HMF := hid hmf
      clear hrx hmf
      dsimp only
      iterate 10 go_step
      refine wpList_alloc_any rfl _ rfl zeros frame_zero ?_
      intro p2 V n1
      refine wpList_store_ob rfl _ _ _ rfl p2 zeros zeros n1.ob rfl rfl rfl frame_info zeros_one ?_
      intro V1 hbV hsV obV
      have HBV := hid ((HB2.out.trans (n1.below.mono HB2.out.size)).trans (hbV.below (by have := n1.is_; have := HB2.out.size; omega) (by have := n1.size; have := n1.is_; have := HB2.out.size; omega)))
      clear n1 hbV hsV obV
      go_wp2
      go_ret2
      exact ⟨_, by rw [HMF.out]; rfl, HBV.out, (fun hh => by rw [HMF.out] at hh; cases hh), fun _ => rfl⟩
    | ok g =>
      rw [hrx] at hres
      obtain ⟨v2, rfl, hg0⟩ := hres
      have hg := hg0.now
      clear hg0
      obtain ⟨b, m1, d, b', m1', d', ev2, _⟩ := id hg
      have HV2 := hid ev2
      have HG := hid hg
      have HMR := hid (may_read hrx)
      clear hrx hg ev2
      dsimp only
      iterate 10 go_step
      refine wpList_alloc_any rfl _ rfl zeros frame_zero ?_
      intro p2 V n1
      refine wpList_store_ob rfl _ _ _ rfl p2 zeros _ n1.ob rfl HV2.out rfl frame_info (by intro u hu; simp [cells] at hu; rcases hu with rfl | rfl | rfl | rfl | rfl | rfl | rfl | rfl | rfl | rfl | rfl | rfl | rfl | rfl <;> rfl) ?_
      intro V1 hbV hsV obV
      have hbb : Below w2.heap.size w2 V1 := n1.below.trans (hbV.below (Nat.le_of_eq n1.is_.symm) (by have := n1.size; have := n1.is_; omega))
      have HBV := hid (HB2.out.trans (hbb.mono HB2.out.size))
      have HOV := hid (HO2.out.below hbb hpw2)
      have HO2V := hid obV
      have HFV := hid (HF3.out.later hbb)
      have HGV := hid (HG.out.later hbb)
      have HRV := hid (HR2.out.later hbb)
      clear n1 hbV hsV obV hbb HB2 HO2 HF3 HG HR2
      iterate 18 go_step
      refine wpList_load_g rfl _ _ rfl p _ HOV.out rfl Tryz.underlying26 rfl frame_info ?_
      refine wpList_load_g rfl _ _ rfl p2 _ HO2V.out rfl Tryz.underlying26 rfl frame_info ?_
      rw [← HV.out, ← HV2.out]
      go_wp2_with (go_at_call 34; refine stop ?_)
      unfold Stop
      refine (same_calls v v2 f g _ _ V1 HFV.out HGV.out (Nat.le_refl _) (Nat.le_refl _)).mono ?_
      rw [HMR.out]
      rintro e w4 ⟨rfl, hb4⟩
      have HB4 := hid (HBV.out.trans (hb4.mono HBV.out.size))
      have HR4 := hid (HRV.out.later hb4)
      clear hb4
      cases hmf : mayB f with
      | false =>
        have HMF := hid hmf
        clear hmf
        go_wp2
        go_ret2
        exact ⟨_, by rw [HMF.out]; rfl, HB4.out, (fun hh => by rw [HMF.out] at hh; cases hh), fun _ => rfl⟩
      | true =>
        have HMF := hid hmf
        clear hmf
        go_wp2
        go_ret2
        exact ⟨_, by rw [HMF.out]; rfl, HB4.out, (fun _ => ⟨a1, c1, by rw [HNN.out]; rfl, by rw [HNN.out]; exact HR4.out⟩), fun hh => by rw [HMF.out] at hh; cases hh⟩
end Go.Proofs.YtfpgdimgffamoaaGreatDoor.Fr
