/- For every slice of bytes b and every slice of deeds l the law WireReads returns true: whatever is asked of a reader of b, each answer, how many bytes were read and whether it failed are as the document's own reader has them. No condition beyond the statement's own. -/
import Derived.Test.YtceahjjffnfalaaRows
import Derived.WalkKit
import Derived.ProofKit
import Derived.OpenShut
import Derived.Test.YtceahjjffnfalaaWrAlive
import Derived.Test.YtceahjjffnfalaaSmQuiet
import Derived.Test.YtceahjjffnfalaaSmArgs
import Derived.Test.YtceahjjffnfalaaSmBy
import Derived.Test.YtceahjjffnfalaaWrDeeds
import Derived.ShutString
import Derived.ChangeOld
import Derived.Below
namespace Go.Proofs.Ytceahjjffnfalaa.wireReads
open Go.ChangeShapes Go.WideShapes Go.ChangeAt Go.RowKit
open Go.ChangeMaps (open_string shut_string)
set_option linter.unusedVariables false

theorem own : ownKnob Try.prog.godebug = none := by kernel_rfl
theorem laidOut : laidOutB Try.prog = true := by kernel_rfl

set_option maxHeartbeats 4000000 in
set_option maxRecDepth 100000 in
theorem walk (a0 : Option Addr) (len0 cap0 : Nat) (x0 : List UInt8) (a1 : Option Addr) (len1 cap1 : Nat) (x1 : List (Int × Int)) (w : World) (w0 : Sm.Row8 w w.heap.size a0 len0 cap0 x0) (w1 : Wr.Pairs w w.heap.size a1 len1 cap1 x1) :
    Calls Try.prog 6 #[.slice a0 len0 cap0, .slice a1 len1 cap1] w fun e w' => e = .returned (.bool true) ∧ Below w.heap.size w w' := by
  have HR := Sm.hid w0
  have HP := Sm.hid w1
  have hp1 : len1 ≤ 9223372036854775807 := by have h1 := w1.room; have h2 := w1.cap; unfold maxLen at h2; omega
  have hp0 : len0 ≤ 9223372036854775807 := by have h1 := w0.room; have h2 := w0.cap; unfold maxLen at h2; omega
  clear w0 w1
  by_cases hlen : 500 < len0
  · go_enter Try.func6, Try.ntmps6
    go_wp2_with (go_at_call 9; refine Sm.stop ?_)
    unfold Sm.Stop
    refine (Wr.alive_calls _).mono ?_
    rintro e w1 ⟨rfl, hb1⟩
    go_wp2_with (go_at_call 9; refine Sm.stop ?_)
    unfold Sm.Stop
    refine (Wr.alive_calls _).mono ?_
    rintro e w2 ⟨rfl, hb2⟩
    go_wp2
    go_ret
    exact ⟨rfl, hb1.trans (hb2.mono hb1.size)⟩
  by_cases hlen1 : 100 < len1
  · go_enter Try.func6, Try.ntmps6
    go_wp2_with (go_at_call 9; refine Sm.stop ?_)
    unfold Sm.Stop
    refine (Wr.alive_calls _).mono ?_
    rintro e w1 ⟨rfl, hb1⟩
    go_wp2_with (go_at_call 9; refine Sm.stop ?_)
    unfold Sm.Stop
    refine (Wr.alive_calls _).mono ?_
    rintro e w2 ⟨rfl, hb2⟩
    go_wp2
    go_ret
    exact ⟨rfl, hb1.trans (hb2.mono hb1.size)⟩
  go_enter Try.func6, Try.ntmps6
  go_wp2_with (go_at_call 9; refine Sm.stop ?_)
  unfold Sm.Stop
  refine (Wr.alive_calls _).mono ?_
  rintro e w1 ⟨rfl, hb1⟩
  have HR1 := Sm.hid (HR.out.later hb1)
  have HP1 := Sm.hid (HP.out.later hb1)
  have HL := Sm.hid HR.out.len
  clear HR HP
  go_wp2_with (go_at_call 18; refine Sm.stop ?_)
  unfold Sm.Stop
  refine (Wr.new_calls _ _ _ x0 _ HR1.out (by omega)).mono ?_
  rintro e w2 ⟨g, rfl, hg, hrd, hb2⟩
  have hglt := hrd.lt
  have HD := Sm.hid hrd
  have HB2 := Sm.hid hb2
  clear hrd hb2
  go_wp2
  go_loopw [7] (fun i wr => ∃ k : Nat, ∃ at_ : Nat, ∃ bad : Bool, k ≤ len1 ∧ at_ ≤ 500 ∧ i = .int .i64 k ∧ Hid (Wr.Rd wr g x0 at_ bad) ∧ Hid (Wr.RdR w1.heap.size wr w2.heap.size x0 at_ bad) ∧ Hid (Below w1.heap.size w1 wr)) (fun i _ => len1 - (intOf i).toNat)
  case atStart =>
    have hal : Below w2.heap.size w2 (w2.alloc (.cells #[.slice a0 len0 cap0, .int .i64 0, .bool false] 34)) := (Below.refl _ _).alloc (Nat.le_refl _) _
    refine ⟨0, 0, false, by omega, by omega, rfl, HD.out.below hal hglt, ?_, HB2.out.trans (hal.mono HB2.out.size)⟩
    exact ⟨a0, len0, cap0, heap_alloc_new _ _, (HR1.out.below HB2.out).below (hal.mono HB2.out.size), by omega, by rw [HL.out]; omega, HB2.out.size⟩
  case round =>
    clear HD HB2
    obtain ⟨k, at_, bad, hk, hat, rfl, HD, HE, HB⟩ := hrel
    by_cases hlt : k < len1
    · obtain ⟨b, off, hae, hblt, hcells⟩ := (HP1.out.below HB.out).cells (by omega)
      obtain ⟨p, hp⟩ : ∃ p, x1[k]? = some p := ⟨_, List.getElem?_eq_getElem (by rw [HP1.out.len]; exact hlt)⟩
      obtain ⟨hc1, hc2⟩ := hcells k p hp
      obtain ⟨d, n⟩ := p
      clear hp hcells
      subst hae
      by_cases hd1 : d ≤ 1
      · go_wp2_with (go_at_call 19; refine Sm.stop ?_)
        unfold Sm.Stop
        refine (Wr.take_calls g x0 at_ bad n _ HD.out).mono ?_
        intro e w3 h3
        obtain ⟨a3, n3, c3, rfl, _, ho3, hrd3, hbs3⟩ := h3.slice
        clear h3
        have hat2 := Wr.atN_le (bad := bad) (k := n) (show at_ ≤ x0.length by obtain ⟨_, _, _, _, _, h, _⟩ := HD.out; exact h)
        have hat2 : Wr.atN x0 at_ bad n ≤ 500 := by have := HL.out; omega
        have HE3 := Sm.hid (HE.out.beside hbs3 hg (by omega))
        have hB3 := hbs3.below hg HB.out.size
        have HC2 := Sm.hid ((hB3.cell (p := ⟨b, off + k * 2 + 1, none⟩) hblt).trans hc2)
        have HB3 := Sm.hid (HB.out.trans hB3)
        have HD3 := Sm.hid hrd3
        have HO3 := Sm.hid ho3
        have hgr : w2.heap.size < wr.heap.size := HE.out.lt
        clear hbs3 hrd3 ho3 hB3 hc1 hc2 HB HD HE
        go_wp2
        have hcl : ∀ u, Sm.Beside w2.heap.size w3.drew u → u.cell? ⟨b, off + k * 2 + 1, none⟩ = some (.int .i64 n) := fun u hu => ((hu.below (B := w1.heap.size) (by omega) HB3.out.size).cell (p := ⟨b, off + k * 2 + 1, none⟩) hblt).trans HC2.out
        have hvx : ∀ u, Sm.Beside w2.heap.size w3.drew u → (convert 22 9 (.slice a3 n3 c3)).run Try.prog u = .ok (.string (Sm.str (Wr.gotL x0 at_ bad n))) u := fun u hu => Sm.conv_str (Sm.Row8.own (Sm.owns_beside (w := w3.drew) HO3.out.drew hu hgr)) Try.underlying22 Try.underlying5 Try.underlying9
        have hg3 : w2.heap.size < w3.heap.size := HE3.out.lt
        have HE3d := Sm.hid (HE3.out.below ((Below.refl w3.heap.size w3).drew) HE3.out.lt)
        have HD3d := Sm.hid (HD3.out.below ((Below.refl w3.heap.size w3).drew) HD3.out.lt)
        have HB3d := Sm.hid HB3.out.drew
        clear HD3 HE3 HB3 HC2 HO3
        refine Sm.By.later_begin (g := w2.heap.size) (by kernel_rfl) ?_
        refine Sm.By.later_take (i := 0) (oi := ?_) (v := ?_) ?_ (by kernel_rfl) (by kernel_rfl) (by kernel_rfl) ?_ ?_ ?_ ?_
        rotate_left 2
        · simp only [List.getElem?_toArray, List.getElem?_cons_zero]; rfl
        · exact fun _ _ _ h => h
        · rfl
        · (intro u hu; go_simp <;> with_reducible rfl)
        simp only [Act.put, List.setIfInBounds_toArray, List.set_cons_zero, List.set_cons_succ]
        refine Sm.By.later_take (i := 1) (oi := ?_) (v := ?_) ?_ (by kernel_rfl) (by kernel_rfl) (by kernel_rfl) ?_ ?_ ?_ ?_
        rotate_left 2
        · simp only [List.getElem?_toArray, List.getElem?_cons_succ, List.getElem?_cons_zero]; rfl
        · exact fun _ _ _ h => h
        · rfl
        · (intro u hu; go_simp <;> with_reducible rfl)
        simp only [Act.put, List.setIfInBounds_toArray, List.set_cons_zero, List.set_cons_succ]
        refine Sm.By.later_take (i := 2) (oi := ?_) (v := ?_) ?_ (by kernel_rfl) (by kernel_rfl) (by kernel_rfl) ?_ ?_ ?_ ?_
        rotate_left 2
        · simp only [List.getElem?_toArray, List.getElem?_cons_succ, List.getElem?_cons_zero]; rfl
        · exact fun _ _ _ h => h
        · rfl
        · (intro u hu; go_simp <;> with_reducible rfl)
        simp only [Act.put, List.setIfInBounds_toArray, List.set_cons_zero, List.set_cons_succ]
        refine Sm.By.later_take (i := 3) (oi := ?_) (v := ?_) ?_ (by kernel_rfl) (by kernel_rfl) (by kernel_rfl) ?_ ?_ ?_ ?_
        rotate_left 2
        · simp only [List.getElem?_toArray, List.getElem?_cons_succ, List.getElem?_cons_zero]; rfl
        · exact fun _ _ _ h => h
        · rfl
        · (intro u hu; go_simp <;> with_reducible rfl)
        simp only [Act.put, List.setIfInBounds_toArray, List.set_cons_zero, List.set_cons_succ]
        refine Sm.By.later_take (i := 4) (oi := ?_) (v := ?_) ?_ (by kernel_rfl) (by kernel_rfl) (by kernel_rfl) ?_ ?_ ?_ ?_
        rotate_left 2
        · simp only [List.getElem?_toArray, List.getElem?_cons_succ, List.getElem?_cons_zero]; rfl
        · exact fun _ _ _ h => h
        · rfl
        · (intro u hu; go_simp <;> with_reducible rfl)
        simp only [Act.put, List.setIfInBounds_toArray, List.set_cons_zero, List.set_cons_succ]
        refine Sm.By.later_take (i := 5) (oi := ?_) (v := ?_) ?_ (by kernel_rfl) (by kernel_rfl) (by kernel_rfl) ?_ ?_ ?_ ?_
        rotate_left 2
        · simp only [List.getElem?_toArray, List.getElem?_cons_succ, List.getElem?_cons_zero]; rfl
        · exact fun _ _ _ h => h
        · rfl
        · (intro u hu; go_simp <;> with_reducible rfl)
        simp only [Act.put, List.setIfInBounds_toArray, List.set_cons_zero, List.set_cons_succ]
        refine Sm.By.later_take (i := 6) (oi := ?_) (v := ?_) ?_ (by kernel_rfl) (by kernel_rfl) (by kernel_rfl) ?_ ?_ ?_ ?_
        rotate_left 2
        · simp only [List.getElem?_toArray, List.getElem?_cons_succ, List.getElem?_cons_zero]; rfl
        · exact fun _ _ _ h => h
        · rfl
        · (intro u hu; go_simp <;> with_reducible rfl)
        simp only [Act.put, List.setIfInBounds_toArray, List.set_cons_zero, List.set_cons_succ]
        refine Sm.By.later_take (i := 7) (oi := ?_) (v := ?_) ?_ (by kernel_rfl) (by kernel_rfl) (by kernel_rfl) ?_ ?_ ?_ ?_
        rotate_left 2
        · simp only [List.getElem?_toArray, List.getElem?_cons_succ, List.getElem?_cons_zero]; rfl
        · exact fun _ _ _ h => h
        · rfl
        · (intro u hu; go_simp <;> with_reducible rfl)
        simp only [Act.put, List.setIfInBounds_toArray, List.set_cons_zero, List.set_cons_succ]
        refine Sm.By.later_call (i := 8) (o := ?_) ?_ (by kernel_rfl) (fun K hK => ?_)
        rotate_left 1
        · simp only [List.getElem?_toArray, List.getElem?_cons_succ, List.getElem?_cons_zero]; rfl
        go_simp
        refine (Wr.takeR_calls w1.heap.size w2.heap.size x0 at_ bad n _ HE3d.out).mono ?_; intro e w4 h4; obtain ⟨a4, n4, c4, rfl, _, ho4, hrd4, hbs4⟩ := h4.slice; clear h4; have hvy : ∀ u, Sm.Beside w2.heap.size w4 u → (convert 22 9 (.slice a4 n4 c4)).run Try.prog u = .ok (.string (Sm.str (Wr.gotL x0 at_ bad n))) u := fun u hu => Sm.conv_str (Sm.Row8.own (Sm.owns_beside ho4 hu (by have : w3.drew.heap.size = w3.heap.size := rfl; omega))) Try.underlying22 Try.underlying5 Try.underlying9; have HD4 := Sm.hid (HD3d.out.beside hbs4 hglt); have HE4 := Sm.hid hrd4; have HB4 := Sm.hid (HB3d.out.trans (hbs4.below (by omega) HB3d.out.size)); clear ho4 hrd4
        refine hK.out _ _ hbs4 ?_
        clear hK K
        try simp only [Act.put, List.setIfInBounds_toArray, List.set_cons_zero, List.set_cons_succ]
        refine Sm.By.later_take (i := 9) (oi := ?_) (v := ?_) ?_ (by kernel_rfl) (by kernel_rfl) (by kernel_rfl) ?_ ?_ ?_ ?_
        rotate_left 2
        · simp only [List.getElem?_toArray, List.getElem?_cons_succ, List.getElem?_cons_zero]; rfl
        · exact fun _ _ _ h => h
        · rfl
        · (intro u hu; go_simp <;> with_reducible rfl)
        simp only [Act.put, List.setIfInBounds_toArray, List.set_cons_zero, List.set_cons_succ]
        refine Sm.By.later_take (i := 10) (oi := ?_) (v := ?_) ?_ (by kernel_rfl) (by kernel_rfl) (by kernel_rfl) ?_ ?_ ?_ ?_
        rotate_left 2
        · simp only [List.getElem?_toArray, List.getElem?_cons_succ, List.getElem?_cons_zero]; rfl
        · exact fun _ _ _ h => h
        · rfl
        · (intro u hu; go_simp <;> with_reducible rfl)
        simp only [Act.put, List.setIfInBounds_toArray, List.set_cons_zero, List.set_cons_succ]
        refine Sm.By.later_take (i := 11) (oi := ?_) (v := ?_) ?_ (by kernel_rfl) (by kernel_rfl) (by kernel_rfl) ?_ ?_ ?_ ?_
        rotate_left 2
        · simp only [List.getElem?_toArray, List.getElem?_cons_succ, List.getElem?_cons_zero]; rfl
        · exact fun _ _ _ h => h
        · rfl
        · (intro u hu; go_simp <;> with_reducible rfl)
        simp only [Act.put, List.setIfInBounds_toArray, List.set_cons_zero, List.set_cons_succ]
        refine Sm.By.later_done (by kernel_rfl) ?_ _
        clear hvy hvx hcl hbs4 HD3d HE3d HB3d
        generalize Wr.atN x0 at_ bad n = at2 at *
        generalize Wr.badN x0 at_ bad n = bad2 at *
        generalize Wr.gotL x0 at_ bad n = G at *
        clear HP1
        go_wp2
        have HDd := Sm.hid HD4.out
        obtain ⟨m1, m2⟩ := HE4.out.cells
        go_quiet ((first | (go_at_call 25; exact Sm.quietly (Wr.at_calls g x0 _ _ _ (HDd.out.below (Sm.below_drewN (Below.refl w4.heap.size w4) _) HDd.out.lt))) | (go_at_call 26; exact Sm.quietly (Wr.bad_calls g x0 _ _ _ (HDd.out.below (Sm.below_drewN (Below.refl w4.heap.size w4) _) HDd.out.lt)))))
        clear m1 m2 HDd
        go_wp2
        go_roundw
        case rel => exact ⟨k + 1, at2, bad2, by omega, hat2, by go_num, HD4.out.below (Sm.below_drewN (Below.refl w4.heap.size w4) _) HD4.out.lt, HE4.out.below (Sm.below_drewN (Below.refl w4.heap.size w4) _) HE4.out.lt, Sm.below_drewN HB4.out _⟩
        case measure => simp [intOf]; omega
      by_cases hd4 : d ≤ 4
      · go_wp2_with (go_at_call 21; refine Sm.stop ?_)
        unfold Sm.Stop
        refine (Wr.rnumber_calls g x0 at_ bad n _ HD.out).mono ?_
        rintro e w3 ⟨rfl, hrd3, hbs3⟩
        have hat2 := Wr.atN_le (bad := bad) (k := (Wr.wid n)) (show at_ ≤ x0.length by obtain ⟨_, _, _, _, _, h, _⟩ := HD.out; exact h)
        have hat2 : Wr.atN x0 at_ bad (Wr.wid n) ≤ 500 := by have := HL.out; omega
        have HE3 := Sm.hid (HE.out.beside hbs3 hg (by omega))
        have hB3 := hbs3.below hg HB.out.size
        have hc2' := (hB3.cell (p := ⟨b, off + k * 2 + 1, none⟩) hblt).trans hc2
        have HB3 := Sm.hid (HB.out.trans hB3)
        have HD3 := Sm.hid hrd3
        clear hbs3 hrd3 hB3 hc1 hc2 HB HD HE
        go_wp2_with (go_at_call 22; refine Sm.stop ?_)
        unfold Sm.Stop
        refine (Wr.rnumberR_calls w1.heap.size w2.heap.size x0 at_ bad n _ HE3.out).mono ?_
        rintro e w4 ⟨rfl, hrd4, hbs4⟩
        have HD4 := Sm.hid (HD3.out.beside hbs4 hglt)
        have HE4 := Sm.hid hrd4
        have HB4 := Sm.hid (HB3.out.trans (hbs4.below (by omega) HB3.out.size))
        clear hbs4 hrd4 HD3 HE3 HB3
        generalize Wr.atN x0 at_ bad (Wr.wid n) = at2 at *
        generalize Wr.badN x0 at_ bad (Wr.wid n) = bad2 at *
        generalize Wr.numI (Wr.gotL x0 at_ bad (Wr.wid n)) = y at *
        clear hc2' HP1
        go_wp2
        have HDd := Sm.hid HD4.out
        obtain ⟨m1, m2⟩ := HE4.out.cells
        go_quiet ((first | (go_at_call 25; exact Sm.quietly (Wr.at_calls g x0 _ _ _ (HDd.out.below (Sm.below_drewN (Below.refl w4.heap.size w4) _) HDd.out.lt))) | (go_at_call 26; exact Sm.quietly (Wr.bad_calls g x0 _ _ _ (HDd.out.below (Sm.below_drewN (Below.refl w4.heap.size w4) _) HDd.out.lt)))))
        clear m1 m2 HDd
        go_wp2
        go_roundw
        case rel => exact ⟨k + 1, at2, bad2, by omega, hat2, by go_num, HD4.out.below (Sm.below_drewN (Below.refl w4.heap.size w4) _) HD4.out.lt, HE4.out.below (Sm.below_drewN (Below.refl w4.heap.size w4) _) HE4.out.lt, Sm.below_drewN HB4.out _⟩
        case measure => simp [intOf]; omega
      · go_wp2_with (go_at_call 23; refine Sm.stop ?_)
        unfold Sm.Stop
        refine (Wr.roffset_calls g x0 at_ bad n _ HD.out).mono ?_
        rintro e w3 ⟨rfl, hrd3, hbs3⟩
        have hat2 := Wr.atN_le (bad := bad) (k := (Wr.wid n)) (show at_ ≤ x0.length by obtain ⟨_, _, _, _, _, h, _⟩ := HD.out; exact h)
        have hat2 : Wr.atN x0 at_ bad (Wr.wid n) ≤ 500 := by have := HL.out; omega
        have HE3 := Sm.hid (HE.out.beside hbs3 hg (by omega))
        have hB3 := hbs3.below hg HB.out.size
        have hc2' := (hB3.cell (p := ⟨b, off + k * 2 + 1, none⟩) hblt).trans hc2
        have HB3 := Sm.hid (HB.out.trans hB3)
        have HD3 := Sm.hid hrd3
        clear hbs3 hrd3 hB3 hc1 hc2 HB HD HE
        go_wp2_with (go_at_call 24; refine Sm.stop ?_)
        unfold Sm.Stop
        refine (Wr.roffsetR_calls w1.heap.size w2.heap.size x0 at_ bad n _ HE3.out).mono ?_
        rintro e w4 ⟨rfl, hrd4, hbs4⟩
        have HD4 := Sm.hid (HD3.out.beside hbs4 hglt)
        have HE4 := Sm.hid hrd4
        have HB4 := Sm.hid (HB3.out.trans (hbs4.below (by omega) HB3.out.size))
        clear hbs4 hrd4 HD3 HE3 HB3
        generalize Wr.atN x0 at_ bad (Wr.wid n) = at2 at *
        generalize Wr.badN x0 at_ bad (Wr.wid n) = bad2 at *
        generalize Wr.offI (Wr.gotL x0 at_ bad (Wr.wid n)) = y at *
        clear hc2' HP1
        go_wp2
        have HDd := Sm.hid HD4.out
        obtain ⟨m1, m2⟩ := HE4.out.cells
        go_quiet ((first | (go_at_call 25; exact Sm.quietly (Wr.at_calls g x0 _ _ _ (HDd.out.below (Sm.below_drewN (Below.refl w4.heap.size w4) _) HDd.out.lt))) | (go_at_call 26; exact Sm.quietly (Wr.bad_calls g x0 _ _ _ (HDd.out.below (Sm.below_drewN (Below.refl w4.heap.size w4) _) HDd.out.lt)))))
        clear m1 m2 HDd
        go_wp2
        go_roundw
        case rel => exact ⟨k + 1, at2, bad2, by omega, hat2, by go_num, HD4.out.below (Sm.below_drewN (Below.refl w4.heap.size w4) _) HD4.out.lt, HE4.out.below (Sm.below_drewN (Below.refl w4.heap.size w4) _) HE4.out.lt, Sm.below_drewN HB4.out _⟩
        case measure => simp [intOf]; omega
    · go_wp2
      go_ret
      exact ⟨rfl, hb1.trans (HB.out.mono hb1.size)⟩

/-! ### THE ROW's STEP -/
set_option maxRecDepth 100000 in
theorem lifted (os : Os) (started : os.Started) (H : Type) (enc : TypeId × Value → H) :
    ReturnsInHanded {} Try.checked os 6 .any (Rows.wireReadsSpec.pre6 enc Try.prog Try.f6 Rows.wireReadsRow.domain false) (Rows.wireReadsSpec.post enc Try.prog Try.f6 false true false false) := by
  refine returnsInHanded_of_change (C := Try.checked) own started (by kernel_rfl) Try.func6
    (ChangeSpec.witness6 (enc := enc) (C := Try.checked) false ⟨#[], #[.slice none 0 0, .slice none 0 0], []⟩ 8 (by kernel_rfl) (by kernel_rfl) (by kernel_rfl) (by kernel_rfl)) ?_
  intro W base args ds gs before hval0 hW hcnd _
  have hval : ∀ (j : Nat) t v, Try.f6.params[j]? = some t → args[j]? = some v → Value.okWide Try.prog W .any base t v := hval0
  have hW' := hW
  obtain ⟨p, q, hA0, hV, rfl, hfz, hnd⟩ := hW
  have hA : DataW.TrodAll enc Try.prog W 0 (fun _ => true) true Try.f6.params.toList args.toList ds p := hA0
  rw [Try.params6] at hA hval
  obtain ⟨v0, vs0, d0, ds0, p0, q0, hargs, rfl, rfl, h0, r0⟩ := trodAll_cons hA
  obtain ⟨v1, vs1, d1, ds1, p1, q1, rfl, rfl, rfl, h1, r1⟩ := trodAll_cons r0
  obtain ⟨rfl, rfl, rfl⟩ := trodAll_nil r1
  obtain rfl : args = #[v0, v1] := by cases args; simp_all
  obtain ⟨rfl, rfl⟩ := trodVars_none hV
  obtain ⟨a0, len0, cap0, rfl⟩ := okWide_slice Try.underlying22 (hval 0 22 v0 rfl rfl)
  have k0 := h0
  have lt0 : ∀ x ∈ p0, x.block < W.heap.size := by obtain ⟨m, hm⟩ := k0; exact DataW.trod_lt m _ _ _ hm
  obtain ⟨x0, w0⟩ := Sm.Row8.of_trod Try.underlying22 Try.underlying5 (by kernel_rfl) h0
  obtain ⟨a1, len1, cap1, rfl⟩ := okWide_slice Try.underlying29 (hval 1 29 v1 rfl rfl)
  have k1 := h1
  have lt1 : ∀ x ∈ p1, x.block < W.heap.size := by obtain ⟨m, hm⟩ := k1; exact DataW.trod_lt m _ _ _ hm
  obtain ⟨x1, w1⟩ := Wr.Pairs.of_trod Try.underlying29 Try.underlying36 (by kernel_rfl) rfl rfl (by kernel_rfl) (by kernel_rfl) Try.underlying3 Try.underlying3 h1
  clear hA0 hval0
  refine (walk a0 len0 cap0 x0 a1 len1 cap1 x1 W w0 w1).mono fun e W' ⟨he, bel⟩ => ?_
  subst he
  exact ⟨_, rfl, _, _, _, [], _, [], hW', trodAll_mk1 (shut_bool Try.underlying4 _), (trodAll_cons_mk (Below.trod laidOut (by kernel_rfl) (of_decide_eq_true (by kernel_rfl)) k0 bel lt0) (trodAll_cons_mk (Below.trod laidOut (by kernel_rfl) (of_decide_eq_true (by kernel_rfl)) k1 bel lt1) trodAll_mk0)), rfl, bel.frame _, fun h => by cases h⟩

theorem over : Rows.wireReadsRow.holds Try.pinned (OpenSpec.ofChange Rows.wireReadsSpec) :=
  OpenClaim.holds_of_wide 6 Try.f6 rfl rfl rfl rfl rfl rfl rfl ⟨rfl, rfl, rfl, rfl, rfl⟩ rfl rfl rfl rfl rfl (by kernel_rfl) Try.func6 (by kernel_rfl)
    (of_decide_eq_true (by kernel_rfl)) (by unfold Func.isWrapper; first | (rw [if_pos (by decide +kernel)]; kernel_rfl) | (rw [if_neg (by decide +kernel)]; exact ⟨rfl, rfl⟩))
    (fun os started H enc _ => lifted os started H enc)

theorem proved : Rows.WireReadsSaid := over
#print axioms proved
end Go.Proofs.Ytceahjjffnfalaa.wireReads
