/- For every slice of slices of bytes l the law SumParts returns true: bytes summed in whatever parts come to the sum of the whole, and a part of nothing changes nothing. No condition beyond the statement's own. -/
import Derived.Test.YtnfhholdaidpnaaRows
import Derived.WalkKit
import Derived.ProofKit
import Derived.OpenShut
import Derived.Test.YtnfhholdaidpnaaSmAlive
import Derived.Test.YtnfhholdaidpnaaSmRows
import Derived.ShutString
import Derived.ChangeOld
import Derived.Below
namespace Go.Proofs.Ytnfhholdaidpnaa.sumParts
open Go.ChangeShapes Go.WideShapes Go.ChangeAt Go.RowKit
open Go.ChangeMaps (open_string shut_string)
set_option linter.unusedVariables false

theorem own : ownKnob Try.prog.godebug = none := by kernel_rfl
theorem laidOut : laidOutB Try.prog = true := by kernel_rfl

set_option maxHeartbeats 4000000 in
theorem walk (a0 : Option Addr) (len0 cap0 : Nat) (x0 : List (List UInt8)) (w : World) (w0 : Sm.Rows8 w w.heap.size a0 len0 cap0 x0) :
    Calls Try.prog 6 #[.slice a0 len0 cap0] w fun e w' => e = .returned (.bool true) ∧ Below w.heap.size w w' := by
  have HR := Sm.hid w0
  have hc0 := w0.cap
  have hn0 := w0.room
  unfold maxLen at hc0
  clear w0
  by_cases hlen : 60 < len0
  · go_enter Try.func6, Try.ntmps6
    go_wp2_with (go_at_call 9; refine Sm.stop ?_)
    unfold Sm.Stop
    refine (Sm.alive_calls _).mono ?_
    rintro e w1 ⟨rfl, hb1⟩
    go_wp2_with (go_at_call 9; refine Sm.stop ?_)
    unfold Sm.Stop
    refine (Sm.alive_calls _).mono ?_
    rintro e w2 ⟨rfl, hb2⟩
    go_wp2
    go_ret
    exact ⟨rfl, hb1.trans (hb2.mono hb1.size)⟩
  go_enter Try.func6, Try.ntmps6
  go_wp2_with (go_at_call 9; refine Sm.stop ?_)
  unfold Sm.Stop
  refine (Sm.alive_calls _).mono ?_
  rintro e w1 ⟨rfl, hb1⟩
  have HR1 := Sm.hid (HR.out.later hb1)
  clear HR
  go_wp2_with (go_at_call 12; refine (Sm.of_calls none 0 0 [] 0 _ Sm.Row8.nil).mono ?_; rintro e w' ⟨rfl, rfl⟩)
  obtain ⟨i0, hi0, hz0, hz1, hz2⟩ := info_parts Sm.byte_info
  go_loopw [3, 4, 5] (fun v s i wr => ∃ k : Nat, ∃ a c m, k ≤ len0 ∧ i = .int .i64 k ∧ v = .slice a m c ∧ s = .int .u32 ((Sm.of (Sm.flat x0 k)).toNat : Int) ∧ Hid ((Sm.flat x0 k).length = m) ∧ m ≤ 100 * k ∧ Hid (wr.ownsRow w1.heap.size 5 1 (.slice a m c) (Sm.flat x0 k).length (Sm.cells8 (Sm.flat x0 k))) ∧ Hid (Below w1.heap.size w1 wr)) (fun _ _ i _ => len0 - (intOf i).toNat)
  case atStart => exact ⟨0, none, 0, 0, by omega, rfl, rfl, rfl, by rw [Sm.flat_zero]; rfl, by omega, by rw [Sm.flat_zero]; exact World.ownsRow_nil _ _ _ _, Below.refl _ _⟩
  case round =>
    obtain ⟨k, a, c, m, hk, rfl, rfl, rfl, HM, hmk, HO, Hb⟩ := hrel
    by_cases hlt : k < len0
    · obtain ⟨b, off, rfl, hb, hcells⟩ := (HR1.out.below Hb.out).cells (by omega)
      obtain ⟨lk, hlk⟩ : ∃ lk, x0[k]? = some lk := ⟨_, List.getElem?_eq_getElem (by rw [HR1.out.len]; exact hlt)⟩
      obtain ⟨ak, ck, hck, hrk⟩ := hcells k lk hlk
      clear hcells
      have HK := Sm.hid hrk
      have HF := Sm.hid (Sm.flat_succ hlk)
      clear hrk hlk
      obtain ⟨nk, hnk⟩ : ∃ nk, lk.length = nk := ⟨_, rfl⟩
      rw [hnk] at hck HK
      have HNK := Sm.hid hnk
      clear hnk
      by_cases h100 : 100 < nk
      · go_wp2
        go_ret
        exact ⟨rfl, hb1.trans (Hb.out.mono hb1.size)⟩
      · go_wp2_with (first | (go_at_call 13; refine Sm.stop ?_) | (at_builtin; refine Sm.stop ?_))
        unfold Sm.Stop
        refine (Sm.more_calls _ (Sm.of (Sm.flat x0 k)) rfl _ _ _ lk _ _ HK.out).mono ?_
        rintro e w' ⟨rfl, rfl⟩
        rw [← Sm.of_append, ← HF.out]
        go_wp2_with (first | (at_builtin; refine Sm.stop ?_))
        unfold Sm.Stop
        refine Sm.wpList_append_row _ rfl _ _ _ rfl w1.heap.size 5 i0 _ Try.underlying22 hi0 hz0 hz1 hz2 rfl _ (Sm.flat x0 k) rfl HO.out _ ak nk ck lk rfl HK.out (by rw [HM.out]; omega) Hb.out.size ?_
        intro v2 w2 hown hgrow hltb
        have hb2 : Below w1.heap.size w1 w2 := Hb.out.grown hgrow Hb.out.size hltb
        have hb3 : Below w1.heap.size wr w2 := (Below.refl _ _).grown hgrow Hb.out.size hltb
        have hln : (Sm.flat x0 k ++ lk).length = m + nk := by rw [List.length_append, HM.out, HNK.out]
        rw [← HF.out] at hown hln
        obtain ⟨a2, c2, rfl⟩ : ∃ a2 c2, v2 = .slice a2 (m + nk) c2 := by
          rcases hown.2 with ⟨hv, h0⟩ | ⟨g, cap, cur, hv, _⟩
          · rw [hln] at h0
            exact ⟨none, 0, by rw [hv, h0]⟩
          · rw [hln] at hv
            exact ⟨_, _, hv⟩
        have HO2 := Sm.hid hown
        have hx2 := Sm.Row8.own (l := Sm.flat x0 (k + 1)) (n := m + nk) (c := c2) (a := a2) (w := w2) (base := w1.heap.size) (e := 5) (by rw [← hln]; rw [hln]; rw [hln] at hown; exact hown)
        have HX2 := Sm.hid hx2
        have HB2 := Sm.hid hb2
        have HLN := Sm.hid hln
        have hcN := (hb3.cell (p := ⟨b, off + k, none⟩) hb).trans hck
        clear hown hgrow hltb hb2 hb3 hln hx2 HO Hb HK
        go_wp2_with (first | (go_at_call 12; refine (Sm.of_calls _ _ _ (Sm.flat x0 (k + 1)) _ _ HX2.out).mono ?_; rintro e w' ⟨rfl, rfl⟩) | (go_at_call 13; refine Sm.stop ?_))
        unfold Sm.Stop
        refine (Sm.more_calls _ (Sm.of (Sm.flat x0 (k + 1))) rfl none 0 0 [] 0 _ Sm.Row8.nil).mono ?_
        rintro e w' ⟨rfl, rfl⟩
        rw [Sm.more_nil]
        go_wp2
        go_roundw
        case rel => exact ⟨k + 1, a2, c2, m + nk, by omega, by go_num, rfl, rfl, HLN, by omega, HO2, HB2⟩
        case measure => simp [intOf]; omega
    · go_wp2
      go_ret
      exact ⟨rfl, hb1.trans (Hb.out.mono hb1.size)⟩

/-! ### THE ROW's STEP -/
set_option maxRecDepth 100000 in
theorem lifted (os : Os) (started : os.Started) (H : Type) (enc : TypeId × Value → H) :
    ReturnsInHanded {} Try.checked os 6 .any (Rows.sumPartsSpec.pre6 enc Try.prog Try.f6 Rows.sumPartsRow.domain false) (Rows.sumPartsSpec.post enc Try.prog Try.f6 false true false false) := by
  refine returnsInHanded_of_change (C := Try.checked) own started (by kernel_rfl) Try.func6
    (ChangeSpec.witness6 (enc := enc) (C := Try.checked) false ⟨#[], #[.slice none 0 0], []⟩ 8 (by kernel_rfl) (by kernel_rfl) (by kernel_rfl) (by kernel_rfl)) ?_
  intro W base args ds gs before hval0 hW hcnd _
  have hval : ∀ (j : Nat) t v, Try.f6.params[j]? = some t → args[j]? = some v → Value.okWide Try.prog W .any base t v := hval0
  have hW' := hW
  obtain ⟨p, q, hA0, hV, rfl, hfz, hnd⟩ := hW
  have hA : DataW.TrodAll enc Try.prog W 0 (fun _ => true) true Try.f6.params.toList args.toList ds p := hA0
  rw [Try.params6] at hA hval
  obtain ⟨v0, vs0, d0, ds0, p0, q0, hargs, rfl, rfl, h0, r0⟩ := trodAll_cons hA
  obtain ⟨rfl, rfl, rfl⟩ := trodAll_nil r0
  obtain rfl : args = #[v0] := by cases args; simp_all
  obtain ⟨rfl, rfl⟩ := trodVars_none hV
  obtain ⟨a0, len0, cap0, rfl⟩ := okWide_slice Try.underlying37 (hval 0 37 v0 rfl rfl)
  have k0 := h0
  have lt0 : ∀ x ∈ p0, x.block < W.heap.size := by obtain ⟨m, hm⟩ := k0; exact DataW.trod_lt m _ _ _ hm
  obtain ⟨x0, w0⟩ := Sm.Rows8.of_trod Try.underlying37 Try.underlying22 Try.underlying5 (by kernel_rfl) (by kernel_rfl) h0
  clear hA0 hval0
  refine (walk a0 len0 cap0 x0 W w0).mono fun e W' ⟨he, bel⟩ => ?_
  subst he
  exact ⟨_, rfl, _, _, _, [], _, [], hW', trodAll_mk1 (shut_bool Try.underlying4 _), (trodAll_cons_mk (Below.trod laidOut (by kernel_rfl) (of_decide_eq_true (by kernel_rfl)) k0 bel lt0) trodAll_mk0), rfl, bel.frame _, fun h => by cases h⟩

theorem over : Rows.sumPartsRow.holds Try.pinned (OpenSpec.ofChange Rows.sumPartsSpec) :=
  OpenClaim.holds_of_wide 6 Try.f6 rfl rfl rfl rfl rfl rfl rfl ⟨rfl, rfl, rfl, rfl, rfl⟩ rfl rfl rfl rfl rfl (by kernel_rfl) Try.func6 (by kernel_rfl)
    (of_decide_eq_true (by kernel_rfl)) (by unfold Func.isWrapper; first | (rw [if_pos (by decide +kernel)]; kernel_rfl) | (rw [if_neg (by decide +kernel)]; exact ⟨rfl, rfl⟩))
    (fun os started H enc _ => lifted os started H enc)

theorem proved : Rows.SumPartsSaid := over
#print axioms proved
end Go.Proofs.Ytnfhholdaidpnaa.sumParts
