/- For every two slices of bytes b, parts the law WireParts returns true: bytes taken in parts are the bytes, and a reader that failed reads nothing any more. No condition beyond the statement's own. -/
import Derived.Test.YtceahjjffnfalaaRows
import Derived.WalkKit
import Derived.ProofKit
import Derived.OpenShut
import Derived.Test.YtceahjjffnfalaaWrAlive
import Derived.Test.YtceahjjffnfalaaSmQuiet
import Derived.ShutString
import Derived.ChangeOld
import Derived.Below
namespace Go.Proofs.Ytceahjjffnfalaa.wireParts
open Go.ChangeShapes Go.WideShapes Go.ChangeAt Go.RowKit
open Go.ChangeMaps (open_string shut_string)
set_option linter.unusedVariables false

theorem own : ownKnob Try.prog.godebug = none := by kernel_rfl
theorem laidOut : laidOutB Try.prog = true := by kernel_rfl

/-- WHAT THE WALK IS TOLD OF A SLICE OF INTEGERS THAT CAME IN: it is nil; or it leads to a row of 'cap' cells, the numbers 'zs' (the first 'len' are its elements, the rest its spare room), each fitting its kind. -/
def IsRow (k : IntKind) (w : World) (a : Option Addr) (len cap : Nat) (zs : List Int) : Prop :=
  (a = none ∧ len = 0 ∧ cap = 0 ∧ zs = []) ∨
  ∃ x, a = some x ∧ len ≤ cap ∧ cap ≤ maxLen ∧ zs.length = cap ∧ (∀ i, i < zs.length → w.cell? (x.add i) = some (.int k (zs.getD i 0))) ∧ ∀ n ∈ zs, (Lit.int k n).wf = true

/-! ### STEP 1: THE WALK: the Go text returns true, AND WRITES NOTHING THAT WAS THERE: 'Below w.heap.size w w'' (Derived/Below.lean: '.refl', '.alloc', '.drew', '.setCell' at a new block, '.trans'). Open each 'IsRow' by 'rcases' AHEAD of 'go_enter'; part every test ahead of the walk. -/
set_option maxHeartbeats 4000000 in
set_option maxRecDepth 100000 in
theorem walk (a0 : Option Addr) (len0 cap0 : Nat) (z0 : List Int) (a1 : Option Addr) (len1 cap1 : Nat) (z1 : List Int) (w : World) (w0 : IsRow .u8 w a0 len0 cap0 z0) (w1 : IsRow .u8 w a1 len1 cap1 z1) :
    Calls Try.prog 7 #[.slice a0 len0 cap0, .slice a1 len1 cap1] w fun e w' => e = .returned (.bool true) ∧ Below w.heap.size w w' := by
  obtain ⟨l, hr⟩ := Sm.Row8.of_row w0
  obtain ⟨ps, hp⟩ := Sm.Row8.of_row w1
  clear w0 w1
  have HR := Sm.hid hr
  have HP := Sm.hid hp
  have hp1 : len1 ≤ 9223372036854775807 := by have h1 := hp.room; have h2 := hp.cap; unfold maxLen at h2; omega
  clear hr hp
  by_cases hlen : 500 < len0
  · go_enter Try.func7, Try.ntmps7
    go_wp2_with (go_at_call 9; refine Sm.stop ?_)
    unfold Sm.Stop
    refine (Wr.alive_calls _).mono ?_
    rintro e w1 ⟨rfl, hb1⟩
    go_wp2_with (go_at_call 9; refine Sm.stop ?_)
    unfold Sm.Stop
    refine (Wr.alive_calls _).mono ?_
    rintro e w2 ⟨rfl, hb2⟩
    go_wp2
    go_ret
    exact ⟨rfl, hb1.trans (hb2.mono hb1.size)⟩
  by_cases hlen1 : 100 < len1
  · go_enter Try.func7, Try.ntmps7
    go_wp2_with (go_at_call 9; refine Sm.stop ?_)
    unfold Sm.Stop
    refine (Wr.alive_calls _).mono ?_
    rintro e w1 ⟨rfl, hb1⟩
    go_wp2_with (go_at_call 9; refine Sm.stop ?_)
    unfold Sm.Stop
    refine (Wr.alive_calls _).mono ?_
    rintro e w2 ⟨rfl, hb2⟩
    go_wp2
    go_ret
    exact ⟨rfl, hb1.trans (hb2.mono hb1.size)⟩
  obtain ⟨i0, hi0, hz0, hz1, hz2⟩ := info_parts Sm.byte_info
  go_enter Try.func7, Try.ntmps7
  go_wp2_with (go_at_call 9; refine Sm.stop ?_)
  unfold Sm.Stop
  refine (Wr.alive_calls _).mono ?_
  rintro e w1 ⟨rfl, hb1⟩
  have HR1 := Sm.hid (HR.out.later hb1)
  have HP1 := Sm.hid (HP.out.later hb1)
  have HL := Sm.hid HR.out.len
  clear HR HP
  go_wp2_with (go_at_call 18; refine Sm.stop ?_)
  unfold Sm.Stop
  refine (Wr.new_calls _ _ _ l _ HR1.out (by omega)).mono ?_
  rintro e w2 ⟨g, rfl, hg, hrd, hb2⟩
  have HD := Sm.hid hrd
  have HB2 := Sm.hid hb2
  clear hrd hb2
  go_wp2
  go_loopw [6, 7] (fun t i wr => ∃ k : Nat, ∃ at_ : Nat, k ≤ len1 ∧ at_ ≤ len0 ∧ i = .int .i64 k ∧ t = .int .i64 at_ ∧ Hid (Wr.Rd wr g l at_ false) ∧ Hid (Below w1.heap.size w1 wr)) (fun _ i _ => len1 - (intOf i).toNat)
  case atStart => exact ⟨0, 0, by omega, by omega, rfl, rfl, HD, HB2⟩
  case round =>
    clear HD HB2
    obtain ⟨k, at_, hk, hat, rfl, rfl, HD, HB⟩ := hrel
    by_cases hlt : k < len1
    · obtain ⟨b, off, d, hae, hblt, hl, hc⟩ := (HP1.out.below HB.out).at_ hlt
      have hd := d.toNat_lt
      clear hl
      subst hae
      go_wp2_with (go_at_call 19; refine Sm.stop ?_)
      unfold Sm.Stop
      obtain ⟨N, hN, hN9⟩ : ∃ N : Nat, ((d.toNat : Int) % 9) = (N : Int) ∧ N < 9 := ⟨d.toNat % 9, by omega, by omega⟩
      rw [hN]
      clear hN hc hd
      refine (Wr.take_calls g l at_ false (N : Int) _ HD.out).mono ?_
      intro e w3 h3
      obtain ⟨a3, n3, c3, rfl, hx3, _, hrd3, hbs3⟩ := h3.slice
      clear h3
      have hB3 : Below w1.heap.size wr w3 := hbs3.below hg HB.out.size
      have HB3 := Sm.hid (HB.out.trans hB3)
      clear hbs3 hB3 HB HD
      by_cases hN1 : (len0 : Int) - (at_ : Int) < (N : Int)
      · have ho := Wr.got_no (Wr.ok_less l at_ false (k := (N : Int)) (by rw [HL.out]; exact hN1))
        rw [ho.1] at hx3
        rw [ho.2.1, ho.2.2] at hrd3
        obtain rfl : n3 = 0 := hx3.len.symm
        have HD3 := Sm.hid hrd3
        clear hx3 hrd3 ho
        go_wp2_with (go_at_call 19; refine Sm.stop ?_)
        unfold Sm.Stop
        refine (Wr.take_calls g l at_ true 0 _ HD3.out).mono ?_
        intro e w4 h4
        obtain ⟨a4, n4, c4, rfl, hx4, _, hrd4, hbs4⟩ := h4.slice
        clear h4
        have HB4 := Sm.hid (HB3.out.trans (hbs4.below hg HB3.out.size))
        have ho := Wr.got_no (Wr.ok_bad l at_ 0)
        rw [ho.1] at hx4
        rw [ho.2.1, ho.2.2] at hrd4
        obtain rfl : n4 = 0 := hx4.len.symm
        have HD4 := Sm.hid hrd4
        clear hx4 hrd4 ho hbs4 HB3 HD3
        go_wp2_with (go_at_call 21; refine Sm.stop ?_)
        unfold Sm.Stop
        refine (Wr.rnumber_calls g l at_ true 1 _ HD4.out).mono ?_
        have ho := Wr.got_no (Wr.ok_bad l at_ (Wr.wid 1))
        rintro e w5 ⟨rfl, hrd5, hbs5⟩
        rw [ho.1, show Wr.numI [] = 0 from rfl]
        rw [ho.2.1, ho.2.2] at hrd5
        have HB5 := Sm.hid (HB4.out.trans (hbs5.below hg HB4.out.size))
        have HD5 := Sm.hid hrd5
        clear hrd5 ho hbs5 HB4 HD4
        go_wp2_with (first | (go_at_call 26; refine (Wr.bad_calls g l at_ true _ HD5.out).mono ?_; rintro e w' ⟨rfl, rfl⟩) | (go_at_call 25; refine (Wr.at_calls g l at_ true _ HD5.out).mono ?_; rintro e w' ⟨rfl, rfl⟩))
        go_ret
        exact ⟨rfl, hb1.trans (HB5.out.mono hb1.size)⟩
      · have ho := Wr.got_yes (Wr.ok_yes l at_ (k := (N : Int)) (by omega) (by rw [HL.out]; omega))
        rw [Int.toNat_natCast] at ho
        rw [ho.1] at hx3
        rw [ho.2.1, ho.2.2] at hrd3
        have HD3 := Sm.hid hrd3
        have HX3 := Sm.hid hx3
        have hc0 : at_ + N ≤ cap0 := by have := HR1.out.room; omega
        have r1 : ∀ w, (Instr.sliceAt 22 (.slice a0 len0 cap0) (some (.int .i64 (at_ : Int))) (some (.int .i64 ((at_ : Int) + (N : Int)))) none).run Try.prog w = .ok (.slice (Sm.cutA a0 cap0 at_) N (cap0 - at_)) w := fun w => by
          have h := Sm.run_cut_lh (P := Try.prog) Try.underlying22 hi0 hz1 w a0 len0 cap0 at_ (at_ + N) (by omega) (by omega)
          rw [Int.natCast_add, Nat.add_sub_cancel_left] at h
          exact h
        have hcut := (HR1.out.below HB3.out).cut (lo := at_) (hi := at_ + N) (by omega) (by omega)
        rw [Nat.add_sub_cancel_left] at hcut
        have hv1 := fun n => Sm.conv_str (HX3.out.drewN n) Try.underlying22 Try.underlying5 Try.underlying9
        have hv2 := fun n => Sm.conv_str (hcut.drewN n) Try.underlying22 Try.underlying5 Try.underlying9
        have hwr : IntKind.i64.wrap ((at_ : Int) + (N : Int)) = (at_ : Int) + (N : Int) := IntWalk.i64_in _ (by omega)
        clear hx3 hrd3 ho hcut HX3
        go_wp2
        go_quiet ((go_at_call 26; exact Sm.quietly (Wr.bad_calls g l (at_ + N) false _ (HD3.out.below (Sm.below_drewN (Below.refl w3.heap.size w3) _) HD3.out.lt))))
        clear hv1 hv2 r1 hwr
        go_wp2
        go_roundw
        case rel => exact ⟨k + 1, at_ + N, by omega, by omega, by go_num, by go_num, HD3.out.below (Sm.below_drewN (Below.refl w3.heap.size w3) _) HD3.out.lt, Sm.below_drewN HB3.out _⟩
        case measure => simp [intOf]; omega
    · go_wp2_with (go_at_call 25; refine (Wr.at_calls g l at_ false _ HD.out).mono ?_; rintro e w' ⟨rfl, rfl⟩)
      go_ret
      exact ⟨rfl, hb1.trans (HB.out.mono hb1.size)⟩

/-! ### THE ROW's STEP: WRITTEN OUT: LEAVE IT -/
set_option maxRecDepth 100000 in
theorem lifted (os : Os) (started : os.Started) (H : Type) (enc : TypeId × Value → H) :
    ReturnsInHanded {} Try.checked os 7 .any (Rows.wirePartsSpec.pre6 enc Try.prog Try.f7 Rows.wirePartsRow.domain false) (Rows.wirePartsSpec.post enc Try.prog Try.f7 false true false false) := by
  refine returnsInHanded_of_change (C := Try.checked) own started (by kernel_rfl) Try.func7
    (ChangeSpec.witness6 (enc := enc) (C := Try.checked) false ⟨#[], #[.slice none 0 0, .slice none 0 0], []⟩ 8 (by kernel_rfl) (by kernel_rfl) (by kernel_rfl) (by kernel_rfl)) ?_
  intro W base args ds gs before hval0 hW hcnd _
  have hval : ∀ (j : Nat) t v, Try.f7.params[j]? = some t → args[j]? = some v → Value.okWide Try.prog W .any base t v := hval0
  have hW' := hW
  obtain ⟨p, q, hA0, hV, rfl, hfz, hnd⟩ := hW
  have hA : DataW.TrodAll enc Try.prog W 0 (fun _ => true) true Try.f7.params.toList args.toList ds p := hA0
  rw [Try.params7] at hA hval
  obtain ⟨v0, vs0, d0, ds0, p0, q0, hargs, rfl, rfl, h0, r0⟩ := trodAll_cons hA
  obtain ⟨v1, vs1, d1, ds1, p1, q1, rfl, rfl, rfl, h1, r1⟩ := trodAll_cons r0
  obtain ⟨rfl, rfl, rfl⟩ := trodAll_nil r1
  obtain rfl : args = #[v0, v1] := by cases args; simp_all
  obtain ⟨rfl, rfl⟩ := trodVars_none hV
  obtain ⟨a0, len0, cap0, rfl⟩ := okWide_slice Try.underlying22 (hval 0 22 v0 rfl rfl)
  have k0 := h0
  have lt0 : ∀ x ∈ p0, x.block < W.heap.size := by obtain ⟨m, hm⟩ := k0; exact DataW.trod_lt m _ _ _ hm
  obtain ⟨z0, w0⟩ : ∃ zs, IsRow .u8 W a0 len0 cap0 zs := by
    obtain ⟨fuel, hf⟩ := h0
    rcases open_ints Try.underlying22 Try.underlying5 (by kernel_rfl) hf with ⟨hcs, _⟩ | ⟨x, l, c, zs, hcs, _, hl, hm, hz, _, hcell, hwz⟩
    · simp [Value.cells] at hcs
      obtain ⟨rfl, rfl, rfl⟩ := hcs
      exact ⟨[], .inl ⟨rfl, rfl, rfl, rfl⟩⟩
    · simp [Value.cells] at hcs
      obtain ⟨rfl, rfl, rfl⟩ := hcs
      exact ⟨zs, .inr ⟨_, rfl, hl, hm, by simpa using hz, hcell, hwz⟩⟩
  obtain ⟨a1, len1, cap1, rfl⟩ := okWide_slice Try.underlying22 (hval 1 22 v1 rfl rfl)
  have k1 := h1
  have lt1 : ∀ x ∈ p1, x.block < W.heap.size := by obtain ⟨m, hm⟩ := k1; exact DataW.trod_lt m _ _ _ hm
  obtain ⟨z1, w1⟩ : ∃ zs, IsRow .u8 W a1 len1 cap1 zs := by
    obtain ⟨fuel, hf⟩ := h1
    rcases open_ints Try.underlying22 Try.underlying5 (by kernel_rfl) hf with ⟨hcs, _⟩ | ⟨x, l, c, zs, hcs, _, hl, hm, hz, _, hcell, hwz⟩
    · simp [Value.cells] at hcs
      obtain ⟨rfl, rfl, rfl⟩ := hcs
      exact ⟨[], .inl ⟨rfl, rfl, rfl, rfl⟩⟩
    · simp [Value.cells] at hcs
      obtain ⟨rfl, rfl, rfl⟩ := hcs
      exact ⟨zs, .inr ⟨_, rfl, hl, hm, by simpa using hz, hcell, hwz⟩⟩
  clear hA0 hval0
  refine (walk a0 len0 cap0 z0 a1 len1 cap1 z1 W w0 w1).mono fun e W' ⟨he, bel⟩ => ?_
  subst he
  exact ⟨_, rfl, _, _, _, [], _, [], hW', trodAll_mk1 (shut_bool Try.underlying4 _), (trodAll_cons_mk (Below.trod laidOut (by kernel_rfl) (of_decide_eq_true (by kernel_rfl)) k0 bel lt0) (trodAll_cons_mk (Below.trod laidOut (by kernel_rfl) (of_decide_eq_true (by kernel_rfl)) k1 bel lt1) trodAll_mk0)), rfl, bel.frame _, fun h => by cases h⟩

theorem over : Rows.wirePartsRow.holds Try.pinned (OpenSpec.ofChange Rows.wirePartsSpec) :=
  OpenClaim.holds_of_wide 7 Try.f7 rfl rfl rfl rfl rfl rfl rfl ⟨rfl, rfl, rfl, rfl, rfl⟩ rfl rfl rfl rfl rfl (by kernel_rfl) Try.func7 (by kernel_rfl)
    (of_decide_eq_true (by kernel_rfl)) (by unfold Func.isWrapper; first | (rw [if_pos (by decide +kernel)]; kernel_rfl) | (rw [if_neg (by decide +kernel)]; exact ⟨rfl, rfl⟩))
    (fun os started H enc _ => lifted os started H enc)

/-- ████ THE STATEMENT ████ -/
theorem proved : Rows.WirePartsSaid := over
#print axioms proved
end Go.Proofs.Ytceahjjffnfalaa.wireParts
