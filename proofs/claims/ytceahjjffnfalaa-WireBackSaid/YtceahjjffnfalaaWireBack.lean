/- For every slice of bytes b the law WireBack returns true: 1 to 7 bytes are what their numbers, plain and signed, are written as. No condition beyond the statement's own. -/
import Derived.Test.YtceahjjffnfalaaRows
import Derived.WalkKit
import Derived.ProofKit
import Derived.OpenShut
import Derived.Test.YtceahjjffnfalaaWrAlive
import Derived.ShutString
import Derived.ChangeOld
import Derived.Below
namespace Go.Proofs.Ytceahjjffnfalaa.wireBack
open Go.ChangeShapes Go.WideShapes Go.ChangeAt Go.RowKit
open Go.ChangeMaps (open_string shut_string)
set_option linter.unusedVariables false

theorem own : ownKnob Try.prog.godebug = none := by kernel_rfl
theorem laidOut : laidOutB Try.prog = true := by kernel_rfl

/-- WHAT THE WALK IS TOLD OF A SLICE OF INTEGERS THAT CAME IN: it is nil; or it leads to a row of 'cap' cells, the numbers 'zs' (the first 'len' are its elements, the rest its spare room), each fitting its kind. -/
def IsRow (k : IntKind) (w : World) (a : Option Addr) (len cap : Nat) (zs : List Int) : Prop :=
  (a = none ∧ len = 0 ∧ cap = 0 ∧ zs = []) ∨
  ∃ x, a = some x ∧ len ≤ cap ∧ cap ≤ maxLen ∧ zs.length = cap ∧ (∀ i, i < zs.length → w.cell? (x.add i) = some (.int k (zs.getD i 0))) ∧ ∀ n ∈ zs, (Lit.int k n).wf = true

/-! ### STEP 1: THE WALK: the Go text returns true, AND WRITES NOTHING THAT WAS THERE: 'Below w.heap.size w w'' (Derived/Below.lean: '.refl', '.alloc', '.drew', '.setCell' at a new block, '.trans'). Open each 'IsRow' by 'rcases' AHEAD of 'go_enter'; part every test ahead of the walk. -/
set_option maxHeartbeats 4000000 in
set_option maxRecDepth 100000 in
theorem walk (a0 : Option Addr) (len0 cap0 : Nat) (z0 : List Int) (w : World) (w0 : IsRow .u8 w a0 len0 cap0 z0) :
    Calls Try.prog 5 #[.slice a0 len0 cap0] w fun e w' => e = .returned (.bool true) ∧ Below w.heap.size w w' := by
  obtain ⟨l, hr⟩ := Sm.Row8.of_row w0
  clear w0
  have HR := Sm.hid hr
  have HL := Sm.hid hr.len
  clear hr
  by_cases hlen0 : len0 = 0
  · subst hlen0
    go_enter Try.func5, Try.ntmps5
    go_wp2_with (go_at_call 9; refine Sm.stop ?_)
    unfold Sm.Stop
    refine (Wr.alive_calls _).mono ?_
    rintro e w1 ⟨rfl, hb1⟩
    go_wp2_with (go_at_call 9; refine Sm.stop ?_)
    unfold Sm.Stop
    refine (Wr.alive_calls _).mono ?_
    rintro e w2 ⟨rfl, hb2⟩
    go_wp2
    go_ret
    exact ⟨rfl, hb1.trans (hb2.mono hb1.size)⟩
  have hz : ((len0 : Int) == 0) = false := by simp; omega
  by_cases hlen : 7 < len0
  · go_enter Try.func5, Try.ntmps5
    go_wp2_with (go_at_call 9; refine Sm.stop ?_)
    unfold Sm.Stop
    refine (Wr.alive_calls _).mono ?_
    rintro e w1 ⟨rfl, hb1⟩
    go_wp2_with (go_at_call 9; refine Sm.stop ?_)
    unfold Sm.Stop
    refine (Wr.alive_calls _).mono ?_
    rintro e w2 ⟨rfl, hb2⟩
    go_wp2
    go_ret
    exact ⟨rfl, hb1.trans (hb2.mono hb1.size)⟩
  have hbp := Wr.back_plain (l := l) (by rw [HL.out]; omega) (by rw [HL.out]; omega)
  have hbs := Wr.back_signed (l := l) (by rw [HL.out]; omega) (by rw [HL.out]; omega)
  rw [HL.out] at hbp hbs
  have HP := Sm.hid hbp
  have HS := Sm.hid hbs
  clear hbp hbs
  go_enter Try.func5, Try.ntmps5
  go_wp2_with (go_at_call 9; refine Sm.stop ?_)
  unfold Sm.Stop
  refine (Wr.alive_calls _).mono ?_
  rintro e w1 ⟨rfl, hb1⟩
  have HR1 := Sm.hid (HR.out.later hb1)
  clear HR
  go_wp2_with (first | (go_at_call 12; refine (Wr.number_calls _ _ _ l _ _ HR1.out).mono ?_; rintro e w' ⟨rfl, rfl⟩) | (go_at_call 10; refine Sm.stop ?_))
  unfold Sm.Stop
  refine (Wr.plain_calls _ _ _).mono ?_
  rw [HP.out.1, HP.out.2]
  rintro e w2 ⟨v2, rfl, hm2⟩
  obtain ⟨a2, c2, rfl, hx2, hb2⟩ := hm2.slice
  have HX2 := Sm.hid hx2
  have HR2 := Sm.hid (HR1.out.later hb2)
  have hB2 : Below w.heap.size w w2 := hb1.trans (hb2.mono hb1.size)
  clear hm2 hx2 HR1 hb1 hb2 HP
  go_wp2_with (first | (go_at_call 16; refine (Wr.offset_calls _ _ _ l _ _ HR2.out).mono ?_; rintro e w' ⟨rfl, rfl⟩) | (go_at_call 14; refine Sm.stop ?_))
  unfold Sm.Stop
  refine (Wr.signed_calls _ _ _).mono ?_
  rw [HS.out.1, HS.out.2]
  rintro e w3 ⟨v3, rfl, hm3⟩
  obtain ⟨a3, c3, rfl, hy3, hb3⟩ := hm3.slice
  have hB3 : Below w.heap.size w w3 := hB2.trans (hb3.mono hB2.size)
  have hv1 := Sm.conv_str (HX2.out.later hb3) Try.underlying22 Try.underlying5 Try.underlying9
  have hv2 := Sm.conv_str hy3 Try.underlying22 Try.underlying5 Try.underlying9
  have hv3 := Sm.conv_str (HR2.out.later hb3) Try.underlying22 Try.underlying5 Try.underlying9
  clear hm3 hy3 HR2 HX2 hB2 hb3 HS
  go_wp2
  go_ret
  exact ⟨rfl, hB3⟩

/-! ### THE ROW's STEP: WRITTEN OUT: LEAVE IT -/
set_option maxRecDepth 100000 in
theorem lifted (os : Os) (started : os.Started) (H : Type) (enc : TypeId × Value → H) :
    ReturnsInHanded {} Try.checked os 5 .any (Rows.wireBackSpec.pre6 enc Try.prog Try.f5 Rows.wireBackRow.domain false) (Rows.wireBackSpec.post enc Try.prog Try.f5 false true false false) := by
  refine returnsInHanded_of_change (C := Try.checked) own started (by kernel_rfl) Try.func5
    (ChangeSpec.witness6 (enc := enc) (C := Try.checked) false ⟨#[], #[.slice none 0 0], []⟩ 8 (by kernel_rfl) (by kernel_rfl) (by kernel_rfl) (by kernel_rfl)) ?_
  intro W base args ds gs before hval0 hW hcnd _
  have hval : ∀ (j : Nat) t v, Try.f5.params[j]? = some t → args[j]? = some v → Value.okWide Try.prog W .any base t v := hval0
  have hW' := hW
  obtain ⟨p, q, hA0, hV, rfl, hfz, hnd⟩ := hW
  have hA : DataW.TrodAll enc Try.prog W 0 (fun _ => true) true Try.f5.params.toList args.toList ds p := hA0
  rw [Try.params5] at hA hval
  obtain ⟨v0, vs0, d0, ds0, p0, q0, hargs, rfl, rfl, h0, r0⟩ := trodAll_cons hA
  obtain ⟨rfl, rfl, rfl⟩ := trodAll_nil r0
  obtain rfl : args = #[v0] := by cases args; simp_all
  obtain ⟨rfl, rfl⟩ := trodVars_none hV
  obtain ⟨a0, len0, cap0, rfl⟩ := okWide_slice Try.underlying22 (hval 0 22 v0 rfl rfl)
  have k0 := h0
  have lt0 : ∀ x ∈ p0, x.block < W.heap.size := by obtain ⟨m, hm⟩ := k0; exact DataW.trod_lt m _ _ _ hm
  obtain ⟨z0, w0⟩ : ∃ zs, IsRow .u8 W a0 len0 cap0 zs := by
    obtain ⟨fuel, hf⟩ := h0
    rcases open_ints Try.underlying22 Try.underlying5 (by kernel_rfl) hf with ⟨hcs, _⟩ | ⟨x, l, c, zs, hcs, _, hl, hm, hz, _, hcell, hwz⟩
    · simp [Value.cells] at hcs
      obtain ⟨rfl, rfl, rfl⟩ := hcs
      exact ⟨[], .inl ⟨rfl, rfl, rfl, rfl⟩⟩
    · simp [Value.cells] at hcs
      obtain ⟨rfl, rfl, rfl⟩ := hcs
      exact ⟨zs, .inr ⟨_, rfl, hl, hm, by simpa using hz, hcell, hwz⟩⟩
  clear hA0 hval0
  refine (walk a0 len0 cap0 z0 W w0).mono fun e W' ⟨he, bel⟩ => ?_
  subst he
  exact ⟨_, rfl, _, _, _, [], _, [], hW', trodAll_mk1 (shut_bool Try.underlying4 _), (trodAll_cons_mk (Below.trod laidOut (by kernel_rfl) (of_decide_eq_true (by kernel_rfl)) k0 bel lt0) trodAll_mk0), rfl, bel.frame _, fun h => by cases h⟩

theorem over : Rows.wireBackRow.holds Try.pinned (OpenSpec.ofChange Rows.wireBackSpec) :=
  OpenClaim.holds_of_wide 5 Try.f5 rfl rfl rfl rfl rfl rfl rfl ⟨rfl, rfl, rfl, rfl, rfl⟩ rfl rfl rfl rfl rfl (by kernel_rfl) Try.func5 (by kernel_rfl)
    (of_decide_eq_true (by kernel_rfl)) (by unfold Func.isWrapper; first | (rw [if_pos (by decide +kernel)]; kernel_rfl) | (rw [if_neg (by decide +kernel)]; exact ⟨rfl, rfl⟩))
    (fun os started H enc _ => lifted os started H enc)

/-- ████ THE STATEMENT ████ -/
theorem proved : Rows.WireBackSaid := over
#print axioms proved
end Go.Proofs.Ytceahjjffnfalaa.wireBack
