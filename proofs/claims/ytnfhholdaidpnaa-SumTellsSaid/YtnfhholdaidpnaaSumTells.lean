/- For every two slices of bytes b, more and every byte i the law SumTells returns true: sum.Of, sum.More and sum.Table answer as the document's own answers do. No condition beyond the statement's own. -/
import Derived.Test.YtnfhholdaidpnaaRows
import Derived.WalkKit
import Derived.ProofKit
import Derived.OpenShut
import Derived.Test.YtnfhholdaidpnaaSmAlive
import Derived.Test.YtnfhholdaidpnaaSmTable
import Derived.Test.YtnfhholdaidpnaaSmQuiet
import Derived.ShutString
import Derived.ChangeOld
import Derived.Below
namespace Go.Proofs.Ytnfhholdaidpnaa.sumTells
open Go.ChangeShapes Go.WideShapes Go.ChangeAt Go.RowKit
open Go.ChangeMaps (open_string shut_string)
set_option linter.unusedVariables false

theorem own : ownKnob Try.prog.godebug = none := by kernel_rfl
theorem laidOut : laidOutB Try.prog = true := by kernel_rfl

/-- WHAT THE WALK IS TOLD OF A SLICE OF INTEGERS THAT CAME IN: it is nil; or it leads to a row of 'cap' cells, the numbers 'zs' (the first 'len' are its elements, the rest its spare room), each fitting its kind. -/
def IsRow (k : IntKind) (w : World) (a : Option Addr) (len cap : Nat) (zs : List Int) : Prop :=
  (a = none ∧ len = 0 ∧ cap = 0 ∧ zs = []) ∨
  ∃ x, a = some x ∧ len ≤ cap ∧ cap ≤ maxLen ∧ zs.length = cap ∧ (∀ i, i < zs.length → w.cell? (x.add i) = some (.int k (zs.getD i 0))) ∧ ∀ n ∈ zs, (Lit.int k n).wf = true

/-! ### STEP 1: THE WALK: the Go text returns true, AND WRITES NOTHING THAT WAS THERE: 'Below w.heap.size w w'' (Derived/Below.lean: '.refl', '.alloc', '.drew', '.setCell' at a new block, '.trans'). Open each 'IsRow' by 'rcases' AHEAD of 'go_enter'; part every test ahead of the walk. -/
theorem walk (a0 : Option Addr) (len0 cap0 : Nat) (z0 : List Int) (a1 : Option Addr) (len1 cap1 : Nat) (z1 : List Int) (a2 : Int) (w : World) (w0 : IsRow .u8 w a0 len0 cap0 z0) (w1 : IsRow .u8 w a1 len1 cap1 z1) (w2 : (Lit.int .u8 a2).wf = true) :
    Calls Try.prog 3 #[.slice a0 len0 cap0, .slice a1 len1 cap1, .int .u8 a2] w fun e w' => e = .returned (.bool true) ∧ Below w.heap.size w w' := by
  obtain ⟨l, hr⟩ := Sm.Row8.of_row w0
  obtain ⟨m, hm⟩ := Sm.Row8.of_row w1
  have hi := bounds_u8 w2
  clear w0 w1 w2
  obtain ⟨hi0, hi1⟩ := hi
  obtain ⟨i, rfl⟩ := Int.eq_ofNat_of_zero_le hi0
  have HR := Sm.hid hr
  have HM := Sm.hid hm
  clear hr hm hi0
  by_cases hlen : 1500 < len0
  · go_enter Try.func3, Try.ntmps3
    go_wp2_with (go_at_call 9; refine Sm.stop ?_)
    unfold Sm.Stop
    refine (Sm.alive_calls _).mono ?_
    rintro e w1 ⟨rfl, hb1⟩
    go_wp2_with (go_at_call 9; refine Sm.stop ?_)
    unfold Sm.Stop
    refine (Sm.alive_calls _).mono ?_
    rintro e w2 ⟨rfl, hb2⟩
    go_wp2
    go_ret
    exact ⟨rfl, hb1.trans (hb2.mono hb1.size)⟩
  by_cases hlen1 : 1500 < len1
  · go_enter Try.func3, Try.ntmps3
    go_wp2_with (go_at_call 9; refine Sm.stop ?_)
    unfold Sm.Stop
    refine (Sm.alive_calls _).mono ?_
    rintro e w1 ⟨rfl, hb1⟩
    go_wp2_with (go_at_call 9; refine Sm.stop ?_)
    unfold Sm.Stop
    refine (Sm.alive_calls _).mono ?_
    rintro e w2 ⟨rfl, hb2⟩
    go_wp2
    go_ret
    exact ⟨rfl, hb1.trans (hb2.mono hb1.size)⟩
  have hz := Sm.table_zero
  go_enter Try.func3, Try.ntmps3
  go_wp2_with (go_at_call 9; refine Sm.stop ?_)
  unfold Sm.Stop
  refine (Sm.alive_calls _).mono ?_
  rintro e w1 ⟨rfl, hb1⟩
  have HR1 := Sm.hid (HR.out.later hb1)
  go_wp2_with (first | (go_at_call 10; refine (Sm.ofR_calls _ _ _ l _ _ HR1.out).mono ?_; rintro e w' ⟨rfl, rfl⟩) | (go_at_call 11; refine Sm.stop ?_))
  unfold Sm.Stop
  refine (Sm.table_calls _).mono ?_
  rintro e w2 ⟨rfl, hb2⟩
  have hb : Below w.heap.size w w2 := hb1.trans (hb2.mono hb1.size)
  have hth : (w2.alloc (.cells Sm.zeros 26)).there w2.heap.size 0 (Sm.tabTo 256).size := by
    intro j hj
    rw [Sm.tabTo_size] at hj
    have hh := heap_alloc_new w2 (.cells Sm.zeros 26)
    refine ⟨?_, frozen_of_row _ _ _ _ _ hh⟩
    rw [cell_of_row _ _ _ _ _ _ hh, ← Sm.tabTo_zero, Sm.tabTo_get _ _ (by omega)]
    rfl
  have HT := Sm.hid hth
  clear hth HR1 hb1 hb2
  go_wp2_with (first | (refine wpList_store_mid rfl 26 _ _ rfl w2.heap.size 0 (Sm.tabTo 256) rfl rfl HT.out (by rw [Sm.tabTo_size]; exact Sm.table_info) (Sm.tabTo_one _) ?_; refine Sm.stop ?_))
  unfold Sm.Stop
  have hrange := World.rangeAt_setCells_same _ w2.heap.size 0 (Sm.tabTo 256).toList (by rw [Array.length_toList]; exact HT.out)
  have hcell := hrange i (.int .u32 ((Sm.steps 8 (BitVec.ofNat 32 (i * 16777216))).toNat : Int)) (by rw [Array.getElem?_toList, Sm.tabTo_get _ _ (by omega), if_pos (by omega)]; rfl)
  rw [Nat.zero_add] at hcell
  have hbW := Sm.below_setCells (b := w2.heap.size) hb.size (Sm.tabTo 256).toList 0 w _ (hb.alloc hb.size (.cells Sm.zeros 26))
  clear hrange HT
  generalize (w2.alloc (.cells Sm.zeros 26)).setCells w2.heap.size 0 (Sm.tabTo 256).toList = W at *
  have HR1 := Sm.hid (HR.out.later hbW)
  have HM1 := Sm.hid (HM.out.later hbW)
  have hik : (i : Int) < 256 := by omega
  clear hz HR HM
  go_wp2
  go_quiet ((first | (go_at_call 12; exact Sm.quietly (Sm.of_calls _ _ _ l _ _ (HR1.out.drewN _))) | (go_at_call 13; exact Sm.quietly (Sm.more_calls _ (Sm.of l) rfl _ _ _ m _ _ (HM1.out.drewN _))) | (go_at_call 14; exact Sm.quietly (Sm.moreR_calls _ (Sm.of l) rfl _ _ _ m _ _ (HM1.out.drewN _))) | (go_at_call 15; exact Sm.quietly (Sm.eight_calls _ (BitVec.ofNat 32 (i * 16777216)) (by rw [BitVec.toNat_ofNat]; omega) _))))
  go_wp2
  go_ret
  exact ⟨rfl, Sm.below_drewN hbW _⟩

/-! ### THE ROW's STEP: WRITTEN OUT: LEAVE IT -/
set_option maxRecDepth 100000 in
theorem lifted (os : Os) (started : os.Started) (H : Type) (enc : TypeId × Value → H) :
    ReturnsInHanded {} Try.checked os 3 .any (Rows.sumTellsSpec.pre6 enc Try.prog Try.f3 Rows.sumTellsRow.domain false) (Rows.sumTellsSpec.post enc Try.prog Try.f3 false true false false) := by
  refine returnsInHanded_of_change (C := Try.checked) own started (by kernel_rfl) Try.func3
    (ChangeSpec.witness6 (enc := enc) (C := Try.checked) false ⟨#[], #[.slice none 0 0, .slice none 0 0, .int .u8 0], []⟩ 8 (by kernel_rfl) (by kernel_rfl) (by kernel_rfl) (by kernel_rfl)) ?_
  intro W base args ds gs before hval0 hW hcnd _
  have hval : ∀ (j : Nat) t v, Try.f3.params[j]? = some t → args[j]? = some v → Value.okWide Try.prog W .any base t v := hval0
  have hW' := hW
  obtain ⟨p, q, hA0, hV, rfl, hfz, hnd⟩ := hW
  have hA : DataW.TrodAll enc Try.prog W 0 (fun _ => true) true Try.f3.params.toList args.toList ds p := hA0
  rw [Try.params3] at hA hval
  obtain ⟨v0, vs0, d0, ds0, p0, q0, hargs, rfl, rfl, h0, r0⟩ := trodAll_cons hA
  obtain ⟨v1, vs1, d1, ds1, p1, q1, rfl, rfl, rfl, h1, r1⟩ := trodAll_cons r0
  obtain ⟨v2, vs2, d2, ds2, p2, q2, rfl, rfl, rfl, h2, r2⟩ := trodAll_cons r1
  obtain ⟨rfl, rfl, rfl⟩ := trodAll_nil r2
  obtain rfl : args = #[v0, v1, v2] := by cases args; simp_all
  obtain ⟨rfl, rfl⟩ := trodVars_none hV
  obtain ⟨a0, len0, cap0, rfl⟩ := okWide_slice Try.underlying22 (hval 0 22 v0 rfl rfl)
  have k0 := h0
  have lt0 : ∀ x ∈ p0, x.block < W.heap.size := by obtain ⟨m, hm⟩ := k0; exact DataW.trod_lt m _ _ _ hm
  obtain ⟨z0, w0⟩ : ∃ zs, IsRow .u8 W a0 len0 cap0 zs := by
    obtain ⟨fuel, hf⟩ := h0
    rcases open_ints Try.underlying22 Try.underlying5 (by kernel_rfl) hf with ⟨hcs, _⟩ | ⟨x, l, c, zs, hcs, _, hl, hm, hz, _, hcell, hwz⟩
    · simp [Value.cells] at hcs
      obtain ⟨rfl, rfl, rfl⟩ := hcs
      exact ⟨[], .inl ⟨rfl, rfl, rfl, rfl⟩⟩
    · simp [Value.cells] at hcs
      obtain ⟨rfl, rfl, rfl⟩ := hcs
      exact ⟨zs, .inr ⟨_, rfl, hl, hm, by simpa using hz, hcell, hwz⟩⟩
  obtain ⟨a1, len1, cap1, rfl⟩ := okWide_slice Try.underlying22 (hval 1 22 v1 rfl rfl)
  have k1 := h1
  have lt1 : ∀ x ∈ p1, x.block < W.heap.size := by obtain ⟨m, hm⟩ := k1; exact DataW.trod_lt m _ _ _ hm
  obtain ⟨z1, w1⟩ : ∃ zs, IsRow .u8 W a1 len1 cap1 zs := by
    obtain ⟨fuel, hf⟩ := h1
    rcases open_ints Try.underlying22 Try.underlying5 (by kernel_rfl) hf with ⟨hcs, _⟩ | ⟨x, l, c, zs, hcs, _, hl, hm, hz, _, hcell, hwz⟩
    · simp [Value.cells] at hcs
      obtain ⟨rfl, rfl, rfl⟩ := hcs
      exact ⟨[], .inl ⟨rfl, rfl, rfl, rfl⟩⟩
    · simp [Value.cells] at hcs
      obtain ⟨rfl, rfl, rfl⟩ := hcs
      exact ⟨zs, .inr ⟨_, rfl, hl, hm, by simpa using hz, hcell, hwz⟩⟩
  obtain ⟨a2, rfl, rfl, rfl, w2⟩ := open_int Try.underlying5 (hval 2 5 v2 rfl rfl) h2
  clear hA0 hval0
  refine (walk a0 len0 cap0 z0 a1 len1 cap1 z1 a2 W w0 w1 w2).mono fun e W' ⟨he, bel⟩ => ?_
  subst he
  exact ⟨_, rfl, _, _, _, [], _, [], hW', trodAll_mk1 (shut_bool Try.underlying4 _), (trodAll_cons_mk (Below.trod laidOut (by kernel_rfl) (of_decide_eq_true (by kernel_rfl)) k0 bel lt0) (trodAll_cons_mk (Below.trod laidOut (by kernel_rfl) (of_decide_eq_true (by kernel_rfl)) k1 bel lt1) (trodAll_cons_mk (shut_int Try.underlying5 w2) trodAll_mk0))), rfl, bel.frame _, fun h => by cases h⟩

theorem over : Rows.sumTellsRow.holds Try.pinned (OpenSpec.ofChange Rows.sumTellsSpec) :=
  OpenClaim.holds_of_wide 3 Try.f3 rfl rfl rfl rfl rfl rfl rfl ⟨rfl, rfl, rfl, rfl, rfl⟩ rfl rfl rfl rfl rfl (by kernel_rfl) Try.func3 (by kernel_rfl)
    (of_decide_eq_true (by kernel_rfl)) (by unfold Func.isWrapper; first | (rw [if_pos (by decide +kernel)]; kernel_rfl) | (rw [if_neg (by decide +kernel)]; exact ⟨rfl, rfl⟩))
    (fun os started H enc _ => lifted os started H enc)

/-- ████ THE STATEMENT ████ -/
theorem proved : Rows.SumTellsSaid := over
#print axioms proved
end Go.Proofs.Ytnfhholdaidpnaa.sumTells
