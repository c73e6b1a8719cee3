/- For every two numbers a, b and every width the law WireOrder returns true: numbers of one width are ordered as their bytes are. No condition beyond the statement's own. -/
import Derived.Test.YtceahjjffnfalaaRows
import Derived.WalkKit
import Derived.ProofKit
import Derived.OpenShut
import Derived.Test.YtceahjjffnfalaaWrAlive
import Derived.ShutString
import Derived.ChangeOld
import Derived.Below
namespace Go.Proofs.Ytceahjjffnfalaa.wireOrder
open Go.ChangeShapes Go.WideShapes Go.ChangeAt Go.RowKit
open Go.ChangeMaps (open_string shut_string)
set_option linter.unusedVariables false

theorem own : ownKnob Try.prog.godebug = none := by kernel_rfl
theorem laidOut : laidOutB Try.prog = true := by kernel_rfl

set_option maxHeartbeats 4000000 in
set_option maxRecDepth 100000 in
theorem walk (a0 : Int) (a1 : Int) (a2 : Int) (w : World) (w0 : (Lit.int .i64 a0).wf = true) (w1 : (Lit.int .i64 a1).wf = true) (w2 : (Lit.int .u8 a2).wf = true) :
    Calls Try.prog 8 #[.int .i64 a0, .int .i64 a1, .int .u8 a2] w fun e w' => e = .returned (.bool true) ∧ Below w.heap.size w w' := by
  have hb8 := bounds_u8 w2
  obtain ⟨hw0, hw1⟩ := hb8
  clear w0 w1 w2
  obtain ⟨k, rfl⟩ := Int.eq_ofNat_of_zero_le hw0
  have hP := fun w => Wr.plain_calls a0 (1 + (k : Int) % 7) w
  have hQ := fun w => Wr.plain_calls a1 (1 + (k : Int) % 7) w
  have hO := Wr.order_str (a := a0) (b := a1) (k := 1 + (k : Int) % 7)
  generalize Wr.plainL a0 (1 + (k : Int) % 7) = L at *
  generalize Wr.plainB a0 (1 + (k : Int) % 7) = ok at *
  generalize Wr.plainL a1 (1 + (k : Int) % 7) = M at *
  generalize Wr.plainB a1 (1 + (k : Int) % 7) = is at *
  have HP := Sm.hid hP
  have HQ := Sm.hid hQ
  have HO := Sm.hid hO
  clear hP hQ hO
  go_enter Try.func8, Try.ntmps8
  go_wp2_with (go_at_call 10; refine Sm.stop ?_)
  unfold Sm.Stop
  refine (HP.out _).mono ?_
  rintro e w2 ⟨v2, rfl, hm2⟩
  obtain ⟨a2', c2, rfl, hx2, hb2⟩ := hm2.slice
  have HX2 := Sm.hid hx2
  clear hm2 hx2
  go_wp2_with (go_at_call 10; refine Sm.stop ?_)
  unfold Sm.Stop
  refine (HQ.out _).mono ?_
  rintro e w3 ⟨v3, rfl, hm3⟩
  obtain ⟨a3, c3, rfl, hy3, hb3⟩ := hm3.slice
  have HX3 := Sm.hid (HX2.out.later hb3)
  have HY3 := Sm.hid hy3
  have hB3 : Below w.heap.size w w3 := hb2.trans (hb3.mono hb2.size)
  clear hm3 hy3 HX2 hb2 hb3 HP HQ
  go_wp2_with (go_at_call 9; refine Sm.stop ?_)
  unfold Sm.Stop
  refine (Wr.alive_calls _).mono ?_
  rintro e w4 ⟨rfl, hb4⟩
  have hB4 : Below w.heap.size w w4 := hB3.trans (hb4.mono hB3.size)
  have HX4 := Sm.hid (HX3.out.later hb4)
  have HY4 := Sm.hid (HY3.out.later hb4)
  clear HX3 HY3 hB3 hb4
  cases ok
  · clear HO
    go_wp2_with (go_at_call 9; refine Sm.stop ?_)
    unfold Sm.Stop
    refine (Wr.alive_calls _).mono ?_
    rintro e w5 ⟨rfl, hb5⟩
    go_wp2
    go_ret
    exact ⟨rfl, hB4.trans (hb5.mono hB4.size)⟩
  cases is
  · clear HO
    go_wp2_with (go_at_call 9; refine Sm.stop ?_)
    unfold Sm.Stop
    refine (Wr.alive_calls _).mono ?_
    rintro e w5 ⟨rfl, hb5⟩
    go_wp2
    go_ret
    exact ⟨rfl, hB4.trans (hb5.mono hB4.size)⟩
  obtain ⟨o1, o2, o3, o4⟩ := HO.out rfl rfl
  have hv1 := Sm.conv_str HX4.out Try.underlying22 Try.underlying5 Try.underlying9
  have hv2 := Sm.conv_str HY4.out Try.underlying22 Try.underlying5 Try.underlying9
  clear HO HX4 HY4
  go_wp2
  go_ret
  exact ⟨rfl, hB4⟩

/-! ### THE ROW's STEP -/
set_option maxRecDepth 100000 in
theorem lifted (os : Os) (started : os.Started) (H : Type) (enc : TypeId × Value → H) :
    ReturnsInHanded {} Try.checked os 8 .any (Rows.wireOrderSpec.pre6 enc Try.prog Try.f8 Rows.wireOrderRow.domain false) (Rows.wireOrderSpec.post enc Try.prog Try.f8 false true false false) := by
  refine returnsInHanded_of_change (C := Try.checked) own started (by kernel_rfl) Try.func8
    (ChangeSpec.witness6 (enc := enc) (C := Try.checked) false ⟨#[], #[.int .i64 0, .int .i64 0, .int .u8 0], []⟩ 8 (by kernel_rfl) (by kernel_rfl) (by kernel_rfl) (by kernel_rfl)) ?_
  intro W base args ds gs before hval0 hW hcnd _
  have hval : ∀ (j : Nat) t v, Try.f8.params[j]? = some t → args[j]? = some v → Value.okWide Try.prog W .any base t v := hval0
  have hW' := hW
  obtain ⟨p, q, hA0, hV, rfl, hfz, hnd⟩ := hW
  have hA : DataW.TrodAll enc Try.prog W 0 (fun _ => true) true Try.f8.params.toList args.toList ds p := hA0
  rw [Try.params8] at hA hval
  obtain ⟨v0, vs0, d0, ds0, p0, q0, hargs, rfl, rfl, h0, r0⟩ := trodAll_cons hA
  obtain ⟨v1, vs1, d1, ds1, p1, q1, rfl, rfl, rfl, h1, r1⟩ := trodAll_cons r0
  obtain ⟨v2, vs2, d2, ds2, p2, q2, rfl, rfl, rfl, h2, r2⟩ := trodAll_cons r1
  obtain ⟨rfl, rfl, rfl⟩ := trodAll_nil r2
  obtain rfl : args = #[v0, v1, v2] := by cases args; simp_all
  obtain ⟨rfl, rfl⟩ := trodVars_none hV
  obtain ⟨a0, rfl, rfl, rfl, w0⟩ := open_int Try.underlying2 (hval 0 2 v0 rfl rfl) h0
  obtain ⟨a1, rfl, rfl, rfl, w1⟩ := open_int Try.underlying2 (hval 1 2 v1 rfl rfl) h1
  obtain ⟨a2, rfl, rfl, rfl, w2⟩ := open_int Try.underlying5 (hval 2 5 v2 rfl rfl) h2
  clear hA0 hval0
  refine (walk a0 a1 a2 W w0 w1 w2).mono fun e W' ⟨he, bel⟩ => ?_
  subst he
  exact ⟨_, rfl, _, _, _, [], _, [], hW', trodAll_mk1 (shut_bool Try.underlying4 _), (trodAll_cons_mk (shut_int Try.underlying2 w0) (trodAll_cons_mk (shut_int Try.underlying2 w1) (trodAll_cons_mk (shut_int Try.underlying5 w2) trodAll_mk0))), rfl, bel.frame _, fun h => by cases h⟩

theorem over : Rows.wireOrderRow.holds Try.pinned (OpenSpec.ofChange Rows.wireOrderSpec) :=
  OpenClaim.holds_of_wide 8 Try.f8 rfl rfl rfl rfl rfl rfl rfl ⟨rfl, rfl, rfl, rfl, rfl⟩ rfl rfl rfl rfl rfl (by kernel_rfl) Try.func8 (by kernel_rfl)
    (of_decide_eq_true (by kernel_rfl)) (by unfold Func.isWrapper; first | (rw [if_pos (by decide +kernel)]; kernel_rfl) | (rw [if_neg (by decide +kernel)]; exact ⟨rfl, rfl⟩))
    (fun os started H enc _ => lifted os started H enc)

theorem proved : Rows.WireOrderSaid := over
#print axioms proved
end Go.Proofs.Ytceahjjffnfalaa.wireOrder
