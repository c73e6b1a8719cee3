/- Errors of package frame: what errors.Is and errors.As answer of a fault that wraps one of the package's own errors, and of none; frame.number and frame.place. errors.Is and errors.As by their own text; reflectlite by the model's entries. -/
import Derived.Test.YtfpgdimgffamoaaGreatDoorSmA
import Derived.WalkKit
import Derived.LaidEql
import Derived.Stop.Asserts
import Derived.RowKitTokens
namespace Go.Proofs.YtfpgdimgffamoaaGreatDoor.Fr
open Go.RowKit Go.Extern.Stop Go.Stop Go.Extern Go.Proofs.YtfpgdimgffamoaaGreatDoor.Sm
set_option maxHeartbeats 400000
set_option maxRecDepth 100000

/-! ### closed facts on the types -/
theorem isTypeOf (v : Value) (w : World) : (Extern.ReflectliteType.typeOf #[.iface 133 v]).run Tryz.prog w = .ok (.iface 115 (.agg #[.pointer (some ⟨6, 133, none⟩)])) w := by kernel_rfl
/-- what the model runs for (rtype).Comparable: its entry, taken from its own table. -/
noncomputable def cmpE : Array Value → Sem Value := (Extern.find Tryz.f113).getD fun _ => pure undef
theorem isComparable (w : World) : (cmpE #[.agg #[.pointer (some ⟨6, 133, none⟩)]]).run Tryz.prog w = .ok (.bool true) w := by kernel_rfl
theorem isMethodComparable (v : Value) (w : World) : (Go.method 265 115 v "Comparable").run Tryz.prog w = .ok (113, v) w := by kernel_rfl
theorem isComp : (Tryz.prog.info? 133).map (·.comparable) = some true := by kernel_rfl
theorem isSize : (Tryz.prog.info? 153).map (·.size) = some 1 := by kernel_rfl
theorem noIsE (v : Value) (xT : TypeId) (w : World) : (Instr.typeAssert (.iface 133 v) xT 117 true).run Tryz.prog w = .ok (.tuple #[.nilIface, .bool false]) w := run_typeAssert_lacksB Tryz.underlying117 (by kernel_rfl) (by kernel_rfl) v xT w
theorem noUnwrapE (v : Value) (xT : TypeId) (w : World) : (Instr.typeAssert (.iface 133 v) xT 120 true).run Tryz.prog w = .ok (.tuple #[.nilIface, .bool false]) w := run_typeAssert_lacksB Tryz.underlying120 (by kernel_rfl) (by kernel_rfl) v xT w
theorem noUnwrapsE (v : Value) (xT : TypeId) (w : World) : (Instr.typeAssert (.iface 133 v) xT 122 true).run Tryz.prog w = .ok (.tuple #[.nilIface, .bool false]) w := run_typeAssert_lacksB Tryz.underlying122 (by kernel_rfl) (by kernel_rfl) v xT w
theorem noIsW (v : Value) (xT : TypeId) (w : World) : (Instr.typeAssert (.iface 56 v) xT 117 true).run Tryz.prog w = .ok (.tuple #[.nilIface, .bool false]) w := run_typeAssert_lacksB Tryz.underlying117 (by kernel_rfl) (by kernel_rfl) v xT w
theorem hasUnwrapW (v : Value) (xT : TypeId) (w : World) : (Instr.typeAssert (.iface 56 v) xT 120 true).run Tryz.prog w = .ok (.tuple #[.iface 56 v, .bool true]) w := run_typeAssert_hasB Tryz.underlying120 (by kernel_rfl) v xT w
theorem methodUnwrap (v : Value) (w : World) : (Go.method 265 56 v "Unwrap").run Tryz.prog w = .ok (107, v) w := by kernel_rfl

/-- errors.Is of a fault that wraps x, and x. -/
theorem is_wrap_same (pb : Nat) (b : Addr) (w : World) (h1 : w.cell? ⟨pb, 0, none⟩ = some (.iface 133 (.pointer (some b)))) :
    Calls Tryz.prog 25 #[.iface 56 (.pointer (some ⟨pb, 0, none⟩)), .iface 133 (.pointer (some b))] w fun e w' => e = .returned (.bool true) ∧ w = w' := by
  obtain ⟨i, hi, hcmp⟩ := Option.map_eq_some_iff.1 isComp
  obtain ⟨j, hj, hjs⟩ := Option.map_eq_some_iff.1 isSize
  have h8 := @run_callFunc_extern Tryz.prog 42 _ Extern.ReflectliteType.typeOf Tryz.func42 (by kernel_rfl) (by kernel_rfl) (by kernel_rfl) (by kernel_rfl)
  have h32 := @run_callFunc_extern Tryz.prog 113 _ cmpE Tryz.func113 (by kernel_rfl) (by kernel_rfl) (by kernel_rfl) (by kernel_rfl)
  have tT := isTypeOf
  have cT := isComparable
  have mR := isMethodComparable
  have nE := noIsE
  have uE := noUnwrapE
  have vE := noUnwrapsE
  have nW := noIsW
  have uW := hasUnwrapW
  have mU := methodUnwrap
  have heq := run_eql_iface_ptr_same (P := Tryz.prog) w b Tryz.underlying43 Tryz.underlying133 hi hcmp hj
  have hty := run_eql_iface_types (P := Tryz.prog) 56 133 (.pointer (some ⟨pb, 0, none⟩)) (.pointer (some b)) Tryz.underlying43 (by decide) w
  go_enter Tryz.func25, Tryz.ntmps25
  go_wp2
  refine wp_loop_rounds 2 ?_
  rw [rounds_succ]
  go_wp2
  rw [rounds_succ]
  go_wp2
  go_ret
  exact ⟨rfl, rfl⟩
/-- errors.Is of a fault that wraps another one. -/
theorem is_wrap_other (pb : Nat) (b a : Addr) (w : World) (h1 : w.cell? ⟨pb, 0, none⟩ = some (.iface 133 (.pointer (some a)))) (hne : a ≠ b) (ha : ∃ ca ta, w.heap[a.block]? = some (.cells ca ta (0, 0))) (hb : ∃ cb tb, w.heap[b.block]? = some (.cells cb tb (0, 0))) :
    Calls Tryz.prog 25 #[.iface 56 (.pointer (some ⟨pb, 0, none⟩)), .iface 133 (.pointer (some b))] w fun e w' => e = .returned (.bool false) ∧ w = w' := by
  obtain ⟨ca, ta, ha⟩ := ha
  obtain ⟨cb, tb, hb⟩ := hb
  obtain ⟨i, hi, hcmp⟩ := Option.map_eq_some_iff.1 isComp
  obtain ⟨j, hj, hjs⟩ := Option.map_eq_some_iff.1 isSize
  have h8 := @run_callFunc_extern Tryz.prog 42 _ Extern.ReflectliteType.typeOf Tryz.func42 (by kernel_rfl) (by kernel_rfl) (by kernel_rfl) (by kernel_rfl)
  have h32 := @run_callFunc_extern Tryz.prog 113 _ cmpE Tryz.func113 (by kernel_rfl) (by kernel_rfl) (by kernel_rfl) (by kernel_rfl)
  have tT := isTypeOf
  have cT := isComparable
  have mR := isMethodComparable
  have nE := noIsE
  have uE := noUnwrapE
  have vE := noUnwrapsE
  have nW := noIsW
  have uW := hasUnwrapW
  have mU := methodUnwrap
  have heq := run_eql_iface_ptr_other (P := Tryz.prog) w Tryz.underlying43 Tryz.underlying133 hi hcmp hj (by rw [hjs]; decide) hne ha hb
  have hty := run_eql_iface_types (P := Tryz.prog) 56 133 (.pointer (some ⟨pb, 0, none⟩)) (.pointer (some b)) Tryz.underlying43 (by decide) w
  clear ha hb
  go_enter Tryz.func25, Tryz.ntmps25
  go_wp2
  refine wp_loop_rounds 2 ?_
  rw [rounds_succ]
  go_wp2
  rw [rounds_succ]
  go_wp2
  go_ret
  exact ⟨rfl, rfl⟩

/-! ### the package's own errors -/
structure Sn where
  short : Addr
  sum : Addr
  kind : Addr
  long : Addr
  form : Addr
def Sn.of (S : Sn) (e : Int) : Addr := if e = 2 then S.short else if e = 4 then S.sum else if e = 5 then S.kind else if e = 3 then S.long else S.form
/-- the package's variables hold five errors, each behind a pointer of its own; errors.errorType holds the type 'error'. All of it lies below block B. -/
structure Sents (w : World) (B : Nat) (S : Sn) : Prop where
  cShort : w.cell? ⟨0, 0, none⟩ = some (.iface 133 (.pointer (some S.short)))
  cSum : w.cell? ⟨1, 0, none⟩ = some (.iface 133 (.pointer (some S.sum)))
  cKind : w.cell? ⟨2, 0, none⟩ = some (.iface 133 (.pointer (some S.kind)))
  cLong : w.cell? ⟨3, 0, none⟩ = some (.iface 133 (.pointer (some S.long)))
  cForm : w.cell? ⟨5, 0, none⟩ = some (.iface 133 (.pointer (some S.form)))
  cType : w.cell? ⟨4, 0, none⟩ = some (.iface 115 (.agg #[.pointer (some ⟨6, 43, none⟩)]))
  low : 6 ≤ B
  rows : ∀ e, (S.of e).block < B ∧ ∃ c t, w.heap[(S.of e).block]? = some (.cells c t (0, 0))
  nd : [S.short, S.sum, S.kind, S.long, S.form].Nodup
theorem Sents.below {w w' : World} {B : Nat} {S : Sn} (h : Sents w B S) (hb : Below B w w') : Sents w' B S := by
  have hl := h.low
  refine ⟨?_, ?_, ?_, ?_, ?_, ?_, hl, fun e => ?_, h.nd⟩
  · rw [hb.cell (Nat.lt_of_lt_of_le (by decide) hl)]; exact h.cShort
  · rw [hb.cell (Nat.lt_of_lt_of_le (by decide) hl)]; exact h.cSum
  · rw [hb.cell (Nat.lt_of_lt_of_le (by decide) hl)]; exact h.cKind
  · rw [hb.cell (Nat.lt_of_lt_of_le (by decide) hl)]; exact h.cLong
  · rw [hb.cell (Nat.lt_of_lt_of_le (by decide) hl)]; exact h.cForm
  · rw [hb.cell (Nat.lt_of_lt_of_le (by decide) hl)]; exact h.cType
  · obtain ⟨h1, c, t, h2⟩ := h.rows e
    exact ⟨h1, c, t, (hb.block _ h1).trans h2⟩
theorem Sents.more {w : World} {B B' : Nat} {S : Sn} (h : Sents w B S) (hB : B ≤ B') : Sents w B' S :=
  ⟨h.cShort, h.cSum, h.cKind, h.cLong, h.cForm, h.cType, by have := h.low; omega, fun e => ⟨by have := (h.rows e).1; omega, (h.rows e).2⟩, h.nd⟩
theorem Sents.later {w w' : World} {S : Sn} (h : Sents w w.heap.size S) (hb : Below w.heap.size w w') : Sents w' w'.heap.size S := (h.below hb).more hb.size
theorem Sents.drewN {w : World} {B : Nat} {S : Sn} (h : Sents w B S) (k : Nat) : Sents (w.drewN k) B S := ⟨h.cShort, h.cSum, h.cKind, h.cLong, h.cForm, h.cType, h.low, h.rows, h.nd⟩
/-- v is a fault: error e, at this place. -/
def FaultV (w : World) (B : Nat) (S : Sn) (v : Value) (e : Int) (at_ : Int) : Prop :=
  ∃ b, v = .iface 56 (.pointer (some ⟨b, 0, none⟩)) ∧ b < B ∧ w.cell? ⟨b, 0, none⟩ = some (.iface 133 (.pointer (some (S.of e)))) ∧ w.cell? ⟨b, 1, none⟩ = some (.int .i64 at_) ∧ (e = 2 ∨ e = 3 ∨ e = 4 ∨ e = 5 ∨ e = 6)
theorem FaultV.below {w w' : World} {B : Nat} {S : Sn} {v : Value} {e at_ : Int} (h : FaultV w B S v e at_) (hb : Below B w w') : FaultV w' B S v e at_ := by
  obtain ⟨b, e1, e2, e3, e4, e5⟩ := h
  exact ⟨b, e1, e2, by rw [hb.cell e2]; exact e3, by rw [hb.cell e2]; exact e4, e5⟩
theorem FaultV.more {w : World} {B B' : Nat} {S : Sn} {v : Value} {e at_ : Int} (h : FaultV w B S v e at_) (hB : B ≤ B') : FaultV w B' S v e at_ := by
  obtain ⟨b, e1, e2, e3⟩ := h
  exact ⟨b, e1, by omega, e3⟩
/-- none, or a fault. -/
def ErrV (w : World) (B : Nat) (S : Sn) (v : Value) : Option (Int × Nat) → Prop
  | none => v = .nilIface
  | some x => FaultV w B S v x.1 x.2
theorem ErrV.below {w w' : World} {B : Nat} {S : Sn} {v : Value} {x : Option (Int × Nat)} (h : ErrV w B S v x) (hb : Below B w w') : ErrV w' B S v x := by
  cases x with
  | none => exact h
  | some x => exact FaultV.below h hb
theorem ErrV.more {w : World} {B B' : Nat} {S : Sn} {v : Value} {x : Option (Int × Nat)} (h : ErrV w B S v x) (hB : B ≤ B') : ErrV w B' S v x := by
  cases x with
  | none => exact h
  | some x => exact FaultV.more h hB
def noOf : Option (Int × Nat) → Int
  | none => 0
  | some x => x.1
def atOf : Option (Int × Nat) → Nat
  | none => 0
  | some x => x.2

theorem number_nil (w : World) : Calls Tryz.prog 15 #[.nilIface] w fun r w' => r = .returned (.int .i64 0) ∧ w = w' := by
  go_enter Tryz.func15, Tryz.ntmps15
  go_wp2
  go_ret
  exact ⟨rfl, rfl⟩
theorem number_fault (S : Sn) (B : Nat) (v : Value) (e at_ : Int) (w : World) (hS : Sents w B S) (hv : FaultV w B S v e at_) :
    Calls Tryz.prog 15 #[v] w fun r w' => r = .returned (.int .i64 e) ∧ w = w' := by
  obtain ⟨b, rfl, hb, h0, h1, he⟩ := hv
  have hn := hS.nd
  simp only [List.nodup_cons, List.mem_cons, List.not_mem_nil, or_false, not_or] at hn
  obtain ⟨⟨n1, n2, n3, n4⟩, ⟨n5, n6, n7⟩, ⟨n8, n9⟩, n10, _⟩ := hn
  have c1 := hS.cShort
  have c2 := hS.cSum
  have c3 := hS.cKind
  have c4 := hS.cLong
  have r2 := (hS.rows 2).2
  have r3 := (hS.rows 3).2
  have r4 := (hS.rows 4).2
  have r5 := (hS.rows 5).2
  have r6 := (hS.rows 6).2
  have e2 : S.of 2 = S.short := rfl
  have e3 : S.of 3 = S.long := rfl
  have e4 : S.of 4 = S.sum := rfl
  have e5 : S.of 5 = S.kind := rfl
  have e6 : S.of 6 = S.form := rfl
  rw [e2] at r2
  rw [e3] at r3
  rw [e4] at r4
  rw [e5] at r5
  rw [e6] at r6
  generalize S.short = s2 at *
  generalize S.long = s3 at *
  generalize S.sum = s4 at *
  generalize S.kind = s5 at *
  generalize S.form = s6 at *
  clear hS
  rcases he with rfl | rfl | rfl | rfl | rfl
  · rw [e2] at h0
    have R := hid (is_wrap_same b s2 w h0)
    clear h0 e2 e3 e4 e5 e6 r2 r3 r4 r5 r6 n1 n2 n3 n4 n5 n6 n7 n8 n9 n10
    go_enter Tryz.func15, Tryz.ntmps15
    go_wp2_with (go_at_call 25; refine (R.out).mono ?_; rintro e w' ⟨rfl, rfl⟩)
    go_ret
    exact ⟨rfl, rfl⟩
  · rw [e3] at h0
    have R2 := hid (is_wrap_other b s2 s3 w h0 (fun h => n3 h.symm) r3 r2)
    have R4 := hid (is_wrap_other b s4 s3 w h0 (fun h => n6 h.symm) r3 r4)
    have R5 := hid (is_wrap_other b s5 s3 w h0 (fun h => n8 h.symm) r3 r5)
    have R3 := hid (is_wrap_same b s3 w h0)
    clear h0 e2 e3 e4 e5 e6 r2 r3 r4 r5 r6 n1 n2 n3 n4 n5 n6 n7 n8 n9 n10
    go_enter Tryz.func15, Tryz.ntmps15
    go_wp2_with (go_at_call 25; refine stop ?_)
    unfold Stop
    refine (R2.out).mono ?_
    rintro e w' ⟨rfl, rfl⟩
    go_wp2_with (go_at_call 25; refine stop ?_)
    unfold Stop
    refine (R4.out).mono ?_
    rintro e w' ⟨rfl, rfl⟩
    go_wp2_with (go_at_call 25; refine stop ?_)
    unfold Stop
    refine (R5.out).mono ?_
    rintro e w' ⟨rfl, rfl⟩
    go_wp2_with (go_at_call 25; refine stop ?_)
    unfold Stop
    refine (R3.out).mono ?_
    rintro e w' ⟨rfl, rfl⟩
    go_wp2
    go_ret
    exact ⟨rfl, rfl⟩
  · rw [e4] at h0
    have R2 := hid (is_wrap_other b s2 s4 w h0 (fun h => n1 h.symm) r4 r2)
    have R4 := hid (is_wrap_same b s4 w h0)
    clear h0 e2 e3 e4 e5 e6 r2 r3 r4 r5 r6 n1 n2 n3 n4 n5 n6 n7 n8 n9 n10
    go_enter Tryz.func15, Tryz.ntmps15
    go_wp2_with (go_at_call 25; refine stop ?_)
    unfold Stop
    refine (R2.out).mono ?_
    rintro e w' ⟨rfl, rfl⟩
    go_wp2_with (go_at_call 25; refine stop ?_)
    unfold Stop
    refine (R4.out).mono ?_
    rintro e w' ⟨rfl, rfl⟩
    go_wp2
    go_ret
    exact ⟨rfl, rfl⟩
  · rw [e5] at h0
    have R2 := hid (is_wrap_other b s2 s5 w h0 (fun h => n2 h.symm) r5 r2)
    have R4 := hid (is_wrap_other b s4 s5 w h0 (fun h => n5 h.symm) r5 r4)
    have R5 := hid (is_wrap_same b s5 w h0)
    clear h0 e2 e3 e4 e5 e6 r2 r3 r4 r5 r6 n1 n2 n3 n4 n5 n6 n7 n8 n9 n10
    go_enter Tryz.func15, Tryz.ntmps15
    go_wp2_with (go_at_call 25; refine stop ?_)
    unfold Stop
    refine (R2.out).mono ?_
    rintro e w' ⟨rfl, rfl⟩
    go_wp2_with (go_at_call 25; refine stop ?_)
    unfold Stop
    refine (R4.out).mono ?_
    rintro e w' ⟨rfl, rfl⟩
    go_wp2_with (go_at_call 25; refine stop ?_)
    unfold Stop
    refine (R5.out).mono ?_
    rintro e w' ⟨rfl, rfl⟩
    go_wp2
    go_ret
    exact ⟨rfl, rfl⟩
  · rw [e6] at h0
    have R2 := hid (is_wrap_other b s2 s6 w h0 (fun h => n4 h.symm) r6 r2)
    have R4 := hid (is_wrap_other b s4 s6 w h0 (fun h => n7 h.symm) r6 r4)
    have R5 := hid (is_wrap_other b s5 s6 w h0 (fun h => n9 h.symm) r6 r5)
    have R3 := hid (is_wrap_other b s3 s6 w h0 (fun h => n10 h.symm) r6 r3)
    clear h0 e2 e3 e4 e5 e6 r2 r3 r4 r5 r6 n1 n2 n3 n4 n5 n6 n7 n8 n9 n10
    go_enter Tryz.func15, Tryz.ntmps15
    go_wp2_with (go_at_call 25; refine stop ?_)
    unfold Stop
    refine (R2.out).mono ?_
    rintro e w' ⟨rfl, rfl⟩
    go_wp2_with (go_at_call 25; refine stop ?_)
    unfold Stop
    refine (R4.out).mono ?_
    rintro e w' ⟨rfl, rfl⟩
    go_wp2_with (go_at_call 25; refine stop ?_)
    unfold Stop
    refine (R5.out).mono ?_
    rintro e w' ⟨rfl, rfl⟩
    go_wp2_with (go_at_call 25; refine stop ?_)
    unfold Stop
    refine (R3.out).mono ?_
    rintro e w' ⟨rfl, rfl⟩
    go_wp2
    go_ret
    exact ⟨rfl, rfl⟩
theorem number_calls (S : Sn) (B : Nat) (v : Value) (x : Option (Int × Nat)) (w : World) (hS : Sents w B S) (hv : ErrV w B S v x) :
    Calls Tryz.prog 15 #[v] w fun r w' => r = .returned (.int .i64 (noOf x)) ∧ w = w' := by
  cases x with
  | none => obtain rfl : v = .nilIface := hv; exact number_nil w
  | some x => exact number_fault S B v x.1 x.2 w hS hv
end Go.Proofs.YtfpgdimgffamoaaGreatDoor.Fr
