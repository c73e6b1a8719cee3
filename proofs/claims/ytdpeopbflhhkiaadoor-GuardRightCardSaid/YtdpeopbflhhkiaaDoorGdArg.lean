/- A guard as an argument of a law. -/
import Derived.Test.YtdpeopbflhhkiaaDoorPlArg
namespace Go.Proofs.YtdpeopbflhhkiaaDoor.Pl
open Go.ChangeShapes Go.WideShapes Go.ChangeAt Go.RowKit Go.Proofs.YtdpeopbflhhkiaaDoor.Sm Go.Proofs.YtdpeopbflhhkiaaDoor.Dp
set_option maxHeartbeats 4000000
set_option maxRecDepth 100000
set_option linter.unusedVariables false
set_option linter.unusedSimpArgs false
structure Guard where
  on : Bool
  start : Int
  ages : List Int
deriving DecidableEq, Inhabited
def Guard.d (g : Guard) : List D := [D.v (.bool g.on), I g.start, sl' 1 (fun x => [I x]) g.ages]
def Guard.ok (g : Guard) : Prop := Is64 g.start ∧ (∀ x ∈ g.ages, Is64 x) ∧ g.ages.length ≤ maxLen
/-- v is the guard g. -/
def GuardV (w : World) (v : Value) (g : Guard) : Prop := RepC w (fun g => g < w.heap.size) (.r (Guard.d g)) v ∧ g.ok
def shGuard : List Sh := [.bool, .int .i64, .sl [.int .i64]]
theorem shGuard_is : shOf Tryd.prog 5 32 = some shGuard := by kernel_rfl
theorem Fit.b {d : D} (h : Fit .bool d) : ∃ b, d = D.v (.bool b) := by
  cases h with
  | bool b => exact ⟨b, rfl⟩
theorem int_of (ds : List D) (h : Fits [.int .i64] ds) : ∃ n : Int, ds = (fun x => [I x]) n ∧ Is64 n := by
  obtain ⟨hl, hg⟩ := Fits.ints (k := 1) h
  match ds, hl with
  | [d0], _ =>
    obtain ⟨n0, e0, w0⟩ := hg 0 (by decide)
    simp only [List.getElem?_cons_zero, Option.some.injEq] at e0
    subst e0
    exact ⟨n0, rfl, w0⟩
theorem guard_of_trod {H : Type} {enc : TypeId × Value → H} {W : World} {r : Reach} {b0 : Nat} {v : Value} {d : DataW H} {p : List MemPlace} (hv : Value.okWide Tryd.prog W r b0 32 v) (h : DataW.Trod enc Tryd.prog W 0 (fun _ => true) true 32 v d p) : ∃ c, GuardV W v c := by
  obtain ⟨cs, rfl, hsz⟩ := okWide_struct Tryd.underlying32 hv
  obtain ⟨l⟩ := cs
  obtain ⟨fuel, hf⟩ := h
  obtain ⟨ds, hc⟩ := trod_came 5 _ _ fuel _ _ shGuard_is hf
  have hl := hc.fits.len
  match ds, hl with
  | [d0, d1, d2], _ =>
    obtain ⟨b0, rfl⟩ := Fit.b (hc.fits.fit 0 _ d0 rfl rfl)
    obtain ⟨n1, rfl, w1⟩ := Fit.i64 (hc.fits.fit 1 _ d1 rfl rfl)
    obtain ⟨ls, ha1, ha2, ha3⟩ := Fit.list (enc := fun x => [I x]) (Ok := Is64) (hc.fits.fit 2 _ d2 rfl rfl) int_of
    refine ⟨⟨b0, n1, ls⟩, ?_, w1, ha1, ha2⟩
    have hlen : l.length = 3 := hc.len
    refine .r hlen fun j d v h1 h2 => ?_
    have h2' : (Value.agg l.toArray).cells.toList[j]? = some v := h2
    match j with
    | 2 =>
      have e : sl' 1 (fun x => [I x]) ls = d := Option.some.inj h1
      rw [← e]
      exact ha3 _ _ _ (hc.rep 2 d2 v rfl h2')
    | 0 => exact hc.rep 0 d v h1 h2'
    | 1 => exact hc.rep 1 d v h1 h2'
    | j + 3 => exact absurd (show j + 3 < 3 from (List.getElem?_eq_some_iff.1 h1).1) (by omega)
end Go.Proofs.YtdpeopbflhhkiaaDoor.Pl
