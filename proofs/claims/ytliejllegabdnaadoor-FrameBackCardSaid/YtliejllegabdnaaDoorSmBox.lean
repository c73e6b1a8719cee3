/- Structs in memory: a new variable, a load and a store of a whole struct, with the world behind each a letter. No function of the program in it. -/
import Derived.Test.YtliejllegabdnaaDoorSmCut
import Derived.Deep.MidRow
import Derived.Great.Ranges
namespace Go.Proofs.YtliejllegabdnaaDoor.Sm
open Go.RowKit Go.ChangeShapes Go.WideShapes
set_option maxHeartbeats 400000

/-- Block p holds the cells cs of a variable of type t. -/
def Ob (w : World) (p : Nat) (t : TypeId) (cs : List Value) : Prop := w.heap[p]? = some (.cells cs.toArray t (0, 0))
section
variable {w w' : World} {p B : Nat} {t : TypeId} {cs : List Value}
theorem Ob.lt (h : Ob w p t cs) : p < w.heap.size := (Array.getElem?_eq_some_iff.1 h).1
theorem Ob.cell (h : Ob w p t cs) {i : Nat} {v : Value} (hi : cs[i]? = some v) : w.cell? ⟨p, i, none⟩ = some v := by
  have := cell_of_row w p i cs.toArray t (0, 0) h
  rw [this]
  simpa using hi
theorem Ob.frozen (h : Ob w p t cs) (i : Nat) : w.frozen? ⟨p, i, none⟩ = false := frozen_of_row _ _ _ _ _ h
theorem Ob.below (h : Ob w p t cs) (hb : Below B w w') (hp : p < B) : Ob w' p t cs := (hb.block p hp).trans h
theorem Ob.beside {g : Nat} (h : Ob w p t cs) (hb : Beside g w w') (hp : p ≠ g) : Ob w' p t cs := (hb.block p h.lt hp).trans h
theorem Ob.drewN (h : Ob w p t cs) (n : Nat) : Ob (w.drewN n) p t cs := h
theorem Ob.range (h : Ob w p t cs) : w.rangeAt p 0 cs := fun j v hv => by rw [Nat.zero_add]; exact h.cell hv
theorem Ob.there (h : Ob w p t cs) : w.there p 0 cs.length := fun j hj => by
  rw [Nat.zero_add]
  exact ⟨by rw [h.cell (List.getElem?_eq_getElem hj)]; rfl, h.frozen j⟩
theorem Ob.set (h : Ob w p t cs) (i : Nat) (v : Value) : Ob (w.setCell ⟨p, i, none⟩ v) p t (cs.set i v) := by
  have := heap_setCell_same w p i cs.toArray t v h
  unfold Ob
  rw [this]
  simp
theorem Ob.other {q i : Nat} {v : Value} (h : Ob w p t cs) (hq : p ≠ q) : Ob (w.setCell ⟨q, i, none⟩ v) p t cs := (Below.heap_setCell w ⟨q, i, none⟩ v p hq).trans h
end
/-- W is w with one block more. -/
structure NewB (w W : World) (p : Nat) (t : TypeId) (cs : List Value) : Prop where
  is_ : p = w.heap.size
  below : Below w.heap.size w W
  size : W.heap.size = p + 1
  ob : Ob W p t cs
theorem NewB.of_alloc (w : World) (t : TypeId) (cs : List Value) : NewB w (w.alloc (.cells cs.toArray t)) w.heap.size t cs :=
  ⟨rfl, (Below.refl _ _).alloc (Nat.le_refl _) _, by simp, heap_alloc_new w _⟩
theorem setCells_same (w : World) (p o : Nat) (t : TypeId) : ∀ (vs cs : List Value), Ob w p t cs → o + vs.length ≤ cs.length → Ob (w.setCells p o vs) p t (cs.take o ++ vs ++ cs.drop (o + vs.length)) := by
  intro vs
  induction vs generalizing w o with
  | nil =>
    intro cs h _
    show Ob w p t (cs.take o ++ [] ++ cs.drop (o + 0))
    simpa using h
  | cons v vs ih =>
    intro cs h hl
    rw [List.length_cons] at hl
    have h1 := ih (w.setCell ⟨p, o, none⟩ v) (o + 1) (cs.set o v) (h.set o v) (by rw [List.length_set]; omega)
    have e : (cs.set o v).take (o + 1) = cs.take o ++ [v] := by
      rw [List.take_add_one, List.take_set_of_le (Nat.le_refl _), List.getElem?_set_self (by omega)]
      rfl
    have e2 : (cs.set o v).drop (o + 1 + vs.length) = cs.drop (o + (v :: vs).length) := by
      rw [List.drop_set_of_lt (by omega), List.length_cons]
      congr 1
      omega
    rw [e, e2] at h1
    simpa [World.setCells] using h1
theorem beside_setCells {g : Nat} {a : World} : ∀ (vs : List Value) (o : Nat) (w : World), Beside g a w → Beside g a (w.setCells g o vs)
  | [], _, _, h => h
  | x :: r, o, _, h => beside_setCells r (o + 1) _ (h.setCell o x)
theorem size_setCells (g : Nat) : ∀ (vs : List Value) (o : Nat) (w : World), (w.setCells g o vs).heap.size = w.heap.size
  | [], _, _ => rfl
  | x :: r, o, w => (size_setCells g r (o + 1) (w.setCell ⟨g, o, none⟩ x)).trans (by simp)

section
variable {P : Program} {ops : Array Oper} {rest : List Oper} {o : Oper} {a : Act} {w : World} {Q : Exit → Act → World → Prop}
/-! where a walk is to stand -/
theorem at_box {t : TypeId} {x : Operand} (_ : o.op = .box t x) (h : Stop (wpList P ops Q (o :: rest) a w)) : wpList P ops Q (o :: rest) a w := h
theorem at_alloc {t : TypeId} (_ : o.op = .alloc t) (h : Stop (wpList P ops Q (o :: rest) a w)) : wpList P ops Q (o :: rest) a w := h
theorem at_store {t : TypeId} {x y : Operand} (_ : o.op = .store t x y) (h : Stop (wpList P ops Q (o :: rest) a w)) : wpList P ops Q (o :: rest) a w := h
theorem at_load {t : TypeId} {x : Operand} (_ : o.op = .load t x) (h : Stop (wpList P ops Q (o :: rest) a w)) : wpList P ops Q (o :: rest) a w := h
/-- a new variable that holds a struct. -/
theorem wpList_box_any (hg : o.guard = none) (t : TypeId) (x : Operand) (ho : o.op = .box t x) (cs : List Value) (hx : a.eval x = .agg cs.toArray)
    (h : ∀ p W, NewB w W p t cs → wpList P ops Q rest (a.put o.dst (.pointer (some ⟨p, 0, none⟩))) W) : wpList P ops Q (o :: rest) a w :=
  Great.wpList_boxTo hg t x ho o.dst rfl w.heap.size rfl cs.toArray (by rw [hx]; rfl) (h _ _ (NewB.of_alloc w t cs))
/-- a new variable, its type's zero in it. -/
theorem wpList_alloc_any (hg : o.guard = none) (t : TypeId) (ho : o.op = .alloc t) (cs : List Value) (hz : ∀ u, (zeroValue t).run P u = .ok (.agg cs.toArray) u)
    (h : ∀ p W, NewB w W p t cs → wpList P ops Q rest (a.put o.dst (.pointer (some ⟨p, 0, none⟩))) W) : wpList P ops Q (o :: rest) a w := by
  refine wpList_plain hg fun K hK => ?_
  unfold Oper.wp execOp
  simp only [ho, Sem.run_bind, Instr.alloc, hz, newVar, newRow, run_newObj_alloc, Sem.run_pure, Result.andThen_ok, Value.cells]
  exact hK _ _ (h _ _ (NewB.of_alloc w t cs))
/-- a whole struct is loaded. -/
theorem wpList_load_ob (hg : o.guard = none) (t : TypeId) (x : Operand) (ho : o.op = .load t x) (p : Nat) (cs : List Value) (hp : Ob w p t cs) (hx : a.eval x = .pointer (some ⟨p, 0, none⟩)) {d : TypeDesc}
    (hu : P.underlying t = some d) (hd : d.isRow = true) (hi : (P.info? t).map (·.size) = some cs.length)
    (h : wpList P ops Q rest (a.put o.dst (.agg cs.toArray)) w) : wpList P ops Q (o :: rest) a w :=
  wpList_load_mid hg t x ho p 0 hx cs d hp.range hu hd hi h
/-- a whole struct is stored. -/
theorem wpList_store_ob (hg : o.guard = none) (t : TypeId) (x y : Operand) (ho : o.op = .store t x y) (p : Nat) (cs vs : List Value) (hp : Ob w p t cs) (hx : a.eval x = .pointer (some ⟨p, 0, none⟩)) (hy : a.eval y = .agg vs.toArray)
    (hl : vs.length = cs.length) (hi : (P.info? t).map (·.size) = some cs.length) (h1 : ∀ v ∈ vs, v.oneCell' = true)
    (h : ∀ W, Beside p w W → W.heap.size = w.heap.size → Ob W p t vs → wpList P ops Q rest (a.put o.dst undef) W) : wpList P ops Q (o :: rest) a w := by
  refine wpList_store_mid hg t x y ho p 0 vs.toArray hx hy (by rw [List.size_toArray, hl]; exact hp.there) (by rw [List.size_toArray, hl]; exact hi) (all_oneCell_toArray h1) ?_
  refine h _ (beside_setCells _ _ _ (Beside.refl _ _)) ?_ ?_
  · exact size_setCells _ _ _ _
  · have := setCells_same w p 0 t vs cs hp (by omega)
    simpa [hl] using this
end
/-- a function whose result is a struct in a variable of its own. -/
theorem results_cell_ob {P : Program} {fn : Func} {p : Tmp} {ty : TypeId} (h : fn.results = #[.cell p ty]) (tmps : Array Value) (w : World) (g : Nat) (cs : List Value) {d : TypeDesc}
    (hp : tmps.getD p undef = .pointer (some ⟨g, 0, none⟩)) (hc : Ob w g ty cs) (hu : P.underlying ty = some d) (hd : d.isRow = true) (hi : (P.info? ty).map (·.size) = some cs.length) :
    (results fn tmps).run P w = .ok (.agg cs.toArray) w := by
  have hp' : tmps[p]?.getD undef = .pointer (some ⟨g, 0, none⟩) := by simpa using hp
  simp [results, h, hp', asAddr, run_loadVar_mid w g 0 ty cs d hc.range hu hd hi]
theorem results_cell_two {P : Program} {fn : Func} {p t : Tmp} {ty : TypeId} (h : fn.results = #[.cell p ty, .tmp t]) (tmps : Array Value) (w : World) (g : Nat) (cs : List Value) {d : TypeDesc}
    (hp : tmps.getD p undef = .pointer (some ⟨g, 0, none⟩)) (hc : Ob w g ty cs) (hu : P.underlying ty = some d) (hd : d.isRow = true) (hi : (P.info? ty).map (·.size) = some cs.length) :
    (results fn tmps).run P w = .ok (.tuple #[.agg cs.toArray, tmps.getD t undef]) w := by
  have hp' : tmps[p]?.getD undef = .pointer (some ⟨g, 0, none⟩) := by simpa using hp
  simp [results, h, hp', asAddr, run_loadVar_mid w g 0 ty cs d hc.range hu hd hi]
end Go.Proofs.YtliejllegabdnaaDoor.Sm
