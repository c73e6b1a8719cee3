/- Several texts in one: SmBox SmChain SmHeld. -/
import Derived.Test.YtaoobnikeicceaaGreatDoorSmA
import Derived.Deep.MidRow
import Derived.BigCall
namespace Go.Proofs.YtaoobnikeicceaaGreatDoor.Sm
open Go.RowKit Go.ChangeShapes Go.WideShapes
set_option maxHeartbeats 400000

/-- Block p holds the cells cs of a variable of type t. -/
def Ob (w : World) (p : Nat) (t : TypeId) (cs : List Value) : Prop := w.heap[p]? = some (.cells cs.toArray t (0, 0))
section
variable {w w' : World} {p B : Nat} {t : TypeId} {cs : List Value}
theorem Ob.lt (h : Ob w p t cs) : p < w.heap.size := (Array.getElem?_eq_some_iff.1 h).1
theorem Ob.cell (h : Ob w p t cs) {i : Nat} {v : Value} (hi : cs[i]? = some v) : w.cell? ⟨p, i, none⟩ = some v := by
  have := cell_of_row w p i cs.toArray t (0, 0) h
  rw [this]
  simpa using hi
theorem Ob.frozen (h : Ob w p t cs) (i : Nat) : w.frozen? ⟨p, i, none⟩ = false := frozen_of_row _ _ _ _ _ h
theorem Ob.below (h : Ob w p t cs) (hb : Below B w w') (hp : p < B) : Ob w' p t cs := (hb.block p hp).trans h
theorem Ob.beside {g : Nat} (h : Ob w p t cs) (hb : Beside g w w') (hp : p ≠ g) : Ob w' p t cs := (hb.block p h.lt hp).trans h
theorem Ob.range (h : Ob w p t cs) : w.rangeAt p 0 cs := fun j v hv => by rw [Nat.zero_add]; exact h.cell hv
theorem Ob.there (h : Ob w p t cs) : w.there p 0 cs.length := fun j hj => by
  rw [Nat.zero_add]
  exact ⟨by rw [h.cell (List.getElem?_eq_getElem hj)]; rfl, h.frozen j⟩
theorem Ob.set (h : Ob w p t cs) (i : Nat) (v : Value) : Ob (w.setCell ⟨p, i, none⟩ v) p t (cs.set i v) := by
  have := heap_setCell_same w p i cs.toArray t v h
  unfold Ob
  rw [this]
  simp
theorem Ob.other {q i : Nat} {v : Value} (h : Ob w p t cs) (hq : p ≠ q) : Ob (w.setCell ⟨q, i, none⟩ v) p t cs := (Below.heap_setCell w ⟨q, i, none⟩ v p hq).trans h
end
/-- W is w with one block more. -/
structure NewB (w W : World) (p : Nat) (t : TypeId) (cs : List Value) : Prop where
  is_ : p = w.heap.size
  below : Below w.heap.size w W
  size : W.heap.size = p + 1
  ob : Ob W p t cs
theorem NewB.of_alloc (w : World) (t : TypeId) (cs : List Value) : NewB w (w.alloc (.cells cs.toArray t)) w.heap.size t cs :=
  ⟨rfl, (Below.refl _ _).alloc (Nat.le_refl _) _, by simp, heap_alloc_new w _⟩
theorem setCells_same (w : World) (p o : Nat) (t : TypeId) : ∀ (vs cs : List Value), Ob w p t cs → o + vs.length ≤ cs.length → Ob (w.setCells p o vs) p t (cs.take o ++ vs ++ cs.drop (o + vs.length)) := by
  intro vs
  induction vs generalizing w o with
  | nil =>
    intro cs h _
    show Ob w p t (cs.take o ++ [] ++ cs.drop (o + 0))
    simpa using h
  | cons v vs ih =>
    intro cs h hl
    rw [List.length_cons] at hl
    have h1 := ih (w.setCell ⟨p, o, none⟩ v) (o + 1) (cs.set o v) (h.set o v) (by rw [List.length_set]; omega)
    have e : (cs.set o v).take (o + 1) = cs.take o ++ [v] := by
      rw [List.take_add_one, List.take_set_of_le (Nat.le_refl _), List.getElem?_set_self (by omega)]
      rfl
    have e2 : (cs.set o v).drop (o + 1 + vs.length) = cs.drop (o + (v :: vs).length) := by
      rw [List.drop_set_of_lt (by omega), List.length_cons]
      congr 1
      omega
    rw [e, e2] at h1
    simpa [World.setCells] using h1
theorem beside_setCells {g : Nat} {a : World} : ∀ (vs : List Value) (o : Nat) (w : World), Beside g a w → Beside g a (w.setCells g o vs)
  | [], _, _, h => h
  | x :: r, o, _, h => beside_setCells r (o + 1) _ (h.setCell o x)
section
variable {P : Program} {ops : Array Oper} {rest : List Oper} {o : Oper} {a : Act} {w : World} {Q : Exit → Act → World → Prop}
/-! where a walk is to stand -/
end
end Go.Proofs.YtaoobnikeicceaaGreatDoor.Sm

namespace Go.Proofs.YtaoobnikeicceaaGreatDoor.Sm
open Go.RowKit Go.ChangeShapes Go.WideShapes
set_option maxHeartbeats 400000

/-- what a frame's slot holds. -/
def sl (a : Act) (i : Nat) : Value := a.tmps.getD i undef
section
variable {a : Act} {d i : Nat} {v : Value}
theorem put_size : (a.put (some d) v).tmps.size = a.tmps.size := by simp [Act.put]
theorem sl_put_same (h : d < a.tmps.size) : sl (a.put (some d) v) d = v := by simp [sl, Act.put, h]
theorem sl_put_ne (h : i ≠ d) : sl (a.put (some d) v) i = sl a i := by
  simp [sl, Act.put, Ne.symm h]
theorem sl_get (h : i < a.tmps.size) : a.tmps[i]? = some (sl a i) := by simp [sl, h]
end
section
variable {P : Program} {ops : Array Oper} {rest : List Oper} {o : Oper} {a : Act} {w : World} {Q : Exit → Act → World → Prop}
theorem wpList_go {v : Value} {w' : World} (hw : Region.wanted o (yielded ops a.tmps) = true) (hrun : (execOp a.eval o).run P w = .ok (.value v) w') (h : wpList P ops Q rest (a.put o.dst v) w') : wpList P ops Q (o :: rest) a w :=
  BigFrame.wpList_want hw fun K hK => by
    unfold Oper.wp
    rw [hrun, Oper.upon_value]
    exact hK _ _ h
end
/-- slots that a step writes are apart, and are not those that are to stay. -/
def apartB (N : Nat) (l stay : List Nat) : Bool := l.all (fun i => decide (i < N)) && decide l.Nodup && stay.all fun i => !l.contains i
theorem apart_stay {N : Nat} {l stay : List Nat} (h : apartB N l stay = true) {i j : Nat} (hi : i ∈ stay) (hj : j ∈ l) : i ≠ j := by
  simp only [apartB, Bool.and_eq_true, List.all_eq_true, decide_eq_true_eq] at h
  have := h.2 i hi
  rintro rfl
  simp [hj] at this
/-- A frame of N slots, of which two hold pointers to structs in blocks p and q. -/
structure Two (a : Act) (N A B p q : Nat) : Prop where
  size : a.tmps.size = N
  one : sl a A = .pointer (some ⟨p, 0, none⟩)
  two : sl a B = .pointer (some ⟨q, 0, none⟩)
  dfr : a.defers = []
theorem Two.put {a : Act} {N A B p q d : Nat} {v : Value} (h : Two a N A B p q) (hA : A ≠ d) (hB : B ≠ d) : Two (a.put (some d) v) N A B p q :=
  ⟨put_size.trans h.size, (sl_put_ne hA).trans h.one, (sl_put_ne hB).trans h.two, h.dfr⟩

section
variable {P : Program} {ops : Array Oper} {rest : List Oper} {a : Act} {w : World} {Q : Exit → Act → World → Prop}
variable {N A B p q c m s1 s2 s3 s4 e r gi j : Nat} {T t tz : TypeId} {x y : Value} {b z : Bool}
variable {t1 t2 t3 t4 t5 t6 t7 : TypeId} {f1 f2 f3 f4 f5 f6 f7 : String} {e1 e2 e3 e4 e5 e6 e7 : Array Edge}
/-- Where a chain stands: the frame's two structs, the slot m that the guard looks at, and that slots but L hold what they held. -/
structure Mid (a0 a : Act) (N A B p q m : Nat) (b : Bool) (L : List Nat) : Prop where
  two : Two a N A B p q
  at_ : sl a m = .bool b
  stay : ∀ i, i ∉ L → sl a i = sl a0 i
theorem Mid.put {a0 : Act} {L : List Nat} {d : Nat} {v : Value} (h : Mid a0 a N A B p q m b L) (hap : apartB N L [A, B, m] = true) (hd : d ∈ L) : Mid a0 (a.put (some d) v) N A B p q m b L :=
  ⟨h.two.put (apart_stay hap (by simp) hd) (apart_stay hap (by simp) hd), (sl_put_ne (apart_stay hap (by simp) hd)).trans h.at_, fun i hi => (sl_put_ne (fun ee => hi (by rw [ee]; exact hd))).trans (h.stay i hi)⟩
end
end Go.Proofs.YtaoobnikeicceaaGreatDoor.Sm

namespace Go.Proofs.YtaoobnikeicceaaGreatDoor.Sm.Held
open Go.RowKit

section
variable {P : Program} {ops : Array Oper} {Q : Exit → Act → World → Prop} {S : World → Prop}
end
end Go.Proofs.YtaoobnikeicceaaGreatDoor.Sm.Held
