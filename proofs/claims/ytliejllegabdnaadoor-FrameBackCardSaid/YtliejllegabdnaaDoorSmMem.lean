/- The one law for 'append' to a slice of bytes that the call made, whatever it is that is appended (nil, too); bytes that a literal lays. No function of the program in it. -/
import Derived.Test.YtliejllegabdnaaDoorSmKit
namespace Go.Proofs.YtliejllegabdnaaDoor.Sm
open Go.RowKit
set_option maxHeartbeats 400000

/-- where a walk is to stand, so that what follows is said by hand: an arm ends with 'refine stop ?_'. -/
def Stop (p : Prop) : Prop := p
theorem stop {p : Prop} (h : Stop p) : p := h

theorem wpList_append_row {P : Program} (w : World) {ops : Array Oper} {rest : List Oper} {o : Oper} {a : Act} {Q : Exit → Act → World → Prop} (hgd : o.guard = none) (s x : Operand) (t : TypeId)
    (ho : o.op = .call { callee := .builtin .append, args := #[s, x], argTypes := #[t, t] })
    (base : Nat) (e : TypeId) (i : TypeInfo) (z : Value) (ht : P.underlying t = some (.slice e)) (hi : P.info? e = some i) (hz : i.zero = some z) (hsize : i.size = 1) (hby : i.bytes = 1) (hzs : z.cells.size = 1)
    (v : Value) (l : List UInt8) (hs : a.eval s = v) (hown : w.ownsRow base e 1 v l.length (cells8 l))
    (B : Nat) (A : Option Addr) (m c : Nat) (k : List UInt8) (hx : a.eval x = .slice A m c) (hr : Row8 w B A m c k) (hbytes : l.length + m ≤ 140737488355328) (hbase : base ≤ w.heap.size)
    (h : ∀ v' w', w'.ownsRow base e 1 v' (l ++ k).length (cells8 (l ++ k)) → w.grownBy w' v.ownBlock → (∀ g, v.ownBlock = some g → base ≤ g) → wpList P ops Q rest (a.put o.dst v') w') : wpList P ops Q (o :: rest) a w := by
  have hlt : ∀ g, v.ownBlock = some g → base ≤ g := fun g hg => (hown.lt g hg).1
  cases A with
  | none =>
    have hc0 := hr.none_ rfl
    have hm0 : m = 0 := by have := hr.room; omega
    subst hc0 hm0
    have hk : k = [] := List.eq_nil_of_length_eq_zero hr.len
    subst hk
    refine wpList_append_own_none hgd s x t ho base e i 1 ht hi v _ _ hs hown hx ?_
    exact h v w (by simpa using hown) (World.grownBy.refl w _) hlt
  | some ad =>
    refine wpList_append_own w hgd s x t ho base e i z 1 1 ht hi hz hsize hby hzs (by decide) v _ _ hs hown ad m c (cells8 k) hx (by rw [cells8_length, hr.len]; omega) hr.news (cells8_one k)
      (by unfold maxLen; omega) (by omega) hbase ?_
    intro v' w' h1 h2 _
    have hl : l.length + m = (l ++ k).length := by rw [List.length_append, hr.len]
    rw [hl, ← cells8_append] at h1
    exact h v' w' h1 h2 hlt

/-- The bytes that a literal lays in a block of its own. -/
theorem Row8.lit (w : World) (E : TypeId) (cs : Array Value) {fr : Nat × Nat} (l : List UInt8) (n : Nat) (hn : l.length = n) (hm : n ≤ maxLen) (hc : cs.toList = cells8 l) :
    Row8 (w.alloc (.cells cs E fr)) (w.heap.size + 1) (some ⟨w.heap.size, 0, none⟩) n n l := by
  refine ⟨hn, Nat.le_refl _, hm, (fun e => by cases e), fun _ => ⟨_, 0, rfl, by omega, fun i d hi => ?_⟩⟩
  rw [cell_of_row _ w.heap.size (0 + i) cs E fr (heap_alloc_new w _), Nat.zero_add, ← Array.getElem?_toList, hc, cells8_get, hi]
  rfl
end Go.Proofs.YtliejllegabdnaaDoor.Sm
