/- Words for slices of slices of bytes that came in. -/
import Derived.Test.YtnfhholdaidpnaaSmMem
import Derived.Deep.Matrix
namespace Go.Proofs.Ytnfhholdaidpnaa.Sm
open Go.RowKit
set_option maxHeartbeats 400000

/-- A slice of n slices of bytes with room for c: they hold the rows ls; all of it lies below block B. -/
structure Rows8 (w : World) (B : Nat) (a : Option Addr) (n c : Nat) (ls : List (List UInt8)) : Prop where
  len : ls.length = n
  room : n ≤ c
  cap : c ≤ maxLen
  cells : 0 < n → ∃ b off, a = some ⟨b, off, none⟩ ∧ b < B ∧ ∀ i l, ls[i]? = some l → ∃ a' c', w.cell? ⟨b, off + i, none⟩ = some (.slice a' l.length c') ∧ Row8 w B a' l.length c' l
theorem Rows8.below {w w' : World} {B : Nat} {a : Option Addr} {n c : Nat} {ls : List (List UInt8)} (h : Rows8 w B a n c ls) (hb : Below B w w') : Rows8 w' B a n c ls :=
  ⟨h.len, h.room, h.cap, fun hn => by
    obtain ⟨b, off, e, hlt, hc⟩ := h.cells hn
    refine ⟨b, off, e, hlt, fun i l hi => ?_⟩
    obtain ⟨a', c', h1, h2⟩ := hc i l hi
    exact ⟨a', c', (hb.cell (p := ⟨b, off + i, none⟩) hlt).trans h1, h2.below hb⟩⟩
theorem Rows8.more {w : World} {B B' : Nat} {a : Option Addr} {n c : Nat} {ls : List (List UInt8)} (h : Rows8 w B a n c ls) (hB : B ≤ B') : Rows8 w B' a n c ls :=
  ⟨h.len, h.room, h.cap, fun hn => by
    obtain ⟨b, off, e, hlt, hc⟩ := h.cells hn
    refine ⟨b, off, e, by omega, fun i l hi => ?_⟩
    obtain ⟨a', c', h1, h2⟩ := hc i l hi
    exact ⟨a', c', h1, h2.more hB⟩⟩
theorem Rows8.later {w w' : World} {a : Option Addr} {n c : Nat} {ls : List (List UInt8)} (h : Rows8 w w.heap.size a n c ls) (hb : Below w.heap.size w w') : Rows8 w' w'.heap.size a n c ls := (h.below hb).more hb.size

theorem Rows8.of_trod {H : Type} {enc : TypeId × Value → H} {P : Program} {W : World} {t e q : TypeId} {a : Option Addr} {len cap : Nat} {d : DataW H} {p : List MemPlace} (ht : P.underlying t = some (.slice e)) (he : P.underlying e = some (.slice q)) (hq : P.underlying q = some (.int .u8))
    (ce : P.cellsOf e = 1) (cq : P.cellsOf q = 1) (h : DataW.Trod enc P W 0 (fun _ => true) true t (.slice a len cap) d p) : ∃ ls, Rows8 W W.heap.size a len cap ls := by
  obtain ⟨fuel, hf⟩ := h
  rcases Deep.open_int_rows ht he hq ce cq hf with ⟨hcs, _⟩ | ⟨x, l, c, A, L, C, Z, hcs, _, hl, hm, _, hr⟩
  · simp [Value.cells] at hcs
    obtain ⟨rfl, rfl, rfl⟩ := hcs
    exact ⟨[], rfl, Nat.le_refl _, by unfold maxLen; omega, fun h => absurd h (by omega)⟩
  · simp [Value.cells] at hcs
    obtain ⟨rfl, rfl, rfl⟩ := hcs
    have each : ∀ r, r < len → ∃ k : List UInt8, k.length = L r ∧ Row8 W W.heap.size (A r) (L r) (C r) k := by
      intro r hlt
      obtain ⟨_, r1, r2, r3, r4, r5, r6⟩ := hr r (by omega)
      cases hA : A r with
      | none =>
        have h0 := r5 hA
        have h1 : L r = 0 := by omega
        rw [h0, h1]
        exact ⟨[], rfl, Row8.nil⟩
      | some y =>
        obtain ⟨k, hk⟩ := Row8.of_row (w := W) (a := some y) (len := L r) (cap := C r) (zs := Z r) (.inr ⟨y, rfl, r1, r2, r3, fun i hi => (r6 y hA).2 i (by omega), r4⟩)
        exact ⟨k, hk.len, hk⟩
    obtain ⟨f, hfr⟩ := Deep.choose_lt each
    refine ⟨(List.range len).map f, by simp, hl, hm, fun hn => ?_⟩
    obtain ⟨b, off, spot⟩ := x
    have h0 := (hr 0 (by omega)).1
    have hspot : spot = none := by simpa [Addr.add] using World.cell?_spot h0
    subst hspot
    have hb : b < W.heap.size := by
      have := block_lt_of_cell h0
      simpa [Addr.add] using this
    refine ⟨b, off, rfl, hb, fun i k hi => ?_⟩
    rw [List.getElem?_map] at hi
    have hilt : i < len := by
      rcases Nat.lt_or_ge i len with h' | h'
      · exact h'
      · rw [List.getElem?_eq_none (by simpa using h')] at hi; cases hi
    rw [List.getElem?_range hilt] at hi
    simp at hi
    subst hi
    have h1 := (hr i (by omega)).1
    have h2 := hfr i hilt
    refine ⟨A i, C i, ?_, ?_⟩
    · rw [h2.1]
      by_cases hi0 : i = 0
      · subst hi0; simpa [Addr.add] using h1
      · simpa [Addr.add, hi0] using h1
    · rw [h2.1]; exact h2.2

/-- the first k rows, one behind the other. -/
def flat (ls : List (List UInt8)) (k : Nat) : List UInt8 := (ls.take k).flatten
theorem flat_zero (ls : List (List UInt8)) : flat ls 0 = [] := by simp [flat]
theorem flat_succ {ls : List (List UInt8)} {k : Nat} {l : List UInt8} (h : ls[k]? = some l) : flat ls (k + 1) = flat ls k ++ l := by
  unfold flat
  rw [List.take_add_one, h]
  simp
end Go.Proofs.Ytnfhholdaidpnaa.Sm
