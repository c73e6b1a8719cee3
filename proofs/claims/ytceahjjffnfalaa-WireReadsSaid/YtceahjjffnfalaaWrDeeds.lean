/- A slice of pairs of whole numbers that came in. -/
import Derived.Test.YtceahjjffnfalaaRows
import Derived.Test.YtceahjjffnfalaaSmMem
import Derived.Deep.SlicePairs
namespace Go.Proofs.Ytceahjjffnfalaa.Wr
open Go.RowKit Go.ChangeShapes Go.WideShapes Go.Proofs.Ytceahjjffnfalaa.Sm
set_option maxHeartbeats 400000

/-- A slice of n pairs of ints with room for c; all of it lies below block B. -/
structure Pairs (w : World) (B : Nat) (a : Option Addr) (n c : Nat) (ls : List (Int × Int)) : Prop where
  len : ls.length = n
  room : n ≤ c
  cap : c ≤ maxLen
  cells : 0 < n → ∃ b off, a = some ⟨b, off, none⟩ ∧ b < B ∧ ∀ i p, ls[i]? = some p → w.cell? ⟨b, off + i * 2, none⟩ = some (.int .i64 p.1) ∧ w.cell? ⟨b, off + i * 2 + 1, none⟩ = some (.int .i64 p.2)
theorem Pairs.below {w w' : World} {B : Nat} {a : Option Addr} {n c : Nat} {ls : List (Int × Int)} (h : Pairs w B a n c ls) (hb : Below B w w') : Pairs w' B a n c ls :=
  ⟨h.len, h.room, h.cap, fun hn => by
    obtain ⟨b, off, e, hlt, hc⟩ := h.cells hn
    refine ⟨b, off, e, hlt, fun i p hi => ?_⟩
    obtain ⟨h1, h2⟩ := hc i p hi
    exact ⟨(hb.cell (p := ⟨b, off + i * 2, none⟩) hlt).trans h1, (hb.cell (p := ⟨b, off + i * 2 + 1, none⟩) hlt).trans h2⟩⟩
theorem Pairs.later {w w' : World} {a : Option Addr} {n c : Nat} {ls : List (Int × Int)} (h : Pairs w w.heap.size a n c ls) (hb : Below w.heap.size w w') : Pairs w' w'.heap.size a n c ls :=
  have h' := h.below hb
  ⟨h'.len, h'.room, h'.cap, fun hn => by
    obtain ⟨b, off, e, hlt, hc⟩ := h'.cells hn
    exact ⟨b, off, e, Nat.lt_of_lt_of_le hlt hb.size, hc⟩⟩
theorem Pairs.of_trod {H : Type} {enc : TypeId × Value → H} {P : Program} {W : World} {t e : TypeId} {f0 f1 : Field} {a : Option Addr} {len cap : Nat} {d : DataW H} {p : List MemPlace} (ht : P.underlying t = some (.slice e)) (he : P.underlying e = some (.struct #[f0, f1]))
    (ce : P.cellsOf e = 2) (o0 : f0.offset = 0) (o1 : f1.offset = 1) (c0 : P.cellsOf f0.type = 1) (c1 : P.cellsOf f1.type = 1) (i0 : P.underlying f0.type = some (.int .i64)) (i1 : P.underlying f1.type = some (.int .i64))
    (h : DataW.Trod enc P W 0 (fun _ => true) true t (.slice a len cap) d p) : ∃ ls, Pairs W W.heap.size a len cap ls := by
  obtain ⟨fuel, hf⟩ := h
  rcases Deep.open_slice_pairs ht he ce o0 o1 c0 c1 hf with ⟨hcs, _⟩ | ⟨x, l, c, m, n, V0, V1, D0, D1, P0, P1, hcs, _, hl, hm, hmm, _, hr⟩
  · simp [Value.cells] at hcs
    obtain ⟨rfl, rfl, rfl⟩ := hcs
    exact ⟨[], rfl, Nat.le_refl _, by unfold maxLen; omega, fun h => absurd h (by omega)⟩
  · simp [Value.cells] at hcs
    obtain ⟨rfl, rfl, rfl⟩ := hcs
    have hmc : m = cap := by simpa using hmm
    have each : ∀ r, r < len → ∃ q : Int × Int, W.cell? (x.add (r * 2)) = some (.int .i64 q.1) ∧ W.cell? (x.add (r * 2 + 1)) = some (.int .i64 q.2) := by
      intro r hlt
      obtain ⟨r1, r2, r3, r4⟩ := hr r (by omega)
      obtain ⟨n0, e0, _⟩ := DataW.trod_int i0 r3
      obtain ⟨n1, e1, _⟩ := DataW.trod_int i1 r4
      simp at e0 e1
      exact ⟨(n0, n1), by rw [r1, e0], by rw [r2, e1]⟩
    obtain ⟨f, hfr⟩ := Deep.choose_lt each
    refine ⟨(List.range len).map f, by simp, hl, hm, fun hn => ?_⟩
    obtain ⟨b, off, spot⟩ := x
    have h0 := (hfr 0 (by omega)).1
    have hspot : spot = none := by simpa [Addr.add] using World.cell?_spot h0
    subst hspot
    have hb : b < W.heap.size := by
      have := block_lt_of_cell h0
      simpa [Addr.add] using this
    refine ⟨b, off, rfl, hb, fun i k hi => ?_⟩
    rw [List.getElem?_map] at hi
    have hilt : i < len := by
      rcases Nat.lt_or_ge i len with h' | h'
      · exact h'
      · rw [List.getElem?_eq_none (by simpa using h')] at hi; cases hi
    rw [List.getElem?_range hilt] at hi
    simp at hi
    subst hi
    obtain ⟨g1, g2⟩ := hfr i hilt
    constructor
    · by_cases hi0 : i = 0
      · subst hi0; simpa [Addr.add] using g1
      · have hi2 : i * 2 ≠ 0 := by omega
        simpa [Addr.add, hi2] using g1
    · simpa [Addr.add, Nat.add_assoc] using g2
end Go.Proofs.Ytceahjjffnfalaa.Wr
