/- Slices of bytes that came in, out of an argument's reading: for frames whose arguments are opened by rows 'OPEN'. -/
import Derived.Test.YtceahjjffnfalaaSmKit
namespace Go.Proofs.Ytceahjjffnfalaa.Sm
open Go.RowKit Go.ChangeShapes
theorem Row8.of_trod {H : Type} {enc : TypeId × Value → H} {P : Program} {W : World} {t e : TypeId} {a : Option Addr} {len cap : Nat} {d : DataW H} {p : List MemPlace} (ht : P.underlying t = some (.slice e)) (he : P.underlying e = some (.int .u8)) (hc : P.cellsOf e = 1)
    (h : DataW.Trod enc P W 0 (fun _ => true) true t (.slice a len cap) d p) : ∃ l, Row8 W W.heap.size a len cap l := by
  obtain ⟨fuel, hf⟩ := h
  rcases open_ints ht he hc hf with ⟨hcs, _⟩ | ⟨x, n, c, zs, hcs, _, hl, hm, hz, _, hcell, hwz⟩
  · simp [Value.cells] at hcs
    obtain ⟨rfl, rfl, rfl⟩ := hcs
    exact ⟨[], Row8.nil⟩
  · simp [Value.cells] at hcs
    obtain ⟨rfl, rfl, rfl⟩ := hcs
    exact Row8.of_row (.inr ⟨x, rfl, hl, hm, by simpa using hz, hcell, hwz⟩)
end Go.Proofs.Ytceahjjffnfalaa.Sm
