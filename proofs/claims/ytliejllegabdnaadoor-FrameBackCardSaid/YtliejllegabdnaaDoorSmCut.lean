/- Slices of bytes cut out of slices of bytes; and what stands beside a block that a call may turn. No function of the program in it. -/
import Derived.Test.YtliejllegabdnaaDoorSmMem
namespace Go.Proofs.YtliejllegabdnaaDoor.Sm
open Go.RowKit
set_option maxHeartbeats 400000

/-- where a slice begins that is cut off behind k cells, of a slice with room for c. -/
def cutA (a : Option Addr) (c k : Nat) : Option Addr := if c = k then a else a.map (·.add k)
theorem Row8.cut {w : World} {B : Nat} {a : Option Addr} {n c : Nat} {l : List UInt8} (h : Row8 w B a n c l) {lo hi : Nat} (h1 : lo ≤ hi) (h2 : hi ≤ n) : Row8 w B (cutA a c lo) (hi - lo) (c - lo) ((l.take hi).drop lo) := by
  have hr := h.room
  have hl := h.len
  refine ⟨by rw [List.length_drop, List.length_take]; omega, by omega, by have := h.cap; omega, fun e => ?_, fun hp => ?_⟩
  · have : a = none := by
      unfold cutA at e
      split at e
      · exact e
      · simpa using e
    have := h.none_ this
    omega
  · obtain ⟨b, off, e, hb, hc⟩ := h.cells (by omega)
    subst e
    refine ⟨b, off + lo, ?_, hb, fun i d hi' => ?_⟩
    · unfold cutA
      rw [if_neg (by omega)]
      simp only [Option.map_some, Addr.add]
      by_cases h0 : lo = 0
      · subst h0; simp
      · simp [h0]
    · rw [List.getElem?_drop, List.getElem?_take] at hi'
      split at hi'
      · rw [Nat.add_assoc]
        exact hc _ d hi'
      · cases hi'

section
variable {P : Program} {t e : TypeId} {i : TypeInfo} (ht : P.underlying t = some (.slice e)) (hi : P.info? e = some i) (hs : i.size = 1) (w : World) (a : Option Addr) (n c lo h : Nat)
include ht hi hs
theorem run_cut_lh (h1 : lo ≤ h) (h2 : h ≤ c) : (Instr.sliceAt t (.slice a n c) (some (.int .i64 (lo : Int))) (some (.int .i64 (h : Int))) none).run P w = .ok (.slice (cutA a c lo) (h - lo) (c - lo)) w := by
  have he : P.elem t = e := by unfold Program.elem; rw [ht]
  have ht' : P.underlying t = some (.slice (P.elem t)) := by rw [he]; exact ht
  rw [run_sliceAt_slice (P := P) (w := w) t _ _ _ _ ht', run_slice_lh w t a n c ht' _ _ _ _ (by omega) (by omega) (by omega), he]
  simp [sizeOf, typeInfo, hi, hs, Result.andThen, sliced, cutA]
theorem run_cut_h (h2 : h ≤ c) : (Instr.sliceAt t (.slice a n c) none (some (.int .i64 (h : Int))) none).run P w = .ok (.slice (cutA a c 0) (h - 0) (c - 0)) w := by
  have he : P.elem t = e := by unfold Program.elem; rw [ht]
  have ht' : P.underlying t = some (.slice (P.elem t)) := by rw [he]; exact ht
  rw [run_sliceAt_slice (P := P) (w := w) t _ _ _ _ ht', run_slice_h w t a n c ht' _ _ (by omega) (by omega), he]
  simp [sizeOf, typeInfo, hi, hs, Result.andThen, sliced, cutA]
theorem run_cut_l (h2 : lo ≤ n) : (Instr.sliceAt t (.slice a n c) (some (.int .i64 (lo : Int))) none none).run P w = .ok (.slice (cutA a c lo) (n - lo) (c - lo)) w := by
  have he : P.elem t = e := by unfold Program.elem; rw [ht]
  have ht' : P.underlying t = some (.slice (P.elem t)) := by rw [he]; exact ht
  rw [run_sliceAt_slice (P := P) (w := w) t _ _ _ _ ht', run_slice_l w t a n c ht' _ _ (by omega) (by omega), he]
  simp [sizeOf, typeInfo, hi, hs, Result.andThen, sliced, cutA]
end

/-! ### what stands beside a block -/
/-- Nothing that was there has turned but block g. -/
structure Beside (g : Nat) (w w' : World) : Prop where
  os : w'.os = w.os
  tape : w'.tape = w.tape
  output : w'.output = w.output
  size : w.heap.size ≤ w'.heap.size
  block : ∀ k, k < w.heap.size → k ≠ g → w'.heap[k]? = w.heap[k]?
theorem Beside.refl (g : Nat) (w : World) : Beside g w w := ⟨rfl, rfl, rfl, Nat.le_refl _, fun _ _ _ => rfl⟩
theorem Beside.trans {g : Nat} {a b c : World} (h : Beside g a b) (k : Beside g b c) : Beside g a c :=
  ⟨k.os.trans h.os, k.tape.trans h.tape, k.output.trans h.output, Nat.le_trans h.size k.size, fun i hi hg => (k.block i (Nat.lt_of_lt_of_le hi h.size) hg).trans (h.block i hi hg)⟩
theorem Beside.of_below {g : Nat} {w w' : World} (h : Below w.heap.size w w') : Beside g w w' := ⟨h.os, h.tape, h.output, h.size, fun k hk _ => h.block k hk⟩
theorem Beside.below {g B : Nat} {w w' : World} (h : Beside g w w') (hB : B ≤ g) (hs : B ≤ w.heap.size) : Below B w w' := ⟨h.os, h.tape, h.output, h.size, fun k hk => h.block k (by omega) (by omega)⟩
theorem Beside.setCell {g : Nat} {a w : World} (h : Beside g a w) (j : Nat) (u : Value) : Beside g a (w.setCell ⟨g, j, none⟩ u) :=
  ⟨h.os, h.tape, h.output, by simpa using h.size, fun k hk hg => (Below.heap_setCell w ⟨g, j, none⟩ u k hg).trans (h.block k hk hg)⟩
theorem Beside.drewN {g : Nat} {a w : World} (h : Beside g a w) (n : Nat) : Beside g a (w.drewN n) := ⟨h.os, h.tape, h.output, h.size, h.block⟩
/-- what is owned is a slice of these bytes. -/
theorem owns_slice {w : World} {base : Nat} {E : TypeId} {v : Value} {l : List UInt8} (h : w.ownsRow base E 1 v l.length (cells8 l)) : ∃ a c, v = .slice a l.length c ∧ Row8 w w.heap.size a l.length c l := by
  rcases h.2 with ⟨hv, h0⟩ | ⟨g, cap, cur, hv, _⟩
  · refine ⟨none, 0, by rw [hv, h0], ?_⟩
    rw [hv] at h
    rw [h0] at h ⊢
    exact Row8.own h
  · rw [hv] at h
    exact ⟨_, _, hv, Row8.own h⟩
/-- what is owned stays so while a block is turned that is not it. -/
theorem owns_beside {w u : World} {base g : Nat} {e : TypeId} {size : Nat} {v : Value} {n : Nat} {xs : List Value} (h : w.ownsRow base e size v n xs) (hb : Beside g w u) (hg : g < base) : u.ownsRow base e size v n xs := by
  refine ⟨h.1, ?_⟩
  rcases h.2 with h2 | ⟨k, cap, cur, hv, hk, hh, r⟩
  · exact Or.inl h2
  · exact Or.inr ⟨k, cap, cur, hv, hk, (hb.block k (Array.getElem?_eq_some_iff.1 hh).1 (by omega)).trans hh, r⟩
end Go.Proofs.YtliejllegabdnaaDoor.Sm
