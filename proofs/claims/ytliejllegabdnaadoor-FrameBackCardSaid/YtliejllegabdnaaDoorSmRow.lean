/- Slices of whatever elements: what it is that a slice's cells hold some values, that it stays so, what a slice that the call made holds; slices of whole numbers. No function of the program in it. -/
import Derived.Test.YtliejllegabdnaaDoorSmMem
import Derived.Test.YtliejllegabdnaaDoorSmCut
import Derived.Deep.Fields
import Derived.ChangeSame
namespace Go.Proofs.YtliejllegabdnaaDoor.Sm
open Go.RowKit Go.ChangeShapes Go.WideShapes
set_option maxHeartbeats 400000

/-- A slice of n elements of z cells each, with room for c: its cells hold the values vs, in a block below B. -/
structure RowC (w : World) (B : Nat) (a : Option Addr) (n c z : Nat) (vs : List Value) : Prop where
  len : vs.length = n * z
  room : n ≤ c
  cap : c ≤ maxLen
  none_ : a = none → c = 0
  cells : 0 < n → ∃ b off, a = some ⟨b, off, none⟩ ∧ b < B ∧ ∀ i v, vs[i]? = some v → w.cell? ⟨b, off + i, none⟩ = some v
section
variable {w w' : World} {B B' n c z : Nat} {a : Option Addr} {vs : List Value}
theorem RowC.nil : RowC w B none 0 0 z [] := ⟨by simp, Nat.le_refl _, by unfold maxLen; omega, fun _ => rfl, fun h => absurd h (by omega)⟩
theorem RowC.keep (h : RowC w B a n c z vs) (hk : ∀ p : Addr, p.block < B → w'.cell? p = w.cell? p) : RowC w' B a n c z vs :=
  ⟨h.len, h.room, h.cap, h.none_, fun hn => by
    obtain ⟨b, off, e, hb, hc⟩ := h.cells hn
    exact ⟨b, off, e, hb, fun i d hi => (hk ⟨b, off + i, none⟩ hb).trans (hc i d hi)⟩⟩
theorem RowC.below (h : RowC w B a n c z vs) (hb : Below B w w') : RowC w' B a n c z vs := h.keep fun _ hp => hb.cell hp
theorem RowC.drewN (h : RowC w B a n c z vs) (k : Nat) : RowC (w.drewN k) B a n c z vs := h.keep fun _ _ => rfl
theorem RowC.drew (h : RowC w B a n c z vs) : RowC w.drew B a n c z vs := h.keep fun _ _ => rfl
theorem RowC.more (h : RowC w B a n c z vs) (hB : B ≤ B') : RowC w B' a n c z vs :=
  ⟨h.len, h.room, h.cap, h.none_, fun hn => by
    obtain ⟨b, off, e, hb, hc⟩ := h.cells hn
    exact ⟨b, off, e, by omega, hc⟩⟩
theorem RowC.later (h : RowC w w.heap.size a n c z vs) (hb : Below w.heap.size w w') : RowC w' w'.heap.size a n c z vs := (h.below hb).more hb.size
/-- a slice of n numbers below 2^63. -/
theorem RowC.small (h : RowC w B a n c z vs) : n ≤ 9223372036854775807 := by have h1 := h.room; have h2 := h.cap; unfold maxLen at h2; omega
/-- the cells of element k. -/
theorem RowC.at_ (h : RowC w B a n c z vs) {k : Nat} (hk : k < n) : ∃ b off, a = some ⟨b, off, none⟩ ∧ b < B ∧ ∀ j v, vs[k * z + j]? = some v → w.cell? ⟨b, off + k * z + j, none⟩ = some v := by
  obtain ⟨b, off, e, hb, hc⟩ := h.cells (by omega)
  refine ⟨b, off, e, hb, fun j v hv => ?_⟩
  rw [Nat.add_assoc]
  exact hc _ v hv
end
/-- What the call made is such a row, too. -/
theorem RowC.own {w : World} {base : Nat} {e : TypeId} {a : Option Addr} {n c z : Nat} {vs : List Value} (h : w.ownsRow base e z (.slice a n c) n vs) : RowC w w.heap.size a n c z vs := by
  have hlen : vs.length = n * z := h.1
  rcases h.2 with ⟨hv, h0⟩ | ⟨g, cap, cur, hv, hg, hh, hnc, hcm, _, _⟩
  · injection hv with h1 h2 h3
    subst h1 h3
    subst h0
    have hnil : vs = [] := List.eq_nil_of_length_eq_zero (by omega)
    rw [hnil]
    exact RowC.nil
  · injection hv with h1 h2 h3
    subst h1 h3
    refine ⟨hlen, hnc, hcm, (fun e => by cases e), fun hn => ⟨g, 0, rfl, ?_, fun i d hi => ?_⟩⟩
    · exact (h.lt g rfl).2
    · have hc := h.cells (g := g) rfl i d hi
      by_cases h0 : i = 0
      · subst h0; simpa [Addr.add] using hc
      · simpa [Addr.add, h0] using hc
theorem owns_form {w : World} {base : Nat} {e : TypeId} {v : Value} {n z : Nat} {vs : List Value} (h : w.ownsRow base e z v n vs) : ∃ a c, v = .slice a n c ∧ RowC w w.heap.size a n c z vs := by
  rcases h.2 with ⟨hv, h0⟩ | ⟨g, cap, cur, hv, _⟩
  · refine ⟨none, 0, by rw [hv, h0], ?_⟩
    rw [hv] at h
    rw [h0] at h ⊢
    exact RowC.own h
  · rw [hv] at h
    exact ⟨_, _, hv, RowC.own h⟩
theorem RowC.news {w : World} {B : Nat} {a : Addr} {n c z : Nat} {vs : List Value} (h : RowC w B (some a) n c z vs) : ∀ j u, vs[j]? = some u → w.cell? (a.add j) = some u := by
  intro j u hj
  have hlt : j < vs.length := by
    rcases Nat.lt_or_ge j vs.length with h' | h'
    · exact h'
    · rw [List.getElem?_eq_none h'] at hj; cases hj
  have hn : 0 < n := by
    rcases Nat.eq_zero_or_pos n with h0 | h0
    · have := h.len; rw [h0] at this; omega
    · exact h0
  obtain ⟨b, off, e, _, hc⟩ := h.cells hn
  injection e with e
  subst e
  have := hc j u hj
  by_cases h0 : j = 0
  · subst h0; simpa [Addr.add] using this
  · simpa [Addr.add, h0] using this
/-- 'append' to a slice of the call's own, whatever is appended. -/
theorem wpList_append_rows {P : Program} (w : World) {ops : Array Oper} {rest : List Oper} {o : Oper} {a : Act} {Q : Exit → Act → World → Prop} (hgd : o.guard = none) (s x : Operand) (t : TypeId)
    (ho : o.op = .call { callee := .builtin .append, args := #[s, x], argTypes := #[t, t] })
    (base : Nat) (e : TypeId) (i : TypeInfo) (zv : Value) (z bytes : Nat) (ht : P.underlying t = some (.slice e)) (hi : P.info? e = some i) (hz : i.zero = some zv) (hsize : i.size = z) (hby : i.bytes = bytes) (hzs : zv.cells.size = z) (hz0 : 0 < z)
    (v : Value) (n : Nat) (vs : List Value) (hs : a.eval s = v) (hown : w.ownsRow base e z v n vs)
    (B : Nat) (A : Option Addr) (m c : Nat) (us : List Value) (hx : a.eval x = .slice A m c) (hr : RowC w B A m c z us) (hone : ∀ u ∈ us, u.oneCell' = true) (hlen : n + m ≤ maxLen) (hbytes : (n + m) * bytes ≤ 140737488355328) (hbase : base ≤ w.heap.size)
    (h : ∀ v' w', w'.ownsRow base e z v' (n + m) (vs ++ us) → w.grownBy w' v.ownBlock → (∀ g, v.ownBlock = some g → base ≤ g) → wpList P ops Q rest (a.put o.dst v') w') : wpList P ops Q (o :: rest) a w := by
  have hlt : ∀ g, v.ownBlock = some g → base ≤ g := fun g hg => (hown.lt g hg).1
  cases A with
  | none =>
    have hc0 := hr.none_ rfl
    have hm0 : m = 0 := by have := hr.room; omega
    subst hc0 hm0
    have hk : us = [] := List.eq_nil_of_length_eq_zero (by have := hr.len; omega)
    subst hk
    refine wpList_append_own_none hgd s x t ho base e i z ht hi v _ _ hs hown hx ?_
    exact h v w (by simpa using hown) (World.grownBy.refl w _) hlt
  | some ad =>
    refine wpList_append_own w hgd s x t ho base e i zv z bytes ht hi hz hsize hby hzs hz0 v _ _ hs hown ad m c us hx hr.len hr.news hone hlen hbytes hbase ?_
    intro v' w' h1 h2 _
    exact h v' w' h1 h2 hlt
/-- what a literal lays. -/
theorem RowC.lit (w : World) (E : TypeId) (cs : Array Value) {fr : Nat × Nat} (n z : Nat) (hn : cs.size = n * z) (hm : n ≤ maxLen) :
    RowC (w.alloc (.cells cs E fr)) (w.heap.size + 1) (some ⟨w.heap.size, 0, none⟩) n n z cs.toList := by
  refine ⟨by simpa using hn, Nat.le_refl _, hm, (fun e => by cases e), fun _ => ⟨_, 0, rfl, by omega, fun i d hi => ?_⟩⟩
  rw [cell_of_row _ w.heap.size (0 + i) cs E fr (heap_alloc_new w _), Nat.zero_add, ← Array.getElem?_toList, hi]

/-! ### slices of whole numbers -/
/-- whole numbers as a row's cells. -/
def cellsI (l : List Int) : List Value := l.map fun d => .int .i64 d
theorem cellsI_get (l : List Int) (i : Nat) : (cellsI l)[i]? = (l[i]?).map fun d => .int .i64 d := by simp [cellsI]
theorem cellsI_length (l : List Int) : (cellsI l).length = l.length := by simp [cellsI]
theorem cellsI_append (l m : List Int) : cellsI (l ++ m) = cellsI l ++ cellsI m := by simp [cellsI]
theorem cellsI_one (l : List Int) : ∀ u ∈ cellsI l, u.oneCell' = true := by
  intro u hu
  simp only [cellsI, List.mem_map] at hu
  obtain ⟨c, _, rfl⟩ := hu
  rfl
/-- A slice of the whole numbers l. -/
structure RowI (w : World) (B : Nat) (a : Option Addr) (n c : Nat) (l : List Int) : Prop where
  row : RowC w B a n c 1 (cellsI l)
  wf : ∀ d ∈ l, -9223372036854775808 ≤ d ∧ d ≤ 9223372036854775807
section
variable {w w' : World} {B B' n c : Nat} {a : Option Addr} {l : List Int}
theorem RowI.nil : RowI w B none 0 0 [] := ⟨RowC.nil, by simp⟩
theorem RowI.len (h : RowI w B a n c l) : l.length = n := by have := h.row.len; rw [cellsI_length] at this; omega
theorem RowI.below (h : RowI w B a n c l) (hb : Below B w w') : RowI w' B a n c l := ⟨h.row.below hb, h.wf⟩
theorem RowI.drewN (h : RowI w B a n c l) (k : Nat) : RowI (w.drewN k) B a n c l := ⟨h.row.drewN k, h.wf⟩
theorem RowI.drew (h : RowI w B a n c l) : RowI w.drew B a n c l := ⟨h.row.drew, h.wf⟩
theorem RowI.more (h : RowI w B a n c l) (hB : B ≤ B') : RowI w B' a n c l := ⟨h.row.more hB, h.wf⟩
theorem RowI.later (h : RowI w w.heap.size a n c l) (hb : Below w.heap.size w w') : RowI w' w'.heap.size a n c l := ⟨h.row.later hb, h.wf⟩
theorem RowI.at_ (h : RowI w B a n c l) {k : Nat} (hk : k < n) : ∃ b off d, a = some ⟨b, off, none⟩ ∧ b < B ∧ l[k]? = some d ∧ w.cell? ⟨b, off + k, none⟩ = some (.int .i64 d) ∧ -9223372036854775808 ≤ d ∧ d ≤ 9223372036854775807 := by
  obtain ⟨b, off, e, hb, hc⟩ := h.row.cells (by omega)
  have hl : k < l.length := by have := h.len; omega
  have hg := List.getElem?_eq_getElem hl
  have hw := h.wf l[k] (List.getElem_mem hl)
  exact ⟨b, off, l[k], e, hb, hg, hc k _ (by rw [cellsI_get, hg]; rfl), hw.1, hw.2⟩
end
theorem RowI.of_trod {H : Type} {enc : TypeId × Value → H} {P : Program} {W : World} {t e : TypeId} {fuel : Nat} {u : Value} {y : DataW H × List MemPlace} (ht : P.underlying t = some (.slice e)) (he : P.underlying e = some (.int .i64)) (hc : P.cellsOf e = 1)
    (h : DataW.trod enc P W 0 (fun _ => true) true fuel t [u] = some y) : ∃ a n c l, u = .slice a n c ∧ RowI W W.heap.size a n c l := by
  rcases open_ints ht he hc h with ⟨hcs, _⟩ | ⟨x, n, c, zs, hcs, _, hl, hm, hz, _, hcell, hwz⟩
  · injection hcs with hcs
    exact ⟨none, 0, 0, [], hcs, RowI.nil⟩
  · injection hcs with hcs
    refine ⟨some x, n, c, zs.take n, hcs, ?_⟩
    have hz' : zs.length = c := by simpa using hz
    have hlen : (zs.take n).length = n := by rw [List.length_take]; omega
    refine ⟨⟨by rw [cellsI_length, hlen]; omega, hl, hm, (fun e => by cases e), fun hn => ?_⟩, fun d hd => ?_⟩
    · obtain ⟨b, off, spot⟩ := x
      have h0 := hcell 0 (by omega)
      have hspot : spot = none := by simpa [Addr.add] using World.cell?_spot h0
      subst hspot
      have hb : b < W.heap.size := by
        have := block_lt_of_cell h0
        simpa [Addr.add] using this
      refine ⟨b, off, rfl, hb, fun i v hi => ?_⟩
      rw [cellsI_get, List.getElem?_take] at hi
      split at hi
      · have hiz : i < zs.length := by omega
        rw [List.getElem?_eq_getElem hiz] at hi
        simp at hi
        subst hi
        have h1 := hcell i hiz
        have e1 : zs.getD i 0 = zs[i] := by rw [List.getD_eq_getElem?_getD, List.getElem?_eq_getElem hiz]; rfl
        rw [e1] at h1
        by_cases hi0 : i = 0
        · subst hi0; simpa [Addr.add] using h1
        · simpa [Addr.add, hi0] using h1
      · simp at hi
    · exact bounds_i64 (hwz d (List.mem_of_mem_take hd))
theorem Row8.of_trod1 {H : Type} {enc : TypeId × Value → H} {P : Program} {W : World} {t e : TypeId} {fuel : Nat} {u : Value} {y : DataW H × List MemPlace} (ht : P.underlying t = some (.slice e)) (he : P.underlying e = some (.int .u8)) (hc : P.cellsOf e = 1)
    (h : DataW.trod enc P W 0 (fun _ => true) true fuel t [u] = some y) : ∃ a n c l, u = .slice a n c ∧ Row8 W W.heap.size a n c l := by
  rcases open_ints ht he hc h with ⟨hcs, _⟩ | ⟨x, n, c, zs, hcs, _, hl, hm, hz, _, hcell, hwz⟩
  · injection hcs with hcs
    exact ⟨none, 0, 0, [], hcs, Row8.nil⟩
  · injection hcs with hcs
    obtain ⟨l, hr⟩ := Row8.of_row (w := W) (a := some x) (len := n) (cap := c) (zs := zs) (.inr ⟨x, rfl, hl, hm, by simpa using hz, hcell, hwz⟩)
    exact ⟨some x, n, c, l, hcs, hr⟩

/-! ### structs of one-cell fields, by value -/
/-- a struct that came in: its cells, each of which reads by its field's type. -/
theorem open_cells {H : Type} {enc : TypeId × Value → H} {P : Program} {W : World} {base : Nat} {spare : Nat → Bool} {held : Bool} {r : Reach} {b0 : Nat} {t : TypeId} {fs : Array Field} {v : Value} {d : DataW H} {p : List MemPlace}
    (hs : P.underlying t = some (.struct fs)) (hone : Deep.oneCellFields P fs = true) (hC : P.cellsOf t = fs.size) (hv : Value.okWide P W r b0 t v) (h : DataW.Trod enc P W base spare held t v d p) :
    ∃ cs : List Value, v = .agg cs.toArray ∧ cs.length = fs.size ∧ ∀ (j : Nat) (f : Field), fs[j]? = some f → ∃ u n y, cs[j]? = some u ∧ DataW.trod enc P W base spare held n f.type [u] = some y := by
  obtain ⟨cs, rfl, hsz⟩ := okWide_struct hs hv
  obtain ⟨l⟩ := cs
  obtain ⟨fuel, hf⟩ := h
  obtain ⟨xs, n, _, _, _, hlen, hg⟩ := DataW.trod_struct hs hf
  have hll : l.length = fs.size := hsz.trans hC
  refine ⟨l, rfl, hll, fun j f hj => ?_⟩
  obtain ⟨o, k⟩ := Deep.hone_of hone j f hj
  have hjl : j < fs.size := (Array.getElem?_eq_some_iff.1 hj).1
  have h1 := hg j f hj
  rw [o, k] at h1
  have h1' : ((Value.agg l.toArray).cells.toList.drop j).take 1 = [l[j]'(by omega)] := by
    show (l.drop j).take 1 = _
    rw [List.drop_eq_getElem_cons (by omega)]
    rfl
  rw [h1'] at h1
  have hys : xs[j]? = some (xs[j]'(by omega)) := List.getElem?_eq_getElem (by omega)
  exact ⟨l[j]'(by omega), n, _, List.getElem?_eq_getElem (by omega), h1.trans hys⟩
end Go.Proofs.YtliejllegabdnaaDoor.Sm
