/- A region whose order Go leaves open: what reads is taken as soon as it may come up, under a condition S on the world that holds throughout; a call, or a store of a struct, comes when nothing else is left to come. -/
import Derived.Test.YtliejllegabdnaaDoorSmLater
import Derived.Test.YtliejllegabdnaaDoorSmBox
namespace Go.Proofs.YtliejllegabdnaaDoor.Sm.Held
open Go.RowKit

section
variable {P : Program} {ops : Array Oper} {Q : Exit → Act → World → Prop} {S : World → Prop}
theorem later_begin {id : Nat} {a : Act} {w : World} (hm : P.follows .mixedOrders = true) (h : wpAnyH P .any ops Q S ops.size (Array.replicate ops.size false) a w.drew) : (Code.region id ops true).wp P Q a w :=
  wp_region_held hm h
theorem later_take {i : Nat} {oi : Oper} {v : Value} {fuel : Nat} {listed : Array Bool} {a : Act} {w : World} (hS : S w) (hi : ops[i]? = some oi)
    (hs : Region.noSelect ops = true) (hf : Region.free .any ops listed i = true) (hr : (Region.ready .any ops listed).contains i = true)
    (hQ : ∀ c a w, Q (.panic c) (a.put oi.dst v) w → Q (.panic c) a w) (hw : Region.wanted oi (yielded ops a.tmps) = true) (hy : ∀ u, S u → (execOp a.eval oi).run P u = .ok (.value v) u)
    (h : wpAnyH P .any ops Q S fuel (listed.setIfInBounds i true) (a.put oi.dst v) w) : wpAnyH P .any ops Q S (fuel + 1) listed a w :=
  wpAnyH_take hi hs hf hr hQ (.inl ⟨hw, hy⟩) hS h
theorem later_skip {i : Nat} {oi : Oper} {fuel : Nat} {listed : Array Bool} {a : Act} {w : World} (hS : S w) (hi : ops[i]? = some oi)
    (hs : Region.noSelect ops = true) (hf : Region.free .any ops listed i = true) (hr : (Region.ready .any ops listed).contains i = true)
    (hQ : ∀ c a w, Q (.panic c) (a.put oi.dst undef) w → Q (.panic c) a w) (hw : Region.wanted oi (yielded ops a.tmps) = false)
    (h : wpAnyH P .any ops Q S fuel (listed.setIfInBounds i true) (a.put oi.dst undef) w) : wpAnyH P .any ops Q S (fuel + 1) listed a w :=
  wpAnyH_take hi hs hf hr hQ (.inr ⟨hw, rfl⟩) hS h
theorem later_call {i : Nat} {o : Oper} {fuel : Nat} {listed : Array Bool} {a : Act} {w : World} (ho : ops[i]? = some o) (hr : Region.ready .any ops listed = [i])
    (h : ∀ K' : Act → World → Prop, Shut (∀ a' w', S w' → wpAnyH P .any ops Q S fuel (listed.setIfInBounds i true) a' w' → K' a' w') →
      if Region.wanted o (yielded ops a.tmps) = true then Oper.wp P o a w K' Q else K' (a.put o.dst undef) w) : wpAnyH P .any ops Q S (fuel + 1) listed a w :=
  wpAnyH_all hr (by simp) fun j hj => by
    simp only [List.mem_singleton] at hj
    subst hj
    exact wpOp_step ho fun K' hK => h K' fun a' w' hb hW => hK a' w' ⟨hb, hW⟩
theorem wanted_of {o : Oper} (h : o.guard = none) (y : Nat → Option Bool) : Region.wanted o y = true := by unfold Region.wanted; rw [h]
theorem later_store {i : Nat} {o : Oper} {fuel : Nat} {listed : Array Bool} {a : Act} {w : World} (ho : ops[i]? = some o) (hr : Region.ready .any ops listed = [i]) (hg : o.guard = none) (t : TypeId)
    (p : Nat) (cs vs : List Value) (hp : Ob w p t cs) (hxy : ∃ x y, o.op = .store t x y ∧ a.eval x = .pointer (some ⟨p, 0, none⟩) ∧ a.eval y = .agg vs.toArray) (hl : vs.length = cs.length) (hi : (P.info? t).map (·.size) = some cs.length) (h1 : ∀ v ∈ vs, v.oneCell' = true)
    (h : ∀ W, Beside p w W → W.heap.size = w.heap.size → Ob W p t vs → S W ∧ wpAnyH P .any ops Q S fuel (listed.setIfInBounds i true) (a.put o.dst undef) W) : wpAnyH P .any ops Q S (fuel + 1) listed a w := by
  obtain ⟨x, y, hop, hx, hy⟩ := hxy
  refine later_call ho hr fun K hK => ?_
  rw [if_pos (wanted_of hg _)]
  refine wp_store_mid t x y hop p 0 vs.toArray hx hy (by rw [List.size_toArray, hl]; exact hp.there) (by rw [List.size_toArray, hl]; exact hi) (all_oneCell_toArray h1) ?_
  have k := h _ (beside_setCells _ _ _ (Beside.refl _ _)) (size_setCells _ _ _ _) (by have := setCells_same w p 0 t vs cs hp (by omega); simpa [hl] using this)
  exact hK.out _ _ k.1 k.2
theorem wp_box {o : Oper} {a : Act} {w : World} {K : Act → World → Prop} (t : TypeId) (x : Operand) (ho : o.op = .box t x) (cs : List Value) (hx : a.eval x = .agg cs.toArray)
    (h : K (a.put o.dst (.pointer (some ⟨w.heap.size, 0, none⟩))) (w.alloc (.cells cs.toArray t))) : o.wp P a w K Q := by
  unfold Oper.wp execOp
  simp only [ho, hx, Sem.run_bind, Instr.box, newVar, newRow, run_newObj_alloc, Sem.run_pure, Result.andThen_ok, Value.cells]
  exact h
theorem later_box {i : Nat} {o : Oper} {fuel : Nat} {listed : Array Bool} {a : Act} {w : World} (ho : ops[i]? = some o) (hr : Region.ready .any ops listed = [i]) (hg : o.guard = none) (t : TypeId) (cs : List Value)
    (hbx : ∃ x, o.op = .box t x ∧ a.eval x = .agg cs.toArray) (h : ∀ b W, NewB w W b t cs → S W ∧ wpAnyH P .any ops Q S fuel (listed.setIfInBounds i true) (a.put o.dst (.pointer (some ⟨b, 0, none⟩))) W) : wpAnyH P .any ops Q S (fuel + 1) listed a w := by
  obtain ⟨x, hop, hx⟩ := hbx
  refine later_call ho hr fun K hK => ?_
  rw [if_pos (wanted_of hg _)]
  have k := h _ _ (NewB.of_alloc w t cs)
  exact wp_box t x hop cs hx (hK.out _ _ k.1 k.2)
theorem later_box_store {i j : Nat} {oi oj : Oper} {fuel : Nat} {listed : Array Bool} {a : Act} {w : World} (hoi : ops[i]? = some oi) (hoj : ops[j]? = some oj) (hr : Region.ready .any ops listed = [i, j]) (hgi : oi.guard = none) (hgj : oj.guard = none)
    (ti : TypeId) (csb : List Value) (hbx : ∃ x, oi.op = .box ti x ∧ a.eval x = .agg csb.toArray) (t : TypeId) (p : Nat) (cs vs : List Value) (hp : Ob w p t cs) (hxy : ∃ x y, oj.op = .store t x y ∧ a.eval x = .pointer (some ⟨p, 0, none⟩) ∧ a.eval y = .agg vs.toArray)
    (hl : vs.length = cs.length) (hi : (P.info? t).map (·.size) = some cs.length) (h1 : ∀ v ∈ vs, v.oneCell' = true)
    (hA : ∀ b W, NewB w W b ti csb → S W ∧ wpAnyH P .any ops Q S fuel (listed.setIfInBounds i true) (a.put oi.dst (.pointer (some ⟨b, 0, none⟩))) W)
    (hB : ∀ W, Beside p w W → W.heap.size = w.heap.size → Ob W p t vs → S W ∧ wpAnyH P .any ops Q S fuel (listed.setIfInBounds j true) (a.put oj.dst undef) W) : wpAnyH P .any ops Q S (fuel + 1) listed a w := by
  obtain ⟨x, hop, hx⟩ := hbx
  obtain ⟨x', y', hop', hx', hy'⟩ := hxy
  refine wpAnyH_all hr (by simp) fun k hk => ?_
  simp only [List.mem_cons, List.not_mem_nil, or_false] at hk
  rcases hk with rfl | rfl
  · refine wpOp_step hoi fun K hK => ?_
    rw [if_pos (wanted_of hgi _)]
    have q := hA _ _ (NewB.of_alloc w ti csb)
    exact wp_box ti x hop csb hx (hK _ _ ⟨q.1, q.2⟩)
  · refine wpOp_step hoj fun K hK => ?_
    rw [if_pos (wanted_of hgj _)]
    refine wp_store_mid t x' y' hop' p 0 vs.toArray hx' hy' (by rw [List.size_toArray, hl]; exact hp.there) (by rw [List.size_toArray, hl]; exact hi) (all_oneCell_toArray h1) ?_
    have q := hB _ (beside_setCells _ _ _ (Beside.refl _ _)) (size_setCells _ _ _ _) (by have := setCells_same w p 0 t vs cs hp (by omega); simpa [hl] using this)
    exact hK _ _ ⟨q.1, q.2⟩
/-- a whole struct is loaded, as soon as it may come up. -/
theorem later_load {i : Nat} {oi : Oper} {fuel : Nat} {listed : Array Bool} {a : Act} {w : World} (hS : S w) (hi : ops[i]? = some oi)
    (hs : Region.noSelect ops = true) (hf : Region.free .any ops listed i = true) (hr : (Region.ready .any ops listed).contains i = true) (hg : oi.guard = none) (t : TypeId) (p : Nat) (cs : List Value)
    (hQ : ∀ c a w, Q (.panic c) (a.put oi.dst (.agg cs.toArray)) w → Q (.panic c) a w) (hO : ∀ u, S u → Ob u p t cs) (hx : ∃ x, oi.op = .load t x ∧ a.eval x = .pointer (some ⟨p, 0, none⟩)) {d : TypeDesc}
    (hu : P.underlying t = some d) (hd : d.isRow = true) (hz : (P.info? t).map (·.size) = some cs.length)
    (h : wpAnyH P .any ops Q S fuel (listed.setIfInBounds i true) (a.put oi.dst (.agg cs.toArray)) w) : wpAnyH P .any ops Q S (fuel + 1) listed a w := by
  obtain ⟨x, hop, hx⟩ := hx
  refine later_take hS hi hs hf hr hQ (wanted_of hg _) (fun u hu' => ?_) h
  unfold execOp
  simp only [hop, hx, Sem.run_bind, run_loadAt_mid u p 0 t cs d (hO u hu').range hu hd hz, Sem.run_pure, Result.andThen_ok]
/-- a call and a store of a struct may come up, in either order. -/
theorem later_call_store {i j : Nat} {oi oj : Oper} {fuel : Nat} {listed : Array Bool} {a : Act} {w : World} (hoi : ops[i]? = some oi) (hoj : ops[j]? = some oj) (hr : Region.ready .any ops listed = [i, j]) (hgj : oj.guard = none)
    (t : TypeId) (p : Nat) (cs vs : List Value) (hp : Ob w p t cs) (hxy : ∃ x y, oj.op = .store t x y ∧ a.eval x = .pointer (some ⟨p, 0, none⟩) ∧ a.eval y = .agg vs.toArray)
    (hl : vs.length = cs.length) (hi : (P.info? t).map (·.size) = some cs.length) (h1 : ∀ v ∈ vs, v.oneCell' = true)
    (hA : ∀ K' : Act → World → Prop, Shut (∀ a' w', S w' → wpAnyH P .any ops Q S fuel (listed.setIfInBounds i true) a' w' → K' a' w') → if Region.wanted oi (yielded ops a.tmps) = true then Oper.wp P oi a w K' Q else K' (a.put oi.dst undef) w)
    (hB : ∀ W, Beside p w W → W.heap.size = w.heap.size → Ob W p t vs → S W ∧ wpAnyH P .any ops Q S fuel (listed.setIfInBounds j true) (a.put oj.dst undef) W) : wpAnyH P .any ops Q S (fuel + 1) listed a w := by
  obtain ⟨x', y', hop', hx', hy'⟩ := hxy
  refine wpAnyH_all hr (by simp) fun k hk => ?_
  simp only [List.mem_cons, List.not_mem_nil, or_false] at hk
  rcases hk with rfl | rfl
  · exact wpOp_step hoi fun K' hK => hA K' fun a' w' hb hW => hK a' w' ⟨hb, hW⟩
  · refine wpOp_step hoj fun K hK => ?_
    rw [if_pos (wanted_of hgj _)]
    refine wp_store_mid t x' y' hop' p 0 vs.toArray hx' hy' (by rw [List.size_toArray, hl]; exact hp.there) (by rw [List.size_toArray, hl]; exact hi) (all_oneCell_toArray h1) ?_
    have q := hB _ (beside_setCells _ _ _ (Beside.refl _ _)) (size_setCells _ _ _ _) (by have := setCells_same w p 0 t vs cs hp (by omega); simpa [hl] using this)
    exact hK _ _ ⟨q.1, q.2⟩
theorem later_done {listed : Array Bool} {a : Act} {w : World} (hr : Region.ready .any ops listed = []) (h : Q .normal a w) (fuel : Nat) : wpAnyH P .any ops Q S fuel listed a w := wpAnyH_done hr h fuel
end
end Go.Proofs.YtliejllegabdnaaDoor.Sm.Held
