/- What the package's variables hold when a call begins: from the rows' list to the walks' own words; and a world in which it is so. -/
import Derived.Test.YtfpgdimgffamoaaGreatDoorRows
import Derived.Test.YtfpgdimgffamoaaGreatDoorFrErr
import Derived.LaidMore
import Derived.ProofKit
import Derived.OpenShut
import Derived.Stop.Joined
namespace Go.Proofs.YtfpgdimgffamoaaGreatDoor.Fr
open Go.ChangeShapes Go.WideShapes Go.ChangeAt Go.RowKit
set_option maxRecDepth 100000

/-- the rows' list. -/
def laidL : List (String × DataW Unit) := [("errors.errorType", Rows.laid_errors_errorType), ("drumline/frame.errShort", Rows.laid_drumline_frame_errShort), ("drumline/frame.errSum", Rows.laid_drumline_frame_errSum), ("drumline/frame.errKind", Rows.laid_drumline_frame_errKind), ("drumline/frame.errForm", Rows.laid_drumline_frame_errForm), ("drumline/frame.errLong", Rows.laid_drumline_frame_errLong)]
def laidS : List (String × DataW Unit) := [("drumline/frame.errShort", Rows.laid_drumline_frame_errShort), ("drumline/frame.errSum", Rows.laid_drumline_frame_errSum), ("drumline/frame.errKind", Rows.laid_drumline_frame_errKind), ("drumline/frame.errForm", Rows.laid_drumline_frame_errForm), ("drumline/frame.errLong", Rows.laid_drumline_frame_errLong)]
theorem laid_met (os : Os) (args : Array Value) : laidMetH Tryz.prog laidL ((World.doorLaid Tryz.prog 400 os).forCall (fun _ _ => 0) ⟨#[], args, []⟩).memory :=
  laidMetH_of_parts3 (fuel := 8) (laidMet_of_run' 8 (by kernel_rfl) (by kernel_rfl)) (by kernel_rfl) (by kernel_rfl)
theorem laid_shaped (os : Os) (args : Array Value) : ((World.doorLaid Tryz.prog 400 os).forCall (fun _ _ => 0) ⟨#[], args, []⟩).Shaped Tryz.prog :=
  World.shaped_of_RefB (by kernel_rfl) (by kernel_rfl)
theorem gType : Tryz.prog.globalNamed "errors.errorType" = some 4 := by kernel_rfl
theorem gShort : Tryz.prog.globalNamed "drumline/frame.errShort" = some 0 := by kernel_rfl
theorem gSum : Tryz.prog.globalNamed "drumline/frame.errSum" = some 1 := by kernel_rfl
theorem gKind : Tryz.prog.globalNamed "drumline/frame.errKind" = some 2 := by kernel_rfl
theorem gForm : Tryz.prog.globalNamed "drumline/frame.errForm" = some 5 := by kernel_rfl
theorem gLong : Tryz.prog.globalNamed "drumline/frame.errLong" = some 3 := by kernel_rfl
theorem tShort : (Tryz.prog.globals[0]?).map (·.type) = some 43 := by kernel_rfl
theorem tSum : (Tryz.prog.globals[1]?).map (·.type) = some 43 := by kernel_rfl
theorem tKind : (Tryz.prog.globals[2]?).map (·.type) = some 43 := by kernel_rfl
theorem tForm : (Tryz.prog.globals[5]?).map (·.type) = some 43 := by kernel_rfl
theorem tLong : (Tryz.prog.globals[3]?).map (·.type) = some 43 := by kernel_rfl
theorem star : "*" ++ "errors.errorString" = "*errors.errorString" := by decide
theorem rowE (u : TypeId) (h : Tryz.prog.typeName? 3 u = some "*errors.errorString") : u = 133 :=
  typeName_ptr_named (nm := "errors.errorString") (by rw [star]; kernel_rfl) (by kernel_rfl) (by decide) u (by rw [star]; exact h)
theorem cellsE : Tryz.prog.cellsOf 153 = 1 := by kernel_rfl
theorem cellsStr : Tryz.prog.cellsOf 9 = 1 := by kernel_rfl
theorem rtE : (Tryz.prog.cutTypes.find? (·.1 == "internal/reflectlite.rtype")).map (·.2) = some 115 := by kernel_rfl
theorem oneRow : ((List.range Tryz.prog.types.size).filter fun t => Tryz.prog.rowNamed t [101, 114, 114, 111, 114]) = [43] := by kernel_rfl
theorem handle_of_laid {W : World} (h : handlesMet Tryz.prog [("errors.errorType", Rows.laid_errors_errorType)] W) : W.cell? ⟨4, 0, none⟩ = some (.iface 115 (.agg #[.pointer (some ⟨6, 43, none⟩)])) := by
  obtain ⟨name, u, ty, e1, e2, e3, e4, e5⟩ := h _ (List.mem_singleton.2 rfl)
  have en : name = [101, 114, 114, 111, 114] := (Option.some.inj e1).symm
  subst en
  obtain rfl := Option.some.inj (rtE.symm.trans e2)
  have hm : ty ∈ (List.range Tryz.prog.types.size).filter fun t => Tryz.prog.rowNamed t [101, 114, 114, 111, 114] := List.mem_filter.2 ⟨List.mem_range.2 e3, e4⟩
  rw [oneRow] at hm
  obtain rfl := List.mem_singleton.1 hm
  have hh : typeHandle Tryz.prog 43 = .pointer (some ⟨6, 43, none⟩) := by kernel_rfl
  rw [hh] at e5
  simpa using World.var?_cell gType e5 0
theorem one_of_laid {W : World} {g : Nat} {nm : String} {text : List UInt8} {cs : Array Value} {f : Nat} {p ps : List MemPlace} (hg : Tryz.prog.globalNamed nm = some g) (hv : W.var? Tryz.prog nm = some cs)
    (hd : DataW.trod (fun _ => ()) Tryz.prog W 0 (fun _ => true) false f 43 cs.toList = some (.iface "*errors.errorString" (.ptr (.agg [.lit (.string text)])), p))
    (hrows : ∀ b off, MemPlace.cell b off ∈ ps → (∃ c t, W.heap[b]? = some (.cells c t (0, 0))) ∧ ∀ u v, W.cell? ⟨b, off, none⟩ = some (.iface u v) → Value.okWide Tryz.prog W .any 0 u v) (hin : 0 < cs.size → MemPlace.cell g 0 ∈ ps) (hsub : ∀ x ∈ p, x ∈ ps) :
    ∃ a, W.cell? ⟨g, 0, none⟩ = some (.iface 133 (.pointer (some a))) ∧ p = [.cell a.block a.off] ∧ a.block < W.heap.size ∧ ∃ c t, W.heap[a.block]? = some (.cells c t (0, 0)) := by
  obtain ⟨l⟩ := cs
  have ok : ∀ u v, l = [.iface u v] → Value.okWide Tryz.prog W .any 0 u v := fun u v e => by
    subst e
    exact (hrows g 0 (hin (by simp))).2 u v (by simpa using World.var?_cell hg hv 0)
  obtain ⟨a, s, rfl, hc, hs, hz, rfl⟩ := errorString_of_trod Tryz.underlying43 rowE Tryz.underlying133 Tryz.underlying153 rfl rfl Tryz.underlying9 cellsE cellsStr hd ok
  have hp : MemPlace.row a 1 = [.cell a.block a.off] := by simp [MemPlace.row]
  rw [hp] at hsub ⊢
  obtain ⟨c, t, hb⟩ := (hrows a.block a.off (hsub _ (List.mem_singleton.2 rfl))).1
  exact ⟨a, by simpa using World.var?_cell hg hv 0, rfl, (Array.getElem?_eq_some_iff.1 hb).1, c, t, hb⟩
theorem sents_of_laid {W : World} (h : laidMetH Tryz.prog laidL W) : ∃ S, Sents W W.heap.size S := by
  have h' : laidMet Tryz.prog laidS W ∧ handlesMet Tryz.prog [("errors.errorType", Rows.laid_errors_errorType)] W := h
  obtain ⟨hm, hh⟩ := h'
  have hT := handle_of_laid hh
  obtain ⟨ps, ⟨g0, t0, cs0, f0, p0, q0, hg0, ht0, hv0, hd0, ⟨g1, t1, cs1, f1, p1, q1, hg1, ht1, hv1, hd1, ⟨g2, t2, cs2, f2, p2, q2, hg2, ht2, hv2, hd2, ⟨g3, t3, cs3, f3, p3, q3, hg3, ht3, hv3, hd3, ⟨g4, t4, cs4, f4, p4, q4, hg4, ht4, hv4, hd4, hq4, e4⟩, e3⟩, e2⟩, e1⟩, e0⟩, hnd, hrows⟩ := hm
  obtain rfl := Option.some.inj (gShort.symm.trans hg0)
  obtain rfl := Option.some.inj (gSum.symm.trans hg1)
  obtain rfl := Option.some.inj (gKind.symm.trans hg2)
  obtain rfl := Option.some.inj (gForm.symm.trans hg3)
  obtain rfl := Option.some.inj (gLong.symm.trans hg4)
  obtain rfl := Option.some.inj (tShort.symm.trans ht0)
  obtain rfl := Option.some.inj (tSum.symm.trans ht1)
  obtain rfl := Option.some.inj (tKind.symm.trans ht2)
  obtain rfl := Option.some.inj (tForm.symm.trans ht3)
  obtain rfl := Option.some.inj (tLong.symm.trans ht4)
  have hq4' : q4 = [] := hq4
  subst hq4'
  subst e4
  subst e3
  subst e2
  subst e1
  subst e0
  obtain ⟨a0, c0, rfl, l0, r0⟩ := one_of_laid gShort hv0 hd0 hrows (fun h => by simp [MemPlace.row, h]) (by simp +contextual)
  obtain ⟨a1, c1, rfl, l1, r1⟩ := one_of_laid gSum hv1 hd1 hrows (fun h => by simp [MemPlace.row, h]) (by simp +contextual)
  obtain ⟨a2, c2, rfl, l2, r2⟩ := one_of_laid gKind hv2 hd2 hrows (fun h => by simp [MemPlace.row, h]) (by simp +contextual)
  obtain ⟨a3, c3, rfl, l3, r3⟩ := one_of_laid gForm hv3 hd3 hrows (fun h => by simp [MemPlace.row, h]) (by simp +contextual)
  obtain ⟨a4, c4, rfl, l4, r4⟩ := one_of_laid gLong hv4 hd4 hrows (fun h => by simp [MemPlace.row, h]) (by simp +contextual)
  have low : 6 ≤ W.heap.size := by
    have hx : ∀ g : Nat, W.cell? ⟨g, 0, none⟩ ≠ none → g < W.heap.size := by
      intro g hg
      rcases Nat.lt_or_ge g W.heap.size with h | h
      · exact h
      · exact absurd (by simp [World.cell?, Array.getElem?_eq_none h]) hg
    have k0 := hx 0 (by rw [c0]; exact fun h => by cases h)
    have k1 := hx 1 (by rw [c1]; exact fun h => by cases h)
    have k2 := hx 2 (by rw [c2]; exact fun h => by cases h)
    have k3 := hx 5 (by rw [c3]; exact fun h => by cases h)
    have k4 := hx 3 (by rw [c4]; exact fun h => by cases h)
    have k5 := hx 4 (by rw [hT]; exact fun h => by cases h)
    omega
  refine ⟨⟨a0, a1, a2, a4, a3⟩, c0, c1, c2, c4, c3, hT, low, ?_, ?_⟩
  · intro e
    unfold Sn.of
    split
    · exact ⟨l0, r0⟩
    split
    · exact ⟨l1, r1⟩
    split
    · exact ⟨l2, r2⟩
    split
    · exact ⟨l4, r4⟩
    · exact ⟨l3, r3⟩
  · have hp : ∀ x y : Addr, x = y → MemPlace.cell x.block x.off = MemPlace.cell y.block y.off := fun x y e => by rw [e]
    simp only [List.nodup_append, List.nodup_cons, List.mem_append, List.mem_cons, List.not_mem_nil, or_false] at hnd ⊢
    grind
end Go.Proofs.YtfpgdimgffamoaaGreatDoor.Fr
