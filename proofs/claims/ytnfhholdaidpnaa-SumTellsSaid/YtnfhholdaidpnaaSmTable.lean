/- What sum.Table returns: of each byte the register behind its 8 steps. -/
import Derived.Test.YtnfhholdaidpnaaSmMade
import Derived.Deep.MidRow
import Derived.Outline
namespace Go.Proofs.Ytnfhholdaidpnaa.Sm
open Go.ChangeShapes Go.WideShapes Go.ChangeAt Go.RowKit
set_option maxHeartbeats 400000

/-- what stands at place j. -/
def tabAt (j : Nat) : Int := ((steps 8 (BitVec.ofNat 32 (j * 16777216))).toNat : Int)
def zeros : Array Value := Array.replicate 256 (.int .u32 0)
/-- the array behind k rounds. -/
def tabTo (k : Nat) : Array Value := Array.ofFn (n := 256) fun j => if j.val < k then .int .u32 (tabAt j.val) else .int .u32 0
theorem tabTo_size (k : Nat) : (tabTo k).size = 256 := by simp [tabTo]
theorem tabTo_zero : tabTo 0 = zeros := by
  unfold tabTo zeros
  apply Array.ext
  · simp
  · intro i h1 h2; simp
theorem tabTo_get (k j : Nat) (hj : j < 256) : (tabTo k)[j]? = some (if j < k then .int .u32 (tabAt j) else .int .u32 0) := by
  rw [Array.getElem?_eq_getElem (by rw [tabTo_size]; exact hj)]
  simp [tabTo]
theorem tabTo_succ (k : Nat) (hk : k < 256) : (tabTo k).setIfInBounds k (.int .u32 (tabAt k)) = tabTo (k + 1) := by
  apply Array.ext_getElem?
  intro i
  rw [Array.getElem?_setIfInBounds, tabTo_size]
  by_cases e : k = i
  · subst e
    rw [if_pos rfl, if_pos hk, tabTo_get _ _ hk, if_pos (by omega)]
  · rw [if_neg e]
    by_cases h : i < 256
    · rw [tabTo_get _ _ h, tabTo_get _ _ h]
      by_cases e2 : i < k
      · rw [if_pos e2, if_pos (by omega)]
      · rw [if_neg e2, if_neg (by omega)]
    · rw [Array.getElem?_eq_none (by rw [tabTo_size]; omega), Array.getElem?_eq_none (by rw [tabTo_size]; omega)]
theorem tabTo_one (k : Nat) : (tabTo k).all (·.oneCell') = true := by
  rw [Array.all_eq_true]
  intro i h
  rw [tabTo_size] at h
  simp only [tabTo, Array.getElem_ofFn]
  split <;> rfl

theorem below_setCells {B b : Nat} (hb : B ≤ b) : ∀ (vs : List Value) (o : Nat) (v w : World), Below B v w → Below B v (w.setCells b o vs)
  | [], _, _, _, h => h
  | x :: r, o, v, _, h => below_setCells hb r (o + 1) v _ (h.setCell hb x)
theorem results_cell_mid {P : Program} {fn : Func} {p : Tmp} {ty : TypeId} (h : fn.results = #[.cell p ty]) (tmps : Array Value) (w : World) (g : Nat) (cs : List Value) (d : TypeDesc)
    (hp : tmps.getD p undef = .pointer (some ⟨g, 0, none⟩)) (hc : w.rangeAt g 0 cs) (hu : P.underlying ty = some d) (hd : d.isRow = true) (hi : (P.info? ty).map (·.size) = some cs.length) :
    (results fn tmps).run P w = .ok (.agg cs.toArray) w := by
  have hp' : tmps[p]?.getD undef = .pointer (some ⟨g, 0, none⟩) := by simpa using hp
  simp [results, h, hp', asAddr, run_loadVar_mid w g 0 ty cs d hc hu hd hi]

theorem table_zero (w : World) : Sem.run Try.prog (zeroValue 26) w = .ok (.agg zeros) w := by kernel_rfl
theorem table_info : (Try.prog.info? 26).map (·.size) = some 256 := by kernel_rfl

def RetTable (w : World) (e : Ending) (w' : World) : Prop := e = .returned (.agg (tabTo 256)) ∧ Below w.heap.size w w'
set_option maxRecDepth 100000 in
theorem table_calls (w : World) : Calls Try.prog 11 #[] w fun e w' => RetTable w e w' := by
  have hz := table_zero
  go_enter Try.func11, Try.ntmps11
  go_wp2
  go_loopw [3] (fun i wr => ∃ k : Nat, k ≤ 256 ∧ i = .int .i64 k ∧ Hid (wr.heap[w.heap.size + 1]? = some (.cells (tabTo k) 26)) ∧ Hid (wr.heap[w.heap.size]? = some (.cells zeros 26)) ∧ Below w.heap.size w wr) (fun i _ => 256 - (intOf i).toNat)
  case atStart =>
    refine ⟨0, by omega, rfl, ?_, heap_alloc2_old _ _ _, ((Below.refl _ _).alloc (Nat.le_refl _) _).alloc (by simp) _⟩
    rw [tabTo_zero]
    exact heap_alloc2_new _ _ _
  case round =>
    clear hz
    obtain ⟨k, hk, rfl, H1, H0, hb⟩ := hrel
    by_cases hlt : k < 256
    · have hc : wr.cell? ⟨w.heap.size + 1, k, none⟩ = some (.int .u32 0) := by
        rw [cell_of_row _ _ _ _ _ _ H1.out, tabTo_get k k hlt, if_neg (by omega)]
      have hf : wr.frozen? ⟨w.heap.size + 1, k, none⟩ = false := frozen_of_row _ _ _ _ _ H1.out
      go_wp2_with (go_at_call 21; refine stop ?_)
      unfold Stop
      refine (steps_calls _ (BitVec.ofNat 32 (k * 16777216)) (by rw [BitVec.toNat_ofNat]; omega) _).mono ?_
      rintro e w' ⟨rfl, rfl⟩
      go_wp2
      go_roundw
      case rel =>
        refine ⟨k + 1, by omega, by go_num, ?_, ?_, hb.setCell (by show _ ≤ w.heap.size + 1; omega) _⟩
        · rw [← tabTo_succ k hlt]
          exact heap_setCell_same _ _ _ _ _ _ H1.out
        · exact (heap_setCell_other _ _ _ _ (by show w.heap.size ≠ w.heap.size + 1; omega)).trans H0.out
      case measure => simp [intOf]; omega
    · obtain rfl : k = 256 := by omega
      have hth : wr.there w.heap.size 0 (tabTo 256).size := by
        intro j hj
        rw [tabTo_size] at hj
        refine ⟨?_, frozen_of_row _ _ _ _ _ H0.out⟩
        rw [cell_of_row _ _ _ _ _ _ H0.out, ← tabTo_zero, tabTo_get _ _ (by omega)]
        rfl
      have HT := hid hth
      clear hth
      go_wp2_with (first | (refine wpList_load_row rfl 26 (.tmp 1) rfl (w.heap.size + 1) rfl _ (tabTo 256) _ _ H1.out Try.underlying26 rfl (by rw [tabTo_size]; exact table_info) ?_) | (refine wpList_store_mid rfl 26 (.tmp 0) (.tmp 13) rfl w.heap.size 0 (tabTo 256) rfl rfl HT.out (by rw [tabTo_size]; exact table_info) (tabTo_one _) ?_))
      have hr := World.rangeAt_setCells_same wr w.heap.size 0 (tabTo 256).toList (by rw [Array.length_toList]; exact HT.out)
      refine bodyPost_ret (v := .agg (tabTo 256)) ?_ rfl ⟨rfl, below_setCells (Nat.le_refl _) _ _ _ _ hb⟩
      exact results_cell_mid (P := Try.prog) Try.results11 _ _ w.heap.size (tabTo 256).toList _ rfl hr Try.underlying26 rfl (by rw [Array.length_toList, tabTo_size]; exact table_info)
end Go.Proofs.Ytnfhholdaidpnaa.Sm
