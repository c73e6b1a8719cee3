/- A reader of bytes (wire.Reader): what each of its calls returns, what it turns of the reader, and that nothing else is turned. -/
import Derived.Test.YtfpgdimgffamoaaGreatDoorWrStep
import Derived.Test.YtfpgdimgffamoaaGreatDoorWr
import Derived.Test.YtfpgdimgffamoaaGreatDoorSmClone
import Derived.Test.YtfpgdimgffamoaaGreatDoorSmA
namespace Go.Proofs.YtfpgdimgffamoaaGreatDoor.Wr
open Go.ChangeShapes Go.WideShapes Go.ChangeAt Go.RowKit Go.Proofs.YtfpgdimgffamoaaGreatDoor.Sm
set_option maxHeartbeats 400000
set_option maxRecDepth 100000

/-! ### wire.Reader -/
/-- Block g holds a reader of l that has read at_ bytes; what it reads lies below block g. -/
def Rd (w : World) (g : Nat) (l : List UInt8) (at_ : Nat) (bad : Bool) : Prop :=
  ∃ a n c, w.heap[g]? = some (.cells #[.slice a n c, .int .i64 (at_ : Int), .bool bad] 112 (0, 0)) ∧ Row8 w g a n c (l.drop at_) ∧ at_ ≤ l.length ∧ l.length ≤ 1000000
theorem Rd.lt {w : World} {g : Nat} {l : List UInt8} {at_ : Nat} {bad : Bool} (h : Rd w g l at_ bad) : g < w.heap.size := by
  obtain ⟨a, n, c, hg, _⟩ := h
  exact (Array.getElem?_eq_some_iff.1 hg).1
theorem Rd.below {w w' : World} {g B : Nat} {l : List UInt8} {at_ : Nat} {bad : Bool} (h : Rd w g l at_ bad) (hb : Below B w w') (hB : g < B) : Rd w' g l at_ bad := by
  obtain ⟨a, n, c, hg, hr, h2⟩ := h
  exact ⟨a, n, c, (hb.block g hB).trans hg, hr.below (hb.mono (by omega)), h2⟩
/-- a reader stays while another block is turned that is not beneath it. -/
theorem Rd.beside {w w' : World} {g g' : Nat} {l : List UInt8} {at_ : Nat} {bad : Bool} (h : Rd w g l at_ bad) (hb : Beside g' w w') (hB : g < g') : Rd w' g l at_ bad :=
  h.below (hb.below (B := g + 1) (by omega) (by have := h.lt; omega)) (by omega)
/-- a piece of what is read, and what became of the reader. -/
def RetNext (w : World) (g : Nat) (l : List UInt8) (at_ : Nat) (bad : Bool) (k : Int) (e : Ending) (w' : World) : Prop :=
  ∃ a n c, e = .returned (.slice a n c) ∧ Row8 w' g a n c (gotL l at_ bad k) ∧ Rd w' g l (atN l at_ bad k) (badN l at_ bad k) ∧ Beside g w w'
theorem next_calls (g : Nat) (l : List UInt8) (at_ : Nat) (bad : Bool) (k : Int) (w : World) (h : Rd w g l at_ bad) :
    Calls Tryz.prog 88 #[.pointer (some ⟨g, 0, none⟩), .int .i64 k] w fun e w' => RetNext w g l at_ bad k e w' := by
  obtain ⟨a, n, c, hg, hr, hat, hl⟩ := h
  have HG := hid hg
  have HR := hid hr
  have HN : Hid (l.length - at_ = n) := by have := hr.len; rw [List.length_drop] at this; exact this
  have hnn : n ≤ 1000000 := by have := HN.out; omega
  have hnc := hr.room
  have hc0 : w.cell? ⟨g, 0, none⟩ = some (.slice a n c) := cell_of_row _ _ _ _ _ _ hg
  have hc1 : w.cell? ⟨g, 1, none⟩ = some (.int .i64 (at_ : Int)) := cell_of_row _ _ _ _ _ _ hg
  have hc2 : w.cell? ⟨g, 2, none⟩ = some (.bool bad) := cell_of_row _ _ _ _ _ _ hg
  have hf0 : w.frozen? ⟨g, 0, none⟩ = false := frozen_of_row _ _ _ _ _ hg
  have hf1 : w.frozen? ⟨g, 1, none⟩ = false := frozen_of_row _ _ _ _ _ hg
  have hf2 : w.frozen? ⟨g, 2, none⟩ = false := frozen_of_row _ _ _ _ _ hg
  have hatb : at_ ≤ 1000000 := by omega
  clear hg hr
  obtain ⟨i0, hi0, hz0, hz1, hz2⟩ := info_parts byte_info
  cases bad with
  | true =>
    have ho := got_no (ok_bad l at_ k)
    have HO := hid ho
    clear ho
    go_enter Tryz.func88, Tryz.ntmps88
    go_wp2
    go_ret
    refine ⟨none, 0, 0, rfl, ?_, ?_, Beside.refl _ _⟩
    · rw [HO.out.1]; exact Row8.nil
    · rw [HO.out.2.1, HO.out.2.2]; exact ⟨a, n, c, HG.out, HR.out, hat, hl⟩
  | false =>
    have hset : ∀ u : World, u = w.setCell ⟨g, 2, none⟩ (.bool true) → okB l at_ false k = false → Row8 u g none 0 0 (gotL l at_ false k) ∧ Rd u g l (atN l at_ false k) (badN l at_ false k) ∧ Beside g w u := by
      rintro u rfl ho
      have HO := got_no ho
      refine ⟨by rw [HO.1]; exact Row8.nil, ?_, (Beside.refl _ _).setCell _ _⟩
      rw [HO.2.1, HO.2.2]
      exact ⟨a, n, c, heap_setCell_same _ _ _ _ _ _ HG.out, HR.out.below ((Below.refl _ _).setCell (p := ⟨g, 2, none⟩) (Nat.le_refl g) _), hat, hl⟩
    have HS := hid hset
    clear hset
    by_cases hk0 : k < 0
    · go_enter Tryz.func88, Tryz.ntmps88
      go_wp2
      go_ret
      exact ⟨none, 0, 0, rfl, HS.out _ rfl (ok_neg _ _ _ hk0)⟩
    by_cases hk1 : (n : Int) < k
    · go_enter Tryz.func88, Tryz.ntmps88
      go_wp2
      go_ret
      exact ⟨none, 0, 0, rfl, HS.out _ rfl (ok_less _ _ _ (by have := HN.out; omega))⟩
    obtain ⟨m, rfl⟩ := Int.eq_ofNat_of_zero_le (show 0 ≤ k by omega)
    have ho := got_yes (ok_yes l at_ (k := (m : Int)) (by omega) (by have := HN.out; omega))
    rw [Int.toNat_natCast] at ho
    have HO := hid ho
    have r1 := fun w => run_cut_h (P := Tryz.prog) Tryz.underlying22 hi0 hz1 w a n c m (by omega)
    have r2 := fun w => run_cut_l (P := Tryz.prog) Tryz.underlying22 hi0 hz1 w a n c m (by omega)
    clear ho HS
    go_enter Tryz.func88, Tryz.ntmps88
    go_wp2
    go_ret
    refine ⟨cutA a c 0, m, c, rfl, ?_, ?_, ((Beside.refl _ _).setCell _ _).setCell _ _⟩
    · rw [HO.out.1]
      have h := HR.out.cut (lo := 0) (hi := m) (by omega) (by omega)
      rw [List.drop_zero] at h
      have e : (l.take (at_ + m)).drop at_ = (l.drop at_).take m := by rw [List.drop_take, Nat.add_sub_cancel_left]
      rw [e]
      exact h.below (((Below.refl _ _).setCell (p := ⟨g, 0, none⟩) (Nat.le_refl g) _).setCell (p := ⟨g, 1, none⟩) (Nat.le_refl g) _)
    · rw [HO.out.2.1, HO.out.2.2]
      have h := HR.out.cut (lo := m) (hi := n) (by omega) (by omega)
      rw [List.take_of_length_le (by rw [List.length_drop]; exact Nat.le_of_eq HN.out), List.drop_drop] at h
      refine ⟨cutA a c m, n - m, c - m, ?_, h.below (((Below.refl _ _).setCell (p := ⟨g, 0, none⟩) (Nat.le_refl g) _).setCell (p := ⟨g, 1, none⟩) (Nat.le_refl g) _), by have := HN.out; omega, hl⟩
      have h2 := heap_setCell_same _ _ 1 _ _ (.int .i64 ((at_ : Int) + (m : Int))) (heap_setCell_same _ _ 0 _ _ (.slice (cutA a c m) (n - m) (c - m)) HG.out)
      rw [h2, Int.natCast_add]
      rfl
theorem digits_calls (g : Nat) (l : List UInt8) (at_ : Nat) (bad : Bool) (k : Int) (w : World) (h : Rd w g l at_ bad) :
    Calls Tryz.prog 86 #[.pointer (some ⟨g, 0, none⟩), .int .i64 k] w fun e w' => RetNext w g l at_ bad (wid k) e w' := by
  have HR := hid h
  clear h
  by_cases hb : k < 1 ∨ 7 < k
  · have e : wid k = -1 := by unfold wid; rw [if_neg (by omega)]
    rw [e]
    clear e
    go_enter Tryz.func86, Tryz.ntmps86
    go_wp2_with (first | (go_at_call 77; refine (fits_no _ hb _).mono ?_; rintro e w' ⟨rfl, rfl⟩) | (go_at_call 88; refine (next_calls g l at_ bad (-1) _ HR.out).mono ?_; rintro e w' ⟨a, n, c, rfl, h1, h2, h3⟩))
    go_ret
    exact ⟨a, n, c, rfl, h1, h2, h3⟩
  · have h1 : 1 ≤ k := by omega
    have h7 : k ≤ 7 := by omega
    have e : wid k = k := by unfold wid; rw [if_pos ⟨h1, h7⟩]
    rw [e]
    clear e hb
    go_enter Tryz.func86, Tryz.ntmps86
    go_wp2_with (first | (go_at_call 77; refine (fits_yes _ h1 h7 _).mono ?_; rintro e w' ⟨rfl, rfl⟩) | (go_at_call 88; refine (next_calls g l at_ bad k _ HR.out).mono ?_; rintro e w' ⟨a, n, c, rfl, h1, h2, h3⟩))
    go_ret
    exact ⟨a, n, c, rfl, h1, h2, h3⟩
theorem take_calls (g : Nat) (l : List UInt8) (at_ : Nat) (bad : Bool) (k : Int) (w : World) (h : Rd w g l at_ bad) :
    Calls Tryz.prog 83 #[.pointer (some ⟨g, 0, none⟩), .int .i64 k] w fun e w' => RetTake Rd w g l at_ bad k e w' := by
  have HR := hid h
  have hl : l.length ≤ 1000000 := h.choose_spec.choose_spec.choose_spec.2.2.2
  clear h
  go_enter Tryz.func83, Tryz.ntmps83
  go_wp2_with (go_at_call 88; refine stop ?_)
  unfold Stop
  refine (next_calls g l at_ bad k _ HR.out).mono ?_
  rintro e w1 ⟨a, n, c, rfl, h1, h2, h3⟩
  have hn : n ≤ 1000000 := by have := h1.len; have := got_le l at_ bad k; omega
  have H1 := hid (h1.more (Nat.le_of_lt h2.lt))
  have H2 := hid h2
  have H3 := hid h3
  clear h1 h2 h3 HR
  go_wp2_with (go_at_call 37; refine stop ?_)
  unfold Stop
  refine (clone_calls a n c _ _ H1.out (by omega)).mono ?_
  rintro e w2 ⟨v, rfl, hm⟩
  have hb2 := hm.2
  have HM := hid (owns_mono hm.1 H3.out.size)
  clear hm
  go_wp2
  go_ret
  exact ⟨v, rfl, HM.out, H2.out.below hb2 H2.out.lt, H3.out.trans (Beside.of_below hb2)⟩
theorem rnumber_calls (g : Nat) (l : List UInt8) (at_ : Nat) (bad : Bool) (k : Int) (w : World) (h : Rd w g l at_ bad) :
    Calls Tryz.prog 81 #[.pointer (some ⟨g, 0, none⟩), .int .i64 k] w fun e w' => RetNum Rd numI w g l at_ bad (wid k) e w' := by
  have HR := hid h
  clear h
  go_enter Tryz.func81, Tryz.ntmps81
  go_wp2_with (go_at_call 86; refine stop ?_)
  unfold Stop
  refine (digits_calls g l at_ bad k _ HR.out).mono ?_
  rintro e w1 ⟨a, n, c, rfl, h1, h2, h3⟩
  have H1 := hid h1
  have H2 := hid h2
  have H3 := hid h3
  clear h1 h2 h3 HR
  go_wp2_with (go_at_call 85; refine stop ?_)
  unfold Stop
  refine (number_calls a n c _ _ _ H1.out).mono ?_
  rintro e w2 ⟨rfl, rfl⟩
  go_wp2
  go_ret
  exact ⟨rfl, H2.out, H3.out⟩
theorem roffset_calls (g : Nat) (l : List UInt8) (at_ : Nat) (bad : Bool) (k : Int) (w : World) (h : Rd w g l at_ bad) :
    Calls Tryz.prog 82 #[.pointer (some ⟨g, 0, none⟩), .int .i64 k] w fun e w' => RetNum Rd offI w g l at_ bad (wid k) e w' := by
  have HR := hid h
  clear h
  go_enter Tryz.func82, Tryz.ntmps82
  go_wp2_with (go_at_call 86; refine stop ?_)
  unfold Stop
  refine (digits_calls g l at_ bad k _ HR.out).mono ?_
  rintro e w1 ⟨a, n, c, rfl, h1, h2, h3⟩
  have H1 := hid h1
  have H2 := hid h2
  have H3 := hid h3
  clear h1 h2 h3 HR
  go_wp2_with (go_at_call 87; refine stop ?_)
  unfold Stop
  refine (offset_calls a n c _ _ _ H1.out).mono ?_
  rintro e w2 ⟨rfl, rfl⟩
  go_wp2
  go_ret
  exact ⟨rfl, H2.out, H3.out⟩
theorem at_calls (g : Nat) (l : List UInt8) (at_ : Nat) (bad : Bool) (w : World) (h : Rd w g l at_ bad) :
    Calls Tryz.prog 40 #[.pointer (some ⟨g, 0, none⟩)] w fun e w' => e = .returned (.int .i64 (at_ : Int)) ∧ w = w' := by
  obtain ⟨a, n, c, hg, _⟩ := h
  have hc1 : w.cell? ⟨g, 1, none⟩ = some (.int .i64 (at_ : Int)) := cell_of_row _ _ _ _ _ _ hg
  clear hg
  go_enter Tryz.func40, Tryz.ntmps40
  go_wp2
  go_ret
  exact ⟨rfl, rfl⟩
theorem bad_calls (g : Nat) (l : List UInt8) (at_ : Nat) (bad : Bool) (w : World) (h : Rd w g l at_ bad) :
    Calls Tryz.prog 84 #[.pointer (some ⟨g, 0, none⟩)] w fun e w' => e = .returned (.bool bad) ∧ w = w' := by
  obtain ⟨a, n, c, hg, _⟩ := h
  have hc1 : w.cell? ⟨g, 2, none⟩ = some (.bool bad) := cell_of_row _ _ _ _ _ _ hg
  clear hg
  go_enter Tryz.func84, Tryz.ntmps84
  go_wp2
  go_ret
  exact ⟨rfl, rfl⟩
/-- a new reader. -/
def RetNew (w : World) (l : List UInt8) (e : Ending) (w' : World) : Prop := ∃ g, e = .returned (.pointer (some ⟨g, 0, none⟩)) ∧ w.heap.size ≤ g ∧ Rd w' g l 0 false ∧ Below w.heap.size w w'
theorem new_calls (a : Option Addr) (n c : Nat) (l : List UInt8) (w : World) (hr : Row8 w w.heap.size a n c l) (hn : n ≤ 1000000) :
    Calls Tryz.prog 38 #[.slice a n c] w fun e w' => RetNew w l e w' := by
  have HR := hid hr
  have HL := hid hr.len
  clear hr
  go_enter Tryz.func38, Tryz.ntmps38
  go_wp2_with (go_at_call 37; refine stop ?_)
  unfold Stop
  refine (clone_calls a n c l _ HR.out (by omega)).mono ?_
  rintro e w2 ⟨v, rfl, hm⟩
  obtain ⟨a2, c2, rfl, hr2, hb2⟩ := hm.slice
  have HR2 := hid hr2
  clear hm hr2
  go_wp2
  go_ret
  refine ⟨w2.heap.size, rfl, hb2.size, ?_, hb2.alloc hb2.size _⟩
  refine ⟨a2, _, c2, heap_alloc_new _ _, ?_, by omega, by rw [HL.out]; exact hn⟩
  rw [List.drop_zero]
  exact HR2.out.below ((Below.refl _ _).alloc (Nat.le_refl _) _)
end Go.Proofs.YtfpgdimgffamoaaGreatDoor.Wr
