/- A reader of bytes (wire.Reader, and the document's own): what each of its calls returns, what it turns of the reader, and that nothing else is turned. -/
import Derived.Test.YtceahjjffnfalaaWrMade
import Derived.Test.YtceahjjffnfalaaSmCut
import Derived.Test.YtceahjjffnfalaaSmQuiet
namespace Go.Proofs.Ytceahjjffnfalaa.Wr
open Go.ChangeShapes Go.WideShapes Go.ChangeAt Go.RowKit Go.Proofs.Ytceahjjffnfalaa.Sm
set_option maxHeartbeats 400000

/-! ### what is read -/
/-- can k bytes be read? -/
def okB (l : List UInt8) (at_ : Nat) (bad : Bool) (k : Int) : Bool := decide (bad = false ∧ 0 ≤ k ∧ k ≤ (l.length : Int) - (at_ : Int))
def gotL (l : List UInt8) (at_ : Nat) (bad : Bool) (k : Int) : List UInt8 := if okB l at_ bad k = true then (l.take (at_ + k.toNat)).drop at_ else []
def atN (l : List UInt8) (at_ : Nat) (bad : Bool) (k : Int) : Nat := if okB l at_ bad k = true then at_ + k.toNat else at_
def badN (l : List UInt8) (at_ : Nat) (bad : Bool) (k : Int) : Bool := !okB l at_ bad k
/-- how many bytes a number of this width asks for: fewer than none, where there is no such number. -/
def wid (k : Int) : Int := if 1 ≤ k ∧ k ≤ 7 then k else -1
theorem ok_bad (l : List UInt8) (at_ : Nat) (k : Int) : okB l at_ true k = false := by simp [okB]
theorem ok_neg (l : List UInt8) (at_ : Nat) (bad : Bool) {k : Int} (h : k < 0) : okB l at_ bad k = false := by unfold okB; refine decide_eq_false ?_; omega
theorem ok_less (l : List UInt8) (at_ : Nat) (bad : Bool) {k : Int} (h : (l.length : Int) - (at_ : Int) < k) : okB l at_ bad k = false := by unfold okB; refine decide_eq_false ?_; omega
theorem ok_yes (l : List UInt8) (at_ : Nat) {k : Int} (h0 : 0 ≤ k) (h : k ≤ (l.length : Int) - (at_ : Int)) : okB l at_ false k = true := by unfold okB; exact decide_eq_true ⟨rfl, h0, h⟩
theorem got_no {l : List UInt8} {at_ : Nat} {bad : Bool} {k : Int} (h : okB l at_ bad k = false) : gotL l at_ bad k = [] ∧ atN l at_ bad k = at_ ∧ badN l at_ bad k = true := by
  unfold gotL atN badN; rw [h]; exact ⟨rfl, rfl, rfl⟩
theorem got_yes {l : List UInt8} {at_ : Nat} {bad : Bool} {k : Int} (h : okB l at_ bad k = true) : gotL l at_ bad k = (l.take (at_ + k.toNat)).drop at_ ∧ atN l at_ bad k = at_ + k.toNat ∧ badN l at_ bad k = false := by
  unfold gotL atN badN; rw [h]; exact ⟨rfl, rfl, rfl⟩
theorem atN_le {l : List UInt8} {at_ : Nat} {bad : Bool} {k : Int} (h : at_ ≤ l.length) : atN l at_ bad k ≤ l.length := by
  unfold atN
  split
  · rename_i ho
    have := of_decide_eq_true (show decide _ = true from ho)
    omega
  · exact h

/-! ### wire.Reader -/
/-- Block g holds a reader of l that has read at_ bytes; what it reads lies below block g. -/
def Rd (w : World) (g : Nat) (l : List UInt8) (at_ : Nat) (bad : Bool) : Prop :=
  ∃ a n c, w.heap[g]? = some (.cells #[.slice a n c, .int .i64 (at_ : Int), .bool bad] 47 (0, 0)) ∧ Row8 w g a n c (l.drop at_) ∧ at_ ≤ l.length ∧ l.length ≤ 1000000
theorem Rd.lt {w : World} {g : Nat} {l : List UInt8} {at_ : Nat} {bad : Bool} (h : Rd w g l at_ bad) : g < w.heap.size := by
  obtain ⟨a, n, c, hg, _⟩ := h
  exact (Array.getElem?_eq_some_iff.1 hg).1
theorem Rd.below {w w' : World} {g B : Nat} {l : List UInt8} {at_ : Nat} {bad : Bool} (h : Rd w g l at_ bad) (hb : Below B w w') (hB : g < B) : Rd w' g l at_ bad := by
  obtain ⟨a, n, c, hg, hr, h2⟩ := h
  exact ⟨a, n, c, (hb.block g hB).trans hg, hr.below (hb.mono (by omega)), h2⟩
/-- a reader stays while another block is turned that is not beneath it. -/
theorem Rd.beside {w w' : World} {g g' : Nat} {l : List UInt8} {at_ : Nat} {bad : Bool} (h : Rd w g l at_ bad) (hb : Beside g' w w') (hB : g < g') : Rd w' g l at_ bad :=
  h.below (hb.below (B := g + 1) (by omega) (by have := h.lt; omega)) (by omega)

/-- a piece of what is read, and what became of the reader. -/
def RetNext (w : World) (g : Nat) (l : List UInt8) (at_ : Nat) (bad : Bool) (k : Int) (e : Ending) (w' : World) : Prop :=
  ∃ a n c, e = .returned (.slice a n c) ∧ Row8 w' g a n c (gotL l at_ bad k) ∧ Rd w' g l (atN l at_ bad k) (badN l at_ bad k) ∧ Beside g w w'

theorem next_calls (g : Nat) (l : List UInt8) (at_ : Nat) (bad : Bool) (k : Int) (w : World) (h : Rd w g l at_ bad) :
    Calls Try.prog 30 #[.pointer (some ⟨g, 0, none⟩), .int .i64 k] w fun e w' => RetNext w g l at_ bad k e w' := by
  obtain ⟨a, n, c, hg, hr, hat, hl⟩ := h
  have HG := hid hg
  have HR := hid hr
  have HN : Hid (l.length - at_ = n) := by have := hr.len; rw [List.length_drop] at this; exact this
  have hnn : n ≤ 1000000 := by have := HN.out; omega
  have hnc := hr.room
  have hc0 : w.cell? ⟨g, 0, none⟩ = some (.slice a n c) := cell_of_row _ _ _ _ _ _ hg
  have hc1 : w.cell? ⟨g, 1, none⟩ = some (.int .i64 (at_ : Int)) := cell_of_row _ _ _ _ _ _ hg
  have hc2 : w.cell? ⟨g, 2, none⟩ = some (.bool bad) := cell_of_row _ _ _ _ _ _ hg
  have hf0 : w.frozen? ⟨g, 0, none⟩ = false := frozen_of_row _ _ _ _ _ hg
  have hf1 : w.frozen? ⟨g, 1, none⟩ = false := frozen_of_row _ _ _ _ _ hg
  have hf2 : w.frozen? ⟨g, 2, none⟩ = false := frozen_of_row _ _ _ _ _ hg
  have hatb : at_ ≤ 1000000 := by omega
  clear hg hr
  obtain ⟨i0, hi0, hz0, hz1, hz2⟩ := info_parts byte_info
  cases bad with
  | true =>
    have ho := got_no (ok_bad l at_ k)
    have HO := hid ho
    clear ho
    go_enter Try.func30, Try.ntmps30
    go_wp2
    go_ret
    refine ⟨none, 0, 0, rfl, ?_, ?_, Beside.refl _ _⟩
    · rw [HO.out.1]; exact Row8.nil
    · rw [HO.out.2.1, HO.out.2.2]; exact ⟨a, n, c, HG.out, HR.out, hat, hl⟩
  | false =>
    have hset : ∀ u : World, u = w.setCell ⟨g, 2, none⟩ (.bool true) → okB l at_ false k = false → Row8 u g none 0 0 (gotL l at_ false k) ∧ Rd u g l (atN l at_ false k) (badN l at_ false k) ∧ Beside g w u := by
      rintro u rfl ho
      have HO := got_no ho
      refine ⟨by rw [HO.1]; exact Row8.nil, ?_, (Beside.refl _ _).setCell _ _⟩
      rw [HO.2.1, HO.2.2]
      exact ⟨a, n, c, heap_setCell_same _ _ _ _ _ _ HG.out, HR.out.below ((Below.refl _ _).setCell (p := ⟨g, 2, none⟩) (Nat.le_refl g) _), hat, hl⟩
    have HS := hid hset
    clear hset
    by_cases hk0 : k < 0
    · go_enter Try.func30, Try.ntmps30
      go_wp2
      go_ret
      exact ⟨none, 0, 0, rfl, HS.out _ rfl (ok_neg _ _ _ hk0)⟩
    by_cases hk1 : (n : Int) < k
    · go_enter Try.func30, Try.ntmps30
      go_wp2
      go_ret
      exact ⟨none, 0, 0, rfl, HS.out _ rfl (ok_less _ _ _ (by have := HN.out; omega))⟩
    obtain ⟨m, rfl⟩ := Int.eq_ofNat_of_zero_le (show 0 ≤ k by omega)
    have ho := got_yes (ok_yes l at_ (k := (m : Int)) (by omega) (by have := HN.out; omega))
    rw [Int.toNat_natCast] at ho
    have HO := hid ho
    have r1 := fun w => run_cut_h (P := Try.prog) Try.underlying22 hi0 hz1 w a n c m (by omega)
    have r2 := fun w => run_cut_l (P := Try.prog) Try.underlying22 hi0 hz1 w a n c m (by omega)
    clear ho HS
    go_enter Try.func30, Try.ntmps30
    go_wp2
    go_ret
    refine ⟨cutA a c 0, m, c, rfl, ?_, ?_, ((Beside.refl _ _).setCell _ _).setCell _ _⟩
    · rw [HO.out.1]
      have h := HR.out.cut (lo := 0) (hi := m) (by omega) (by omega)
      rw [List.drop_zero] at h
      have e : (l.take (at_ + m)).drop at_ = (l.drop at_).take m := by rw [List.drop_take, Nat.add_sub_cancel_left]
      rw [e]
      exact h.below (((Below.refl _ _).setCell (p := ⟨g, 0, none⟩) (Nat.le_refl g) _).setCell (p := ⟨g, 1, none⟩) (Nat.le_refl g) _)
    · rw [HO.out.2.1, HO.out.2.2]
      have h := HR.out.cut (lo := m) (hi := n) (by omega) (by omega)
      rw [List.take_of_length_le (by rw [List.length_drop]; exact Nat.le_of_eq HN.out), List.drop_drop] at h
      refine ⟨cutA a c m, n - m, c - m, ?_, h.below (((Below.refl _ _).setCell (p := ⟨g, 0, none⟩) (Nat.le_refl g) _).setCell (p := ⟨g, 1, none⟩) (Nat.le_refl g) _), by have := HN.out; omega, hl⟩
      have h2 := heap_setCell_same _ _ 1 _ _ (.int .i64 ((at_ : Int) + (m : Int))) (heap_setCell_same _ _ 0 _ _ (.slice (cutA a c m) (n - m) (c - m)) HG.out)
      rw [h2, Int.natCast_add]
      rfl

theorem digits_calls (g : Nat) (l : List UInt8) (at_ : Nat) (bad : Bool) (k : Int) (w : World) (h : Rd w g l at_ bad) :
    Calls Try.prog 32 #[.pointer (some ⟨g, 0, none⟩), .int .i64 k] w fun e w' => RetNext w g l at_ bad (wid k) e w' := by
  have HR := hid h
  clear h
  by_cases hb : k < 1 ∨ 7 < k
  · have e : wid k = -1 := by unfold wid; rw [if_neg (by omega)]
    rw [e]
    clear e
    go_enter Try.func32, Try.ntmps32
    go_wp2_with (first | (go_at_call 27; refine (fits_no _ hb _).mono ?_; rintro e w' ⟨rfl, rfl⟩) | (go_at_call 30; refine (next_calls g l at_ bad (-1) _ HR.out).mono ?_; rintro e w' ⟨a, n, c, rfl, h1, h2, h3⟩))
    go_ret
    exact ⟨a, n, c, rfl, h1, h2, h3⟩
  · have h1 : 1 ≤ k := by omega
    have h7 : k ≤ 7 := by omega
    have e : wid k = k := by unfold wid; rw [if_pos ⟨h1, h7⟩]
    rw [e]
    clear e hb
    go_enter Try.func32, Try.ntmps32
    go_wp2_with (first | (go_at_call 27; refine (fits_yes _ h1 h7 _).mono ?_; rintro e w' ⟨rfl, rfl⟩) | (go_at_call 30; refine (next_calls g l at_ bad k _ HR.out).mono ?_; rintro e w' ⟨a, n, c, rfl, h1, h2, h3⟩))
    go_ret
    exact ⟨a, n, c, rfl, h1, h2, h3⟩

/-- new bytes, and what became of the reader. -/
def RetTake (R : World → Nat → List UInt8 → Nat → Bool → Prop) (w : World) (g : Nat) (l : List UInt8) (at_ : Nat) (bad : Bool) (k : Int) (e : Ending) (w' : World) : Prop :=
  ∃ v, e = .returned v ∧ w'.ownsRow w.heap.size 5 1 v (gotL l at_ bad k).length (cells8 (gotL l at_ bad k)) ∧ R w' g l (atN l at_ bad k) (badN l at_ bad k) ∧ Beside g w w'
theorem RetTake.slice {R : World → Nat → List UInt8 → Nat → Bool → Prop} {w : World} {g : Nat} {l : List UInt8} {at_ : Nat} {bad : Bool} {k : Int} {e : Ending} {w' : World} (h : RetTake R w g l at_ bad k e w') :
    ∃ a n c, e = .returned (.slice a n c) ∧ Row8 w' w'.heap.size a n c (gotL l at_ bad k) ∧ w'.ownsRow w.heap.size 5 1 (.slice a n c) n (cells8 (gotL l at_ bad k)) ∧ R w' g l (atN l at_ bad k) (badN l at_ bad k) ∧ Beside g w w' := by
  obtain ⟨v, rfl, ho, hr, hb⟩ := h
  obtain ⟨a, c, rfl, h8⟩ := owns_slice ho
  exact ⟨a, _, c, rfl, h8, ho, hr, hb⟩
def RetNum (R : World → Nat → List UInt8 → Nat → Bool → Prop) (f : List UInt8 → Int) (w : World) (g : Nat) (l : List UInt8) (at_ : Nat) (bad : Bool) (k : Int) (e : Ending) (w' : World) : Prop :=
  e = .returned (.int .i64 (f (gotL l at_ bad k))) ∧ R w' g l (atN l at_ bad k) (badN l at_ bad k) ∧ Beside g w w'
theorem got_le (l : List UInt8) (at_ : Nat) (bad : Bool) (k : Int) : (gotL l at_ bad k).length ≤ l.length := by
  unfold gotL
  split
  · rw [List.length_drop, List.length_take]; omega
  · simp

theorem take_calls (g : Nat) (l : List UInt8) (at_ : Nat) (bad : Bool) (k : Int) (w : World) (h : Rd w g l at_ bad) :
    Calls Try.prog 19 #[.pointer (some ⟨g, 0, none⟩), .int .i64 k] w fun e w' => RetTake Rd w g l at_ bad k e w' := by
  have HR := hid h
  have hl : l.length ≤ 1000000 := h.choose_spec.choose_spec.choose_spec.2.2.2
  clear h
  go_enter Try.func19, Try.ntmps19
  go_wp2_with (go_at_call 30; refine stop ?_)
  unfold Stop
  refine (next_calls g l at_ bad k _ HR.out).mono ?_
  rintro e w1 ⟨a, n, c, rfl, h1, h2, h3⟩
  have hn : n ≤ 1000000 := by have := h1.len; have := got_le l at_ bad k; omega
  have H1 := hid (h1.more (Nat.le_of_lt h2.lt))
  have H2 := hid h2
  have H3 := hid h3
  clear h1 h2 h3 HR
  go_wp2_with (go_at_call 29; refine stop ?_)
  unfold Stop
  refine (clone_calls a n c _ _ H1.out (by omega)).mono ?_
  rintro e w2 ⟨v, rfl, hm⟩
  have hb2 := hm.2
  have HM := hid (owns_mono hm.1 H3.out.size)
  clear hm
  go_wp2
  go_ret
  exact ⟨v, rfl, HM.out, H2.out.below hb2 H2.out.lt, H3.out.trans (Beside.of_below hb2)⟩

theorem rnumber_calls (g : Nat) (l : List UInt8) (at_ : Nat) (bad : Bool) (k : Int) (w : World) (h : Rd w g l at_ bad) :
    Calls Try.prog 21 #[.pointer (some ⟨g, 0, none⟩), .int .i64 k] w fun e w' => RetNum Rd numI w g l at_ bad (wid k) e w' := by
  have HR := hid h
  clear h
  go_enter Try.func21, Try.ntmps21
  go_wp2_with (go_at_call 32; refine stop ?_)
  unfold Stop
  refine (digits_calls g l at_ bad k _ HR.out).mono ?_
  rintro e w1 ⟨a, n, c, rfl, h1, h2, h3⟩
  have H1 := hid h1
  have H2 := hid h2
  have H3 := hid h3
  clear h1 h2 h3 HR
  go_wp2_with (go_at_call 12; refine stop ?_)
  unfold Stop
  refine (number_calls a n c _ _ _ H1.out).mono ?_
  rintro e w2 ⟨rfl, rfl⟩
  go_wp2
  go_ret
  exact ⟨rfl, H2.out, H3.out⟩
theorem roffset_calls (g : Nat) (l : List UInt8) (at_ : Nat) (bad : Bool) (k : Int) (w : World) (h : Rd w g l at_ bad) :
    Calls Try.prog 23 #[.pointer (some ⟨g, 0, none⟩), .int .i64 k] w fun e w' => RetNum Rd offI w g l at_ bad (wid k) e w' := by
  have HR := hid h
  clear h
  go_enter Try.func23, Try.ntmps23
  go_wp2_with (go_at_call 32; refine stop ?_)
  unfold Stop
  refine (digits_calls g l at_ bad k _ HR.out).mono ?_
  rintro e w1 ⟨a, n, c, rfl, h1, h2, h3⟩
  have H1 := hid h1
  have H2 := hid h2
  have H3 := hid h3
  clear h1 h2 h3 HR
  go_wp2_with (go_at_call 16; refine stop ?_)
  unfold Stop
  refine (offset_calls a n c _ _ _ H1.out).mono ?_
  rintro e w2 ⟨rfl, rfl⟩
  go_wp2
  go_ret
  exact ⟨rfl, H2.out, H3.out⟩
theorem at_calls (g : Nat) (l : List UInt8) (at_ : Nat) (bad : Bool) (w : World) (h : Rd w g l at_ bad) :
    Calls Try.prog 25 #[.pointer (some ⟨g, 0, none⟩)] w fun e w' => e = .returned (.int .i64 (at_ : Int)) ∧ w = w' := by
  obtain ⟨a, n, c, hg, _⟩ := h
  have hc1 : w.cell? ⟨g, 1, none⟩ = some (.int .i64 (at_ : Int)) := cell_of_row _ _ _ _ _ _ hg
  clear hg
  go_enter Try.func25, Try.ntmps25
  go_wp2
  go_ret
  exact ⟨rfl, rfl⟩
theorem bad_calls (g : Nat) (l : List UInt8) (at_ : Nat) (bad : Bool) (w : World) (h : Rd w g l at_ bad) :
    Calls Try.prog 26 #[.pointer (some ⟨g, 0, none⟩)] w fun e w' => e = .returned (.bool bad) ∧ w = w' := by
  obtain ⟨a, n, c, hg, _⟩ := h
  have hc1 : w.cell? ⟨g, 2, none⟩ = some (.bool bad) := cell_of_row _ _ _ _ _ _ hg
  clear hg
  go_enter Try.func26, Try.ntmps26
  go_wp2
  go_ret
  exact ⟨rfl, rfl⟩

/-- a new reader. -/
def RetNew (w : World) (l : List UInt8) (e : Ending) (w' : World) : Prop := ∃ g, e = .returned (.pointer (some ⟨g, 0, none⟩)) ∧ w.heap.size ≤ g ∧ Rd w' g l 0 false ∧ Below w.heap.size w w'
theorem new_calls (a : Option Addr) (n c : Nat) (l : List UInt8) (w : World) (hr : Row8 w w.heap.size a n c l) (hn : n ≤ 1000000) :
    Calls Try.prog 18 #[.slice a n c] w fun e w' => RetNew w l e w' := by
  have HR := hid hr
  have HL := hid hr.len
  clear hr
  go_enter Try.func18, Try.ntmps18
  go_wp2_with (go_at_call 29; refine stop ?_)
  unfold Stop
  refine (clone_calls a n c l _ HR.out (by omega)).mono ?_
  rintro e w2 ⟨v, rfl, hm⟩
  obtain ⟨a2, c2, rfl, hr2, hb2⟩ := hm.slice
  have HR2 := hid hr2
  clear hm hr2
  go_wp2
  go_ret
  refine ⟨w2.heap.size, rfl, hb2.size, ?_, hb2.alloc hb2.size _⟩
  refine ⟨a2, _, c2, heap_alloc_new _ _, ?_, by omega, by rw [HL.out]; exact hn⟩
  rw [List.drop_zero]
  exact HR2.out.below ((Below.refl _ _).alloc (Nat.le_refl _) _)
end Go.Proofs.Ytceahjjffnfalaa.Wr
