/- The document's own reader of bytes: what each of its calls returns, what it turns of the reader, and that nothing else is turned. -/
import Derived.Test.YtceahjjffnfalaaWrRead
import Derived.StillTailTactics
namespace Go.Proofs.Ytceahjjffnfalaa.Wr
open Go.ChangeShapes Go.WideShapes Go.ChangeAt Go.RowKit Go.Proofs.Ytceahjjffnfalaa.Sm
set_option maxHeartbeats 400000

/-- Block g holds the document's own reader of l that has read at_ bytes; what it reads lies below block B. -/
def RdR (B : Nat) (w : World) (g : Nat) (l : List UInt8) (at_ : Nat) (bad : Bool) : Prop :=
  ∃ a n c, w.heap[g]? = some (.cells #[.slice a n c, .int .i64 (at_ : Int), .bool bad] 34 (0, 0)) ∧ Row8 w B a n c l ∧ at_ ≤ l.length ∧ l.length ≤ 1000000 ∧ B ≤ g
theorem RdR.lt {w : World} {B g : Nat} {l : List UInt8} {at_ : Nat} {bad : Bool} (h : RdR B w g l at_ bad) : g < w.heap.size := by
  obtain ⟨a, n, c, hg, _⟩ := h
  exact (Array.getElem?_eq_some_iff.1 hg).1
theorem RdR.below {w w' : World} {B g C : Nat} {l : List UInt8} {at_ : Nat} {bad : Bool} (h : RdR B w g l at_ bad) (hb : Below C w w') (hC : g < C) : RdR B w' g l at_ bad := by
  obtain ⟨a, n, c, hg, hr, h2, h3, h4⟩ := h
  exact ⟨a, n, c, (hb.block g hC).trans hg, hr.below (hb.mono (by omega)), h2, h3, h4⟩
/-- it stays while another block is turned that it does not read. -/
theorem RdR.beside {w w' : World} {B g g' : Nat} {l : List UInt8} {at_ : Nat} {bad : Bool} (h : RdR B w g l at_ bad) (hb : Beside g' w w') (hB : B ≤ g') (hn : g ≠ g') : RdR B w' g l at_ bad := by
  have hlt := h.lt
  obtain ⟨a, n, c, hg, hr, h2, h3, h4⟩ := h
  exact ⟨a, n, c, (hb.block g hlt hn).trans hg, hr.below (hb.below hB (by omega)), h2, h3, h4⟩
/-- what its cells hold. -/
theorem RdR.cells {w : World} {B g : Nat} {l : List UInt8} {at_ : Nat} {bad : Bool} (h : RdR B w g l at_ bad) : w.cell? ⟨g, 1, none⟩ = some (.int .i64 (at_ : Int)) ∧ w.cell? ⟨g, 2, none⟩ = some (.bool bad) := by
  obtain ⟨a, n, c, hg, _⟩ := h
  exact ⟨cell_of_row _ _ _ _ _ _ hg, cell_of_row _ _ _ _ _ _ hg⟩

theorem takeR_calls (B g : Nat) (l : List UInt8) (at_ : Nat) (bad : Bool) (k : Int) (w : World) (h : RdR B w g l at_ bad) :
    Calls Try.prog 20 #[.pointer (some ⟨g, 0, none⟩), .int .i64 k] w fun e w' => RetTake (RdR B) w g l at_ bad k e w' := by
  obtain ⟨a, n, c, hg, hr, hat, hl, hBg⟩ := h
  have HG := hid hg
  have HR := hid hr
  have HN := hid hr.len
  have hnn : n ≤ 1000000 := by have := HN.out; omega
  have hnc := hr.room
  have hc0 : w.cell? ⟨g, 0, none⟩ = some (.slice a n c) := cell_of_row _ _ _ _ _ _ hg
  have hc1 : w.cell? ⟨g, 1, none⟩ = some (.int .i64 (at_ : Int)) := cell_of_row _ _ _ _ _ _ hg
  have hc2 : w.cell? ⟨g, 2, none⟩ = some (.bool bad) := cell_of_row _ _ _ _ _ _ hg
  have hf0 : w.frozen? ⟨g, 0, none⟩ = false := frozen_of_row _ _ _ _ _ hg
  have hf1 : w.frozen? ⟨g, 1, none⟩ = false := frozen_of_row _ _ _ _ _ hg
  have hf2 : w.frozen? ⟨g, 2, none⟩ = false := frozen_of_row _ _ _ _ _ hg
  have hatb : at_ ≤ 1000000 := by omega
  clear hg hr
  obtain ⟨i0, hi0, hz0, hz1, hz2⟩ := info_parts byte_info
  have hset : ∀ (q : Nat) (u : World), u = (w.drewN q).setCell ⟨g, 2, none⟩ (.bool true) → okB l at_ bad k = false → u.ownsRow w.heap.size 5 1 (.slice none 0 0) (gotL l at_ bad k).length (cells8 (gotL l at_ bad k)) ∧ RdR B u g l (atN l at_ bad k) (badN l at_ bad k) ∧ Beside g w u := by
    rintro q u rfl ho
    have HO := got_no ho
    refine ⟨by rw [HO.1]; exact World.ownsRow_nil _ _ _ _, ?_, ((Beside.refl _ _).drewN _).setCell _ _⟩
    rw [HO.2.1, HO.2.2]
    exact ⟨a, n, c, heap_setCell_same _ _ _ _ _ _ HG.out, (HR.out.drewN q).below ((Below.refl _ _).setCell (p := ⟨g, 2, none⟩) hBg _), hat, hl, hBg⟩
  have HS := hid hset
  clear hset
  cases bad with
  | true =>
    go_enter Try.func20, Try.ntmps20
    go_wp2
    go_quiet (fail)
    go_wp2
    go_ret
    exact ⟨.slice none 0 0, rfl, HS.out _ _ rfl (ok_bad _ _ _)⟩
  | false =>
    by_cases hk0 : k < 0
    · go_enter Try.func20, Try.ntmps20
      go_wp2
      go_quiet (fail)
      go_wp2
      go_ret
      exact ⟨.slice none 0 0, rfl, HS.out _ _ rfl (ok_neg _ _ _ hk0)⟩
    have hd0 : decide (k < 0) = false := by simpa using hk0
    have hw1 : IntKind.i64.wrap ((n : Int) - (at_ : Int)) = (n : Int) - (at_ : Int) := IntWalk.i64_in _ (by omega)
    by_cases hk1 : (n : Int) - (at_ : Int) < k
    · have hd1 : decide ((n : Int) - (at_ : Int) < k) = true := by simpa using hk1
      go_enter Try.func20, Try.ntmps20
      go_wp2
      go_quiet (fail)
      go_wp2
      go_ret
      exact ⟨.slice none 0 0, rfl, HS.out _ _ rfl (ok_less _ _ _ (by have := HN.out; omega))⟩
    have hd1 : decide ((n : Int) - (at_ : Int) < k) = false := by simpa using hk1
    obtain ⟨m, rfl⟩ := Int.eq_ofNat_of_zero_le (show 0 ≤ k by omega)
    have hw2 : IntKind.i64.wrap ((at_ : Int) + (m : Int)) = ((at_ + m : Nat) : Int) := by rw [IntWalk.i64_in _ (by omega)]; omega
    have ho := got_yes (ok_yes l at_ (k := (m : Int)) (by omega) (by have := HN.out; omega))
    rw [Int.toNat_natCast] at ho
    have HO := hid ho
    have r1 : ∀ w, (Instr.sliceAt 22 (.slice a n c) (some (.int .i64 (at_ : Int))) (some (.int .i64 ((at_ : Int) + (m : Int)))) none).run Try.prog w = .ok (.slice (cutA a c at_) m (c - at_)) w := fun w => by
      have h := run_cut_lh (P := Try.prog) Try.underlying22 hi0 hz1 w a n c at_ (at_ + m) (by omega) (by omega)
      rw [Int.natCast_add, Nat.add_sub_cancel_left] at h
      exact h
    clear ho HS
    go_enter Try.func20, Try.ntmps20
    go_wp2
    go_quiet (fail)
    have hd : Beside g w (w.drewN nq) := (Beside.refl _ _).drewN _
    have HR' := hid (HR.out.drewN nq)
    have HG' : Hid ((w.drewN nq).heap[g]? = some (.cells #[.slice a n c, .int .i64 (at_ : Int), .bool false] 34 (0, 0))) := HG.out
    have e0 : (w.drewN nq).cell? ⟨g, 0, none⟩ = some (.slice a n c) := hc0
    have e1 : (w.drewN nq).cell? ⟨g, 1, none⟩ = some (.int .i64 (at_ : Int)) := hc1
    have e2 : (w.drewN nq).frozen? ⟨g, 1, none⟩ = false := hf1
    clear HR HG hc0 hc1 hc2 hf0 hf1 hf2
    generalize w.drewN nq = W at *
    have e0' : W.drew.cell? ⟨g, 0, none⟩ = some (.slice a n c) := e0
    have e1' : W.drew.cell? ⟨g, 1, none⟩ = some (.int .i64 (at_ : Int)) := e1
    go_wp2
    go_still_tail 15, (by kernel_rfl)
    change wpList _ _ _ _ _ W.drew
    have hd' : Beside g w W.drew := ⟨hd.os, hd.tape, hd.output, hd.size, hd.block⟩
    have HR2 := hid HR'.out.drew
    have HG2 : Hid (W.drew.heap[g]? = some (.cells #[.slice a n c, .int .i64 (at_ : Int), .bool false] 34 (0, 0))) := HG'.out
    have e2' : W.drew.frozen? ⟨g, 1, none⟩ = false := e2
    clear HR' HG' e0 e1 e2 hd e0'
    generalize W.drew = V at *
    have hcut : Row8 V V.heap.size (cutA a c at_) m (c - at_) (gotL l at_ false (m : Int)) := by
      have h := HR2.out.cut (lo := at_) (hi := at_ + m) (by omega) (by omega)
      rw [Nat.add_sub_cancel_left] at h
      rw [HO.out.1]
      exact h.more (Nat.le_trans hBg (Nat.le_of_lt (Array.getElem?_eq_some_iff.1 HG2.out).1))
    have HC := hid hcut
    clear hcut r1
    go_wp2_with (go_at_call 31; refine stop ?_)
    unfold Stop
    refine (copyR_calls _ _ _ _ _ HC.out (by omega)).mono ?_
    rintro e w2 ⟨v, rfl, hm⟩
    obtain ⟨a2, c2, rfl, hr2, hb2⟩ := hm.slice
    have hgV : g < V.heap.size := (Array.getElem?_eq_some_iff.1 HG2.out).1
    have HR3 := hid hr2
    have HG3 := hid ((hb2.block g hgV).trans HG2.out)
    have f1 : w2.cell? ⟨g, 1, none⟩ = some (.int .i64 (at_ : Int)) := cell_of_row _ _ _ _ _ _ HG3.out
    have f2 : w2.frozen? ⟨g, 1, none⟩ = false := frozen_of_row _ _ _ _ _ HG3.out
    have HM := hid hm.1
    clear hm hr2 e1' e2'
    go_wp2
    go_ret
    have hB3 := hb2.mono (Nat.le_trans hBg (Nat.le_of_lt hgV))
    have hg2 : g < w2.heap.size := Nat.lt_of_lt_of_le hgV hb2.size
    refine ⟨_, rfl, ?_, ?_, (hd'.trans (Beside.of_below hb2)).setCell _ _⟩
    · exact owns_mono (ownsRow_setCell_below HM.out (a := ⟨g, 1, none⟩) hgV _) hd'.size
    · rw [HO.out.2.1, HO.out.2.2]
      refine ⟨a, n, c, ?_, (HR2.out.below hB3).below ((Below.refl _ _).setCell (p := ⟨g, 1, none⟩) hBg _), by have := HN.out; omega, hl, hBg⟩
      have h2 := heap_setCell_same _ _ 1 _ _ (.int .i64 ((at_ : Int) + (m : Int))) HG3.out
      rw [h2, Int.natCast_add]
      rfl

theorem wide_calls (B g : Nat) (l : List UInt8) (at_ : Nat) (bad : Bool) (k : Int) (w : World) (h : RdR B w g l at_ bad) :
    Calls Try.prog 33 #[.pointer (some ⟨g, 0, none⟩), .int .i64 k] w fun e w' => RetTake (RdR B) w g l at_ bad (wid k) e w' := by
  by_cases hb : 1 ≤ k ∧ k ≤ 7
  · obtain ⟨h1, h7⟩ := hb
    have e : wid k = k := by unfold wid; rw [if_pos ⟨h1, h7⟩]
    rw [e]
    have HR := hid h
    clear e h
    go_enter Try.func33, Try.ntmps33
    go_wp2_with (go_at_call 20; refine (takeR_calls B g l at_ bad k _ HR.out).mono ?_; rintro e w' ⟨v, rfl, h1, h2, h3⟩)
    go_ret
    exact ⟨v, rfl, h1, h2, h3⟩
  · have e : wid k = -1 := by unfold wid; rw [if_neg hb]
    rw [e]
    obtain ⟨a, n, c, hg, hr, hat, hl, hBg⟩ := h
    have hR : RdR B (w.setCell ⟨g, 2, none⟩ (.bool true)) g l at_ true := ⟨a, n, c, heap_setCell_same _ _ _ _ _ _ hg, hr.below ((Below.refl _ _).setCell (p := ⟨g, 2, none⟩) hBg _), hat, hl, hBg⟩
    have hc2 : w.cell? ⟨g, 2, none⟩ = some (.bool bad) := cell_of_row _ _ _ _ _ _ hg
    have hf2 : w.frozen? ⟨g, 2, none⟩ = false := frozen_of_row _ _ _ _ _ hg
    have HR := hid hR
    have o1 := got_no (ok_bad l at_ k)
    have o2 := got_no (ok_neg l at_ bad (k := -1) (by omega))
    have O1 := hid o1
    have O2 := hid o2
    clear e hg hr hR o1 o2
    have hB : Beside g w (w.setCell ⟨g, 2, none⟩ (.bool true)) := (Beside.refl _ _).setCell _ _
    by_cases hb1 : k < 1
    all_goals
      go_enter Try.func33, Try.ntmps33
      go_wp2_with (go_at_call 20; refine (takeR_calls B g l at_ true k _ HR.out).mono ?_; rintro e w' ⟨v, rfl, h1, h2, h3⟩)
      go_ret
      rw [O1.out.1] at h1
      rw [O1.out.2.1, O1.out.2.2] at h2
      refine ⟨v, rfl, ?_, ?_, hB.trans h3⟩
      · rw [O2.out.1]; simpa using h1
      · rw [O2.out.2.1, O2.out.2.2]; exact h2
theorem rnumberR_calls (B g : Nat) (l : List UInt8) (at_ : Nat) (bad : Bool) (k : Int) (w : World) (h : RdR B w g l at_ bad) :
    Calls Try.prog 22 #[.pointer (some ⟨g, 0, none⟩), .int .i64 k] w fun e w' => RetNum (RdR B) numI w g l at_ bad (wid k) e w' := by
  have HR := hid h
  clear h
  go_enter Try.func22, Try.ntmps22
  go_wp2_with (go_at_call 33; refine stop ?_)
  unfold Stop
  refine (wide_calls B g l at_ bad k _ HR.out).mono ?_
  intro e w1 h
  obtain ⟨a, n, c, rfl, h1, _, h2, h3⟩ := h.slice
  have H1 := hid h1
  have H2 := hid h2
  have H3 := hid h3
  clear h1 h2 h3 HR
  go_wp2_with (go_at_call 13; refine stop ?_)
  unfold Stop
  refine (numberR_calls a n c _ _ _ H1.out).mono ?_
  rintro e w2 ⟨rfl, rfl⟩
  go_wp2
  go_ret
  exact ⟨rfl, H2.out, H3.out⟩
theorem roffsetR_calls (B g : Nat) (l : List UInt8) (at_ : Nat) (bad : Bool) (k : Int) (w : World) (h : RdR B w g l at_ bad) :
    Calls Try.prog 24 #[.pointer (some ⟨g, 0, none⟩), .int .i64 k] w fun e w' => RetNum (RdR B) offI w g l at_ bad (wid k) e w' := by
  have HR := hid h
  clear h
  go_enter Try.func24, Try.ntmps24
  go_wp2_with (go_at_call 33; refine stop ?_)
  unfold Stop
  refine (wide_calls B g l at_ bad k _ HR.out).mono ?_
  intro e w1 h
  obtain ⟨a, n, c, rfl, h1, _, h2, h3⟩ := h.slice
  have H1 := hid h1
  have H2 := hid h2
  have H3 := hid h3
  clear h1 h2 h3 HR
  go_wp2_with (go_at_call 17; refine stop ?_)
  unfold Stop
  refine (offsetR_calls a n c _ _ _ H1.out).mono ?_
  rintro e w2 ⟨rfl, rfl⟩
  go_wp2
  go_ret
  exact ⟨rfl, H2.out, H3.out⟩
end Go.Proofs.Ytceahjjffnfalaa.Wr
