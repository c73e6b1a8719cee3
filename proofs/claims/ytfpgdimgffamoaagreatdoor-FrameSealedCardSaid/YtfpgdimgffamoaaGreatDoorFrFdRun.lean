/- The document's own reader of fields, as a parser that runs from a state. -/
import Derived.Test.YtfpgdimgffamoaaGreatDoorFrFd
import Derived.Test.YtfpgdimgffamoaaGreatDoorFrFrame
namespace Go.Proofs.YtfpgdimgffamoaaGreatDoor.Fr
open Go.RowKit Go.Proofs.YtfpgdimgffamoaaGreatDoor.Sm Go.Proofs.YtfpgdimgffamoaaGreatDoor.Wr
set_option maxHeartbeats 4000000
set_option maxRecDepth 100000
set_option linter.unusedVariables false

/-- a state, and what the reader's cells tell of it. -/
def Rel (st : Except (Int × Nat) Nat) (at_ : Nat) (bad : Bool) (e p : Int) : Prop := match st with
  | .ok pos => at_ = pos ∧ bad = false ∧ e = 0
  | .error z => z.1 ≠ 0 ∧ e = z.1 ∧ p = (z.2 : Int)
def FSx (B : Nat) (a : Option Addr) (n c : Nat) (w : World) (g : Nat) (l : List UInt8) (st : Except (Int × Nat) Nat) : Prop :=
  ∃ at_ bad e p, FS B a n c e p w g l at_ bad ∧ Rel st at_ bad e p
section
variable {B : Nat} {a : Option Addr} {n c : Nat} {w W : World} {g : Nat} {l : List UInt8}
theorem FSx.later {st : Except (Int × Nat) Nat} (h : FSx B a n c w g l st) (hb : Below w.heap.size w W) : FSx B a n c W g l st := by
  obtain ⟨at_, bad, e, p, h1, h2⟩ := h
  exact ⟨at_, bad, e, p, h1.later hb, h2⟩
theorem fnumber_run (k : Nat) (lo hi : Int) (hk : 1 ≤ k ∧ k ≤ 7) (st : Except (Int × Nat) Nat) (h : FSx B a n c w g l st) :
    Calls Tryz.prog 27 #[.pointer (some ⟨g, 0, none⟩), .int .i64 (k : Int), .int .i64 lo, .int .i64 hi] w fun x w' => x = .returned (.int .i64 (runP (numP k lo hi) 0 l st).1) ∧ FSx B a n c w' g l (runP (numP k lo hi) 0 l st).2 ∧ Beside g w w' := by
  obtain ⟨at_, bad, e, p, hF, hr⟩ := h
  cases st with
  | error z =>
    obtain ⟨h1, rfl, rfl⟩ := hr
    refine (fnumber_err k lo hi hk h1 hF).mono ?_
    rintro x w' ⟨rfl, h2, h3⟩
    exact ⟨rfl, ⟨_, _, _, _, h2, h1, rfl, rfl⟩, h3⟩
  | ok pos =>
    obtain ⟨rfl, rfl, rfl⟩ := hr
    by_cases hs : l.length < at_ + k
    · have hp : numP k lo hi l at_ = .error (2, at_) := by unfold numP; rw [if_pos hs]
      rw [runP_error hp]
      refine (fnumber_short k lo hi hk hs hF).mono ?_
      rintro x w' ⟨rfl, h2, h3⟩
      exact ⟨rfl, ⟨_, _, _, _, h2, (show (2 : Int) ≠ 0 by decide), rfl, rfl⟩, h3⟩
    · have hw : wid (k : Int) = (k : Int) := by unfold wid; rw [if_pos (by omega)]
      have hle := hF.le
      have hok : okB l at_ false (wid (k : Int)) = true := by rw [hw]; exact ok_yes l at_ (by omega) (by omega)
      have hv : numI (gotL l at_ false (wid (k : Int))) = (num ((l.drop at_).take k) : Int) := by
        rw [(got_yes hok).1, hw, Int.toNat_natCast, cut_eq, numI_eq (by rw [List.length_take]; omega)]
      have hf := fnumber_ok k lo hi hk hs hF
      rw [hv] at hf
      refine hf.mono ?_
      by_cases ht : lo ≤ (num ((l.drop at_).take k) : Int) ∧ (num ((l.drop at_).take k) : Int) ≤ hi
      · have hp : numP k lo hi l at_ = .ok ((num ((l.drop at_).take k) : Int), at_ + k) := by unfold numP; rw [if_neg hs, if_pos ht]
        rw [runP_ok hp]
        rintro x w' ⟨rfl, h2, h3⟩
        rw [if_pos ht] at h2 ⊢
        exact ⟨rfl, ⟨_, _, _, _, h2, rfl, rfl, rfl⟩, h3⟩
      · have hp : numP k lo hi l at_ = .error (6, at_) := by unfold numP; rw [if_neg hs, if_neg ht]
        rw [runP_error hp]
        rintro x w' ⟨rfl, h2, h3⟩
        rw [if_neg ht] at h2 ⊢
        exact ⟨rfl, ⟨_, _, _, _, h2, (show (6 : Int) ≠ 0 by decide), rfl, rfl⟩, h3⟩
theorem foffset_run (st : Except (Int × Nat) Nat) (h : FSx B a n c w g l st) :
    Calls Tryz.prog 29 #[.pointer (some ⟨g, 0, none⟩)] w fun x w' => x = .returned (.int .i64 (runP offP 0 l st).1) ∧ FSx B a n c w' g l (runP offP 0 l st).2 ∧ Beside g w w' := by
  obtain ⟨at_, bad, e, p, hF, hr⟩ := h
  cases st with
  | error z =>
    obtain ⟨h1, rfl, rfl⟩ := hr
    refine (foffset_err h1 hF).mono ?_
    rintro x w' ⟨rfl, h2, h3⟩
    exact ⟨rfl, ⟨_, _, _, _, h2, h1, rfl, rfl⟩, h3⟩
  | ok pos =>
    obtain ⟨rfl, rfl, rfl⟩ := hr
    by_cases hs : l.length < at_ + 6
    · have hp : offP l at_ = .error (2, at_) := by unfold offP; rw [if_pos hs]
      rw [runP_error hp]
      refine (foffset_short hs hF).mono ?_
      rintro x w' ⟨rfl, h2, h3⟩
      exact ⟨rfl, ⟨_, _, _, _, h2, (show (2 : Int) ≠ 0 by decide), rfl, rfl⟩, h3⟩
    · have hw : wid 6 = 6 := by decide
      have hle := hF.le
      have hok : okB l at_ false (wid 6) = true := by rw [hw]; exact ok_yes l at_ (by omega) (by omega)
      have hv : offI (gotL l at_ false (wid 6)) = offI ((l.drop at_).take 6) := by
        rw [(got_yes hok).1, hw, show (6 : Int).toNat = 6 from rfl, cut_eq]
      have hf := foffset_ok hs hF
      rw [hv] at hf
      refine hf.mono ?_
      by_cases ht : -1099511627776 ≤ offI ((l.drop at_).take 6) ∧ offI ((l.drop at_).take 6) ≤ 1099511627776
      · have hp : offP l at_ = .ok (offI ((l.drop at_).take 6), at_ + 6) := by unfold offP; rw [if_neg hs, if_pos ht]
        rw [runP_ok hp]
        rintro x w' ⟨rfl, h2, h3⟩
        rw [if_pos ht] at h2 ⊢
        exact ⟨rfl, ⟨_, _, _, _, h2, rfl, rfl, rfl⟩, h3⟩
      · have hp : offP l at_ = .error (6, at_) := by unfold offP; rw [if_neg hs, if_neg ht]
        rw [runP_error hp]
        rintro x w' ⟨rfl, h2, h3⟩
        rw [if_neg ht] at h2 ⊢
        exact ⟨rfl, ⟨_, _, _, _, h2, (show (6 : Int) ≠ 0 by decide), rfl, rfl⟩, h3⟩
def begB (l : List UInt8) (k : Nat) : Except (Int × Nat) Nat → Bool
  | .error _ => false
  | .ok pos => decide (pos + k ≤ l.length)
def begS (l : List UInt8) (k : Nat) : Except (Int × Nat) Nat → Except (Int × Nat) Nat
  | .error z => .error z
  | .ok pos => if l.length < pos + k then .error (2, pos) else .ok pos
theorem begin_run (k : Nat) (st : Except (Int × Nat) Nat) {at_ : Nat} {bad : Bool} {e p : Int} (h : FS B a n c e p w g l at_ bad) (hr : Rel st at_ bad e p) :
    Calls Tryz.prog 44 #[.pointer (some ⟨g, 0, none⟩), .int .i64 (k : Int)] w fun x w' => x = .returned (.bool (begB l k st)) ∧ (∃ at' bad' e' p', FS B a n c e' p' w' g l at' bad' ∧ Rel (begS l k st) at' bad' e' p') ∧ Beside g w w' := by
  cases st with
  | error z =>
    obtain ⟨h1, rfl, rfl⟩ := hr
    refine (begin_err k h1 h).mono ?_
    rintro x w' ⟨rfl, h2, h3⟩
    exact ⟨rfl, ⟨_, _, _, _, h2, h1, rfl, rfl⟩, h3⟩
  | ok pos =>
    obtain ⟨rfl, rfl, rfl⟩ := hr
    by_cases hs : l.length < at_ + k
    · refine (begin_short k hs h).mono ?_
      rintro x w' ⟨rfl, h2, h3⟩
      refine ⟨?_, ⟨_, _, _, _, h2, ?_⟩, h3⟩
      · show Ending.returned (.bool false) = .returned (.bool (decide (at_ + k ≤ l.length)))
        rw [decide_eq_false (by omega)]
      · show Rel (if l.length < at_ + k then .error (2, at_) else .ok at_) _ _ _ _
        rw [if_pos hs]
        exact ⟨(show (2 : Int) ≠ 0 by decide), rfl, rfl⟩
    · refine (begin_ok k hs h).mono ?_
      rintro x w' ⟨rfl, h2, h3⟩
      refine ⟨?_, ⟨_, _, _, _, h2, ?_⟩, h3⟩
      · show Ending.returned (.bool true) = .returned (.bool (decide (at_ + k ≤ l.length)))
        rw [decide_eq_true (by omega)]
      · show Rel (if l.length < at_ + k then .error (2, at_) else .ok at_) _ _ _ _
        rw [if_neg hs]
        exact ⟨rfl, rfl, rfl⟩
theorem take_no {k : Nat} {st : Except (Int × Nat) Nat} (h : begB l k st = false) : runP (takeP k) [] l st = ([], begS l k st) := by
  cases st with
  | error z => rfl
  | ok pos =>
    have hs : l.length < pos + k := by have := of_decide_eq_false (show decide (pos + k ≤ l.length) = false from h); omega
    have hp : takeP k l pos = .error (2, pos) := by unfold takeP; rw [if_pos hs]
    rw [runP_error hp]
    show _ = ([], if l.length < pos + k then _ else _)
    rw [if_pos hs]
theorem take_yes {k : Nat} {st : Except (Int × Nat) Nat} (h : begB l k st = true) : ∃ pos, st = .ok pos ∧ pos + k ≤ l.length ∧ begS l k st = .ok pos ∧ runP (takeP k) [] l st = ((l.drop pos).take k, .ok (pos + k)) := by
  cases st with
  | error z => cases h
  | ok pos =>
    have hs : pos + k ≤ l.length := of_decide_eq_true (show decide (pos + k ≤ l.length) = true from h)
    have hp : takeP k l pos = .ok ((l.drop pos).take k, pos + k) := by unfold takeP; rw [if_neg (by omega)]
    refine ⟨pos, rfl, hs, ?_, runP_ok hp⟩
    show (if l.length < pos + k then _ else _) = _
    rw [if_neg (by omega)]
theorem num_range {k : Nat} {lo hi : Int} (h0 : lo ≤ 0) (h1 : 0 ≤ hi) (st : Except (Int × Nat) Nat) : lo ≤ (runP (numP k lo hi) 0 l st).1 ∧ (runP (numP k lo hi) 0 l st).1 ≤ hi := by
  cases st with
  | error z => exact ⟨h0, h1⟩
  | ok pos =>
    cases hx : numP k lo hi l pos with
    | error z => rw [runP_error hx]; exact ⟨h0, h1⟩
    | ok r =>
      rw [runP_ok hx]
      unfold numP at hx
      split at hx
      · cases hx
      · split at hx
        · rename_i ht; cases hx; exact ht
        · cases hx
/-- the bytes of a body: new ones, or none behind an error. -/
theorem fbody_run (st : Except (Int × Nat) Nat) (h : FSx B a n c w g l st) :
    Calls Tryz.prog 30 #[.pointer (some ⟨g, 0, none⟩)] w fun x w' => ∃ v, x = .returned v ∧ w'.ownsRow w.heap.size 5 1 v (runP bodyP [] l st).1.length (cells8 (runP bodyP [] l st).1) ∧ FSx B a n c w' g l (runP bodyP [] l st).2 ∧ Beside g w w' := by
  obtain ⟨at_, bad, e, p, hF, hr⟩ := id h
  have hm : runP bodyP [] l st = runP (takeP ((runP (numP 1 0 24) 0 l st).1).toNat) [] l (runP (numP 1 0 24) 0 l st).2 := runP_bind (numP 1 0 24) 0
  rw [hm]
  have hN0 := num_range (l := l) (k := 1) (lo := 0) (hi := 24) (by omega) (by omega) st
  have hcn := fnumber_run (B := B) (a := a) (n := n) (c := c) (w := w) (g := g) (l := l) 1 0 24 (by omega) st h
  obtain ⟨N, hN⟩ : ∃ N, (runP (numP 1 0 24) 0 l st).1 = N := ⟨_, rfl⟩
  obtain ⟨s1, hs1⟩ : ∃ s, (runP (numP 1 0 24) 0 l st).2 = s := ⟨_, rfl⟩
  rw [hN, hs1] at hcn ⊢
  rw [hN] at hN0
  obtain ⟨K, rfl⟩ : ∃ K : Nat, N = (K : Int) := ⟨N.toNat, by omega⟩
  rw [Int.toNat_natCast]
  clear hm hN hs1
  refine Ev.enterP (N := 15) Tryz.func30 rfl rfl [] g hF.ob rfl (Nat.le_of_ble_eq_true rfl) fun act I0 => ?_
  refine Ev.seq_v I0 (by kernel_rfl) (by kernel_rfl) fun a1 I1 => ?_
  refine Ev.seq_row ?_
  refine Ev.row_v 1 I1 (by kernel_rfl) (by kernel_rfl) fun a2 I2 => ?_
  simp only [List.drop_succ_cons, List.drop_zero]
  refine Ev.callP_ok (l := [.func 27, .tmp 4, .const (.int .i64 1), .const (.int .i64 0), .const (.int .i64 24)]) (f := 27) (args := #[.pointer (some ⟨g, 0, none⟩), .int .i64 1, .int .i64 0, .int .i64 24]) (t := 65) (R := fun v cs w' => v = .int .i64 (K : Int) ∧ (∃ at_ bad e p, cs = fcells a n c at_ bad e p ∧ FS B a n c e p w' g l at_ bad ∧ Rel s1 at_ bad e p) ∧ Beside g w w') I2 (by kernel_rfl) (by kernel_rfl) (by kernel_rfl) rfl (by kernel_rfl) (fun u => (by kernel_rfl)) ?_ ?_
  · refine hcn.mono ?_
    rintro x w' ⟨rfl, ⟨at1, bad1, e1, p1, h1, h2⟩, h3⟩
    exact ⟨_, _, rfl, h1.ob, rfl, ⟨at1, bad1, e1, p1, rfl, h1, h2⟩, h3⟩
  rintro v cs a3 w3 ⟨rfl, ⟨at1, bad1, e1, p1, rfl, hF1, hr1⟩, hb3⟩ I3
  refine Ev.row_v 1 I3 (by kernel_rfl) (by kernel_rfl) fun a4 I4 => ?_
  have J4 := I4.to [0, 3] (s2 := { tab := [⟨0, [], .p 0 0⟩, ⟨3, [], .v (.int .i64 (K : Int))⟩], mem := [(65, fcells a n c at1 bad1 e1 p1)] }) (by kernel_rfl)
  clear I0 I1 I2 I3 I4 hcn
  show Code.wp _ _ _ _ _
  refine wp_seq (wp_seq (wp_region_list ?_))
  refine Ev.row_v 2 J4 (by kernel_rfl) (by kernel_rfl) fun a5 I5 => ?_
  simp only [List.drop_succ_cons, List.drop_zero]
  refine Ev.callP_ok (l := [.func 44, .tmp 6, .tmp 7]) (f := 44) (args := #[.pointer (some ⟨g, 0, none⟩), .int .i64 (K : Int)]) (t := 65) (R := fun v cs w' => v = .bool (begB l K s1) ∧ (∃ at_ bad e p, cs = fcells a n c at_ bad e p ∧ FS B a n c e p w' g l at_ bad ∧ Rel (begS l K s1) at_ bad e p) ∧ Beside g w3 w') I5 (by kernel_rfl) (by kernel_rfl) (by kernel_rfl) rfl (by kernel_rfl) (fun u => (by kernel_rfl)) ?_ ?_
  · refine (begin_run K s1 hF1 hr1).mono ?_
    rintro x w' ⟨rfl, ⟨at2, bad2, e2, p2, h1, h2⟩, h3⟩
    exact ⟨_, _, rfl, h1.ob, rfl, ⟨at2, bad2, e2, p2, rfl, h1, h2⟩, h3⟩
  rintro v cs a6 w6 ⟨rfl, ⟨at2, bad2, e2, p2, rfl, hF2, hr2⟩, hb6⟩ I6
  refine Ev.row_v 1 I6 (by kernel_rfl) (by kernel_rfl) fun a7 I7 => ?_
  have J7 := I7.to [0, 3, 9] (s2 := { tab := [⟨0, [], .p 0 0⟩, ⟨3, [], .v (.int .i64 (K : Int))⟩, ⟨9, [], .v (.bool (!begB l K s1))⟩], mem := [(65, fcells a n c at2 bad2 e2 p2)] }) (by kernel_rfl)
  clear I5 I6 I7 J4
  have hb36 := hb3.trans hb6
  show (Code.cond _ _ _).wp _ _ _ _
  refine Ev.cond_ok J7 (z := !begB l K s1) (by kernel_rfl) (fun hz => ?_) (fun hz => ?_)
  · have ht := take_no (l := l) (k := K) (st := s1) (by simpa using hz)
    refine Ev.seq_v J7 (by kernel_rfl) (by kernel_rfl) fun a8 I8 => ?_
    refine wp_ret ?_
    simp only [Exit.then]
    refine Ev.ret1 I8 rfl (v := .slice none 0 0) (by kernel_rfl) ⟨_, rfl, ?_, ?_, hb36⟩
    · rw [ht]; exact World.ownsRow_nil _ _ _ _
    · rw [ht]; exact ⟨_, _, _, _, hF2, hr2⟩
  · obtain ⟨pos, rfl, hpk, hbg, ht⟩ := take_yes (l := l) (k := K) (st := s1) (by simpa using hz)
    rw [hbg] at hr2
    obtain ⟨rfl, rfl, rfl⟩ := hr2
    refine wp_skip ?_
    simp only [Exit.then]
    refine Ev.seq_row ?_
    refine Ev.row_v 4 J7 (by kernel_rfl) (by kernel_rfl) fun a8 I8 => ?_
    simp only [List.drop_succ_cons, List.drop_zero]
    have hok : okB l at2 false (K : Int) = true := ok_yes l at2 (by omega) (by omega)
    obtain ⟨y1, y2, y3⟩ := got_yes hok
    rw [Int.toNat_natCast] at y1 y2
    rw [cut_eq] at y1
    refine Ev.callP_ok (l := [.func 49, .tmp 12, .tmp 13]) (f := 49) (args := #[.pointer (some ⟨g, 0, none⟩), .int .i64 (K : Int)]) (t := 65) (R := fun v cs w' => w'.ownsRow w6.heap.size 5 1 v ((l.drop at2).take K).length (cells8 ((l.drop at2).take K)) ∧ FS B a n c 0 p2 w' g l (at2 + K) false ∧ Beside g w6 w') I8 (by kernel_rfl) (by kernel_rfl) (by kernel_rfl) rfl (by kernel_rfl) (fun u => (by kernel_rfl)) ?_ ?_
    · refine (takeF_calls (K : Int) (by omega) (by omega) hF2).mono ?_
      rintro x w' ⟨v, rfl, h1, h2, h3⟩
      rw [y1] at h1
      rw [y2, y3] at h2
      exact ⟨v, _, rfl, h2.ob, h1, h2, h3⟩
    rintro v cs a9 w9 ⟨h1, h2, h3⟩ I9
    refine Ev.row_v 1 I9 (by kernel_rfl) (by kernel_rfl) fun a10 I10 => ?_
    show Code.ret.wp _ _ _ _
    refine wp_ret (Ev.ret1 I10 rfl (v := v) (by kernel_rfl) ⟨v, rfl, ?_, ?_, hb36.trans h3⟩)
    · rw [ht]; exact owns_mono h1 hb36.size
    · rw [ht]; exact ⟨_, _, _, _, h2, rfl, rfl, rfl⟩
end
end Go.Proofs.YtfpgdimgffamoaaGreatDoor.Fr
