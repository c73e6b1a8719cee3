/- A reader of fields (frame.reader): what each of its calls returns, what becomes of its place and of its first error; nothing but the two readers' blocks is turned. -/
import Derived.Test.YtfpgdimgffamoaaGreatDoorWrRead
import Derived.Test.YtfpgdimgffamoaaGreatDoorSmE
import Derived.Test.YtfpgdimgffamoaaGreatDoorFrPlain
import Derived.Test.YtfpgdimgffamoaaGreatDoorFrErr
namespace Go.Proofs.YtfpgdimgffamoaaGreatDoor.Fr
open Go.ChangeShapes Go.WideShapes Go.ChangeAt Go.RowKit Go.Proofs.YtfpgdimgffamoaaGreatDoor.Sm Go.Proofs.YtfpgdimgffamoaaGreatDoor.Wr
set_option maxHeartbeats 400000
set_option maxRecDepth 100000

/-! ### two blocks are turned, and no other -/
structure Beside2 (g h : Nat) (w w' : World) : Prop where
  os : w'.os = w.os
  tape : w'.tape = w.tape
  output : w'.output = w.output
  size : w.heap.size ≤ w'.heap.size
  block : ∀ k, k < w.heap.size → k ≠ g → k ≠ h → w'.heap[k]? = w.heap[k]?
section
variable {g h : Nat} {a b c w w' : World}
theorem Beside2.refl (g h : Nat) (w : World) : Beside2 g h w w := ⟨rfl, rfl, rfl, Nat.le_refl _, fun _ _ _ _ => rfl⟩
theorem Beside2.trans (x : Beside2 g h a b) (y : Beside2 g h b c) : Beside2 g h a c :=
  ⟨y.os.trans x.os, y.tape.trans x.tape, y.output.trans x.output, Nat.le_trans x.size y.size, fun i hi hg hh => (y.block i (Nat.lt_of_lt_of_le hi x.size) hg hh).trans (x.block i hi hg hh)⟩
theorem Beside2.of_beside (x : Beside g w w') : Beside2 g h w w' := ⟨x.os, x.tape, x.output, x.size, fun k hk hg _ => x.block k hk hg⟩
theorem Beside2.of_below (x : Below w.heap.size w w') : Beside2 g h w w' := ⟨x.os, x.tape, x.output, x.size, fun k hk _ _ => x.block k hk⟩
theorem Beside2.below {B : Nat} (x : Beside2 g h w w') (hg : B ≤ g) (hh : B ≤ h) (hs : B ≤ w.heap.size) : Below B w w' := ⟨x.os, x.tape, x.output, x.size, fun k hk => x.block k (by omega) (by omega) (by omega)⟩
theorem Beside2.set (x : Beside2 g h a w) (j : Nat) (u : Value) : Beside2 g h a (w.setCell ⟨h, j, none⟩ u) :=
  ⟨x.os, x.tape, x.output, by simpa using x.size, fun k hk hg hh => (Below.heap_setCell w ⟨h, j, none⟩ u k hh).trans (x.block k hk hg hh)⟩
theorem Beside2.alloc (x : Beside2 g h a w) (o : Obj) : Beside2 g h a (w.alloc o) := x.trans (Beside2.of_below ((Below.refl _ _).alloc (Nat.le_refl _) o))
theorem Beside2.drewN (x : Beside2 g h a w) (n : Nat) : Beside2 g h a (w.drewN n) := ⟨x.os, x.tape, x.output, x.size, x.block⟩
theorem Ob.beside2 {p : Nat} {t : TypeId} {cs : List Value} (x : Ob w p t cs) (y : Beside2 g h w w') (hg : p ≠ g) (hh : p ≠ h) : Ob w' p t cs := (y.block p x.lt hg hh).trans x
end

/-! ### frame.reader -/
/-- what the field 'err' holds. -/
def ErrF (w : World) (h : Nat) (S : Sn) (ev : Value) : Option (Int × Nat) → Prop
  | none => ev = .nilIface
  | some z => ∃ fb, h < fb ∧ ev = .iface 56 (.pointer (some ⟨fb, 0, none⟩)) ∧ Ob w fb 58 [.iface 133 (.pointer (some (S.of z.1))), .int .i64 (z.2 : Int)] ∧ (z.1 = 2 ∨ z.1 = 3 ∨ z.1 = 4 ∨ z.1 = 5 ∨ z.1 = 6)
theorem ErrF.keep {w w' : World} {h : Nat} {S : Sn} {ev : Value} {o : Option (Int × Nat)} (x : ErrF w h S ev o) (hk : ∀ k, h < k → k < w.heap.size → w'.heap[k]? = w.heap[k]?) : ErrF w' h S ev o := by
  cases o with
  | none => exact x
  | some z =>
    obtain ⟨fb, h1, h2, h3, h4⟩ := x
    exact ⟨fb, h1, h2, (hk fb h1 h3.lt).trans h3, h4⟩
/-- Block h holds a reader of fields, over the reader of x in block g, which has read p bytes; o: its first error. -/
structure FRm (w : World) (g h : Nat) (S : Sn) (x : List UInt8) (p : Nat) (bad : Bool) (o : Option (Int × Nat)) : Prop where
  lt : g < h
  sents : Sents w g S
  rd : Rd w g x p bad
  ob : ∃ ev, Ob w h 77 [.pointer (some ⟨g, 0, none⟩), ev] ∧ ErrF w h S ev o
theorem FRm.size {w : World} {g h : Nat} {S : Sn} {x : List UInt8} {p : Nat} {bad : Bool} {o : Option (Int × Nat)} (r : FRm w g h S x p bad o) : h < w.heap.size := by
  obtain ⟨ev, h1, _⟩ := r.ob
  exact h1.lt
/-- the reader below moved on. -/
theorem FRm.moved {w w' : World} {g h : Nat} {S : Sn} {x : List UInt8} {p p' : Nat} {bad bad' : Bool} {o : Option (Int × Nat)} (r : FRm w g h S x p bad o) (hb : Beside g w w') (hr : Rd w' g x p' bad') : FRm w' g h S x p' bad' o := by
  have hl := r.lt
  have hs := r.size
  obtain ⟨ev, h1, h2⟩ := r.ob
  exact ⟨hl, r.sents.below (hb.below (Nat.le_refl _) (by omega)), hr, ev, h1.beside hb (by omega), h2.keep fun k hk hk2 => hb.block k hk2 (by omega)⟩
theorem FRm.below {w w' : World} {g h B : Nat} {S : Sn} {x : List UInt8} {p : Nat} {bad : Bool} {o : Option (Int × Nat)} (r : FRm w g h S x p bad o) (hb : Below B w w') (hB : w.heap.size ≤ B) : FRm w' g h S x p bad o := by
  have hl := r.lt
  have hs := r.size
  obtain ⟨ev, h1, h2⟩ := r.ob
  exact ⟨hl, r.sents.below (hb.mono (by omega)), r.rd.below hb (by omega), ev, h1.below hb (by omega), h2.keep fun k _ hk2 => hb.block k (by omega)⟩
/-- another block is turned. -/
theorem FRm.other {w : World} {g h : Nat} {S : Sn} {x : List UInt8} {p : Nat} {bad : Bool} {o : Option (Int × Nat)} (r : FRm w g h S x p bad o) {q i : Nat} {v : Value} (hq : h < q) (hf : ∀ ev z, Ob w h 77 [.pointer (some ⟨g, 0, none⟩), ev] → o = some z → ev ≠ .iface 56 (.pointer (some ⟨q, 0, none⟩))) : FRm (w.setCell ⟨q, i, none⟩ v) g h S x p bad o := by
  have hl := r.lt
  have hs := r.size
  have hb : Below (h + 1) w (w.setCell ⟨q, i, none⟩ v) := (Below.refl _ _).setCell (p := ⟨q, i, none⟩) (by show h + 1 ≤ q; omega) v
  obtain ⟨ev, h1, h2⟩ := r.ob
  refine ⟨hl, r.sents.below (hb.mono (by omega)), r.rd.below hb (by omega), ev, h1.below hb (by omega), ?_⟩
  cases o with
  | none => exact h2
  | some z =>
    obtain ⟨fb, e1, e2, e3, e4⟩ := h2
    refine ⟨fb, e1, e2, e3.other (fun e => ?_), e4⟩
    exact hf ev z h1 rfl (by rw [e2, e])

theorem fail_none (g h : Nat) (S : Sn) (x : List UInt8) (p : Nat) (bad : Bool) (e : Int) (at_ : Nat) (w : World) (r : FRm w g h S x p bad none) (he : e = 2 ∨ e = 3 ∨ e = 4 ∨ e = 5 ∨ e = 6) :
    Calls Tryz.prog 41 #[.pointer (some ⟨h, 0, none⟩), .iface 133 (.pointer (some (S.of e))), .int .i64 at_] w fun v w' => v = .returned (.tuple #[]) ∧ FRm w' g h S x p bad (some (e, at_)) ∧ Beside2 g h w w' := by
  have hs := r.size
  have HR := hid r
  obtain ⟨ev, ho, hev⟩ := r.ob
  obtain rfl : ev = .nilIface := hev
  have c1 := ho.cell (i := 1) rfl
  have f1 := ho.frozen 1
  have HO := hid ho
  clear r ho
  obtain ⟨E, hE⟩ : ∃ E, S.of e = E := ⟨_, rfl⟩
  rw [hE]
  have HE := hid hE
  clear hE
  go_enter Tryz.func41, Tryz.ntmps41
  go_wp2
  go_end0
  have hl := HR.out.lt
  obtain ⟨V, hV⟩ : ∃ V : Value, V = .iface 56 (.pointer (some ⟨w.heap.size, 0, none⟩)) := ⟨_, rfl⟩
  rw [← hV]
  have e : (w.setCell ⟨h, 1, none⟩ V).heap.size = w.heap.size := by simp
  have hb : ∀ o, Below h w ((w.setCell ⟨h, 1, none⟩ V).alloc o) := fun o => ((Below.refl _ _).setCell (p := ⟨h, 1, none⟩) (Nat.le_refl _) _).alloc (by rw [e]; exact Nat.le_of_lt hs) o
  refine ⟨rfl, ⟨hl, HR.out.sents.below ((hb _).mono (Nat.le_of_lt hl)), HR.out.rd.below (hb _) hl, V, ?_, w.heap.size, hs, hV, ?_, he⟩, ((Beside2.refl _ _ _).set _ _).alloc _⟩
  · exact (HO.out.set 1 V).below ((Below.refl _ _).alloc (Nat.le_refl _) _) (by rw [e]; exact hs)
  · rw [HE.out]
    have k := heap_alloc_new (w.setCell ⟨h, 1, none⟩ V) (.cells #[.iface 133 (.pointer (some E)), .int .i64 (at_ : Int)] 58)
    rw [e] at k
    exact k
theorem fail_some (g h : Nat) (S : Sn) (x : List UInt8) (p : Nat) (bad : Bool) (z : Int × Nat) (u v : Value) (w : World) (r : FRm w g h S x p bad (some z)) :
    Calls Tryz.prog 41 #[.pointer (some ⟨h, 0, none⟩), u, v] w fun v w' => v = .returned (.tuple #[]) ∧ w = w' := by
  obtain ⟨ev, ho, fb, h1, rfl, _⟩ := r.ob
  have c1 := ho.cell (i := 1) rfl
  clear r ho
  go_enter Tryz.func41, Tryz.ntmps41
  go_wp2
  go_end0
  exact ⟨rfl, rfl⟩
/-- fail, whatever was found ahead of it. -/
def first (o : Option (Int × Nat)) (z : Int × Nat) : Option (Int × Nat) := match o with
  | none => some z
  | some y => some y
theorem fail_calls (g h : Nat) (S : Sn) (x : List UInt8) (p : Nat) (bad : Bool) (o : Option (Int × Nat)) (e : Int) (at_ : Nat) (w : World) (r : FRm w g h S x p bad o) (he : e = 2 ∨ e = 3 ∨ e = 4 ∨ e = 5 ∨ e = 6) :
    Calls Tryz.prog 41 #[.pointer (some ⟨h, 0, none⟩), .iface 133 (.pointer (some (S.of e))), .int .i64 at_] w fun v w' => v = .returned (.tuple #[]) ∧ FRm w' g h S x p bad (first o (e, at_)) ∧ Beside2 g h w w' := by
  cases o with
  | none => exact fail_none g h S x p bad e at_ w r he
  | some z =>
    refine (fail_some g h S x p bad z _ _ w r).mono ?_
    rintro v w' ⟨rfl, rfl⟩
    exact ⟨rfl, r, Beside2.refl _ _ _⟩

/-- a field that was read, held against its range. -/
def upd (o : Option (Int × Nat)) (bad : Bool) (n lo hi : Int) (at_ : Nat) : Option (Int × Nat) := match o with
  | some z => some z
  | none => if bad = true then some (2, at_) else if n < lo ∨ hi < n then some (6, at_) else none
def valOf (o : Option (Int × Nat)) (n : Int) : Int := match o with
  | none => n
  | some _ => 0
theorem ErrF.shape {w : World} {h : Nat} {S : Sn} {ev : Value} {o : Option (Int × Nat)} (x : ErrF w h S ev o) : (o = none ∧ ev = .nilIface) ∨ ∃ z fb, o = some z ∧ ev = .iface 56 (.pointer (some ⟨fb, 0, none⟩)) := by
  cases o with
  | none => exact .inl ⟨rfl, x⟩
  | some z =>
    obtain ⟨fb, _, e, _⟩ := x
    exact .inr ⟨z, fb, rfl, e⟩
/-- what follows the test: 0 if there is an error. -/
theorem check_calls (g h : Nat) (S : Sn) (x : List UInt8) (p : Nat) (bad : Bool) (o : Option (Int × Nat)) (n lo hi : Int) (at_ : Nat) (w : World) (r : FRm w g h S x p bad o) :
    Calls Tryz.prog 80 #[.pointer (some ⟨h, 0, none⟩), .int .i64 n, .int .i64 at_, .int .i64 lo, .int .i64 hi] w fun v w' => v = .returned (.int .i64 (valOf (upd o bad n lo hi at_) n)) ∧ FRm w' g h S x p bad (upd o bad n lo hi at_) ∧ Beside2 g h w w' := by
  have HR := hid r
  have hl := r.lt
  obtain ⟨ev, ho, hev⟩ := r.ob
  have c0 := ho.cell (i := 0) rfl
  have gS := r.sents.cShort
  have gF := r.sents.cForm
  rw [show S.short = S.of 2 from rfl] at gS
  rw [show S.form = S.of 6 from rfl] at gF
  obtain ⟨E2, h2⟩ : ∃ E, S.of 2 = E := ⟨_, rfl⟩
  obtain ⟨E6, h6⟩ : ∃ E, S.of 6 = E := ⟨_, rfl⟩
  rw [h2] at gS
  rw [h6] at gF
  have H2 := hid h2
  have H6 := hid h6
  clear r h2 h6
  have tail : ∀ (w1 : World) (o1 : Option (Int × Nat)), FRm w1 g h S x p bad o1 → (∃ ev1, w1.cell? ⟨h, 1, none⟩ = some ev1 ∧ ((o1 = none ∧ ev1 = .nilIface) ∨ ∃ z fb, o1 = some z ∧ ev1 = .iface 56 (.pointer (some ⟨fb, 0, none⟩)))) := fun w1 o1 r1 => by
    obtain ⟨ev1, q1, q2⟩ := r1.ob
    exact ⟨ev1, q1.cell (i := 1) rfl, q2.shape⟩
  have HT := hid tail
  clear tail ho hev
  cases bad with
  | true =>
    have HU := hid (show upd o true n lo hi at_ = first o (2, at_) by cases o <;> rfl)
    go_enter Tryz.func80, Tryz.ntmps80
    go_wp2_with (go_at_call 84; refine stop ?_)
    unfold Stop
    refine (bad_calls g x p true w HR.out.rd).mono ?_
    rintro e w' ⟨rfl, rfl⟩
    go_wp2_with (go_at_call 41; refine stop ?_)
    unfold Stop
    rw [← H2.out]
    refine (fail_calls g h S x p true o 2 at_ w HR.out (by omega)).mono ?_
    rintro e w1 ⟨rfl, r1, hb1⟩
    rw [← HU.out] at r1
    have R1 := hid r1
    have B1 := hid hb1
    obtain ⟨ev1, c1, hc⟩ := HT.out _ _ r1
    clear r1 hb1 HT gS gF c0
    obtain ⟨o1, ho1⟩ : ∃ o1, upd o true n lo hi at_ = o1 := ⟨_, rfl⟩
    rw [ho1] at R1 hc
    have HO1 := hid ho1
    clear ho1 HU
    rcases hc with ⟨rfl, rfl⟩ | ⟨z, fb, rfl, rfl⟩
    · go_wp2
      go_ret
      exact ⟨by rw [HO1.out]; rfl, by rw [HO1.out]; exact R1.out, B1.out⟩
    · go_wp2
      go_ret
      exact ⟨by rw [HO1.out]; rfl, by rw [HO1.out]; exact R1.out, B1.out⟩
  | false =>
    by_cases hr : n < lo ∨ hi < n
    · have HU := hid (show upd o false n lo hi at_ = first o (6, at_) by cases o <;> simp [upd, first, hr])
      by_cases hlo : n < lo
      · clear hr
        go_enter Tryz.func80, Tryz.ntmps80
        go_wp2_with (go_at_call 84; refine stop ?_)
        unfold Stop
        refine (bad_calls g x p false w HR.out.rd).mono ?_
        rintro e w' ⟨rfl, rfl⟩
        go_wp2_with (go_at_call 41; refine stop ?_)
        unfold Stop
        rw [← H6.out]
        refine (fail_calls g h S x p false o 6 at_ w HR.out (by omega)).mono ?_
        rintro e w1 ⟨rfl, r1, hb1⟩
        rw [← HU.out] at r1
        have R1 := hid r1
        have B1 := hid hb1
        obtain ⟨ev1, c1, hc⟩ := HT.out _ _ r1
        clear r1 hb1 HT gS gF c0
        obtain ⟨o1, ho1⟩ : ∃ o1, upd o false n lo hi at_ = o1 := ⟨_, rfl⟩
        rw [ho1] at R1 hc
        have HO1 := hid ho1
        clear ho1 HU
        rcases hc with ⟨rfl, rfl⟩ | ⟨z, fb, rfl, rfl⟩
        · go_wp2
          go_ret
          exact ⟨by rw [HO1.out]; rfl, by rw [HO1.out]; exact R1.out, B1.out⟩
        · go_wp2
          go_ret
          exact ⟨by rw [HO1.out]; rfl, by rw [HO1.out]; exact R1.out, B1.out⟩
      · have hhi : hi < n := by omega
        clear hr
        go_enter Tryz.func80, Tryz.ntmps80
        go_wp2_with (go_at_call 84; refine stop ?_)
        unfold Stop
        refine (bad_calls g x p false w HR.out.rd).mono ?_
        rintro e w' ⟨rfl, rfl⟩
        go_wp2_with (go_at_call 41; refine stop ?_)
        unfold Stop
        rw [← H6.out]
        refine (fail_calls g h S x p false o 6 at_ w HR.out (by omega)).mono ?_
        rintro e w1 ⟨rfl, r1, hb1⟩
        rw [← HU.out] at r1
        have R1 := hid r1
        have B1 := hid hb1
        obtain ⟨ev1, c1, hc⟩ := HT.out _ _ r1
        clear r1 hb1 HT gS gF c0
        obtain ⟨o1, ho1⟩ : ∃ o1, upd o false n lo hi at_ = o1 := ⟨_, rfl⟩
        rw [ho1] at R1 hc
        have HO1 := hid ho1
        clear ho1 HU
        rcases hc with ⟨rfl, rfl⟩ | ⟨z, fb, rfl, rfl⟩
        · go_wp2
          go_ret
          exact ⟨by rw [HO1.out]; rfl, by rw [HO1.out]; exact R1.out, B1.out⟩
        · go_wp2
          go_ret
          exact ⟨by rw [HO1.out]; rfl, by rw [HO1.out]; exact R1.out, B1.out⟩
    · have HU := hid (show upd o false n lo hi at_ = o by cases o <;> simp [upd, hr])
      have hlo : lo ≤ n := by omega
      have hhi : n ≤ hi := by omega
      clear hr
      obtain ⟨ev1, c1, hc⟩ := HT.out _ _ HR.out
      rw [HU.out]
      clear HU HT
      rcases hc with ⟨rfl, rfl⟩ | ⟨z, fb, rfl, rfl⟩
      · go_enter Tryz.func80, Tryz.ntmps80
        go_wp2_with (go_at_call 84; refine stop ?_)
        unfold Stop
        refine (bad_calls g x p false w HR.out.rd).mono ?_
        rintro e w' ⟨rfl, rfl⟩
        go_wp2
        go_ret
        exact ⟨rfl, HR.out, Beside2.refl _ _ _⟩
      · go_enter Tryz.func80, Tryz.ntmps80
        go_wp2_with (go_at_call 84; refine stop ?_)
        unfold Stop
        refine (bad_calls g x p false w HR.out.rd).mono ?_
        rintro e w' ⟨rfl, rfl⟩
        go_wp2
        go_ret
        exact ⟨rfl, HR.out, Beside2.refl _ _ _⟩
end Go.Proofs.YtfpgdimgffamoaaGreatDoor.Fr
