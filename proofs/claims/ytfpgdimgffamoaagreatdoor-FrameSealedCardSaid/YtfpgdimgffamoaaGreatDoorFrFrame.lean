/- What (*frame.reader).frame returns: the fields of a frame, and where the reader stands behind them. -/
import Derived.Test.YtfpgdimgffamoaaGreatDoorFrBody
import Derived.Test.YtfpgdimgffamoaaGreatDoorFrVal
import Derived.Test.YtfpgdimgffamoaaGreatDoorFrWrite
namespace Go.Proofs.YtfpgdimgffamoaaGreatDoor.Fr
open Go.ChangeShapes Go.WideShapes Go.ChangeAt Go.RowKit Go.Proofs.YtfpgdimgffamoaaGreatDoor.Sm Go.Proofs.YtfpgdimgffamoaaGreatDoor.Wr
set_option maxHeartbeats 4000000
set_option maxRecDepth 100000

theorem frame_zero (u : World) : (zeroValue 26).run Tryz.prog u = .ok (.agg #[.int .i64 0, .int .i64 0, .int .i64 0, .int .i64 0, .int .i64 0, .int .i64 0, .bool false, .int .i64 0, .int .i64 0, .slice none 0 0, .int .i64 0, .int .i64 0, .int .i64 0, .slice none 0 0]) u := by kernel_rfl
theorem frame_info : (Tryz.prog.info? 26).map (·.size) = some 14 := by kernel_rfl
def zeros : List Value := [.int .i64 0, .int .i64 0, .int .i64 0, .int .i64 0, .int .i64 0, .int .i64 0, .bool false, .int .i64 0, .int .i64 0, .slice none 0 0, .int .i64 0, .int .i64 0, .int .i64 0, .slice none 0 0]
theorem zeros_one : ∀ v ∈ zeros, v.oneCell' = true := by decide
theorem owns_keep {w W : World} {base : Nat} {e : TypeId} {z : Nat} {v : Value} {n : Nat} {xs : List Value} (o : w.ownsRow base e z v n xs) (hk : ∀ k, base ≤ k → k < w.heap.size → W.heap[k]? = w.heap[k]?) : W.ownsRow base e z v n xs := by
  refine ⟨o.1, ?_⟩
  rcases o.2 with h2 | ⟨k, cap, cur, hv, hb, hq, r⟩
  · exact Or.inl h2
  · exact Or.inr ⟨k, cap, cur, hv, hb, (hk k hb (Array.getElem?_eq_some_iff.1 hq).1).trans hq, r⟩
/-- the state, and what was read, behind a row of fields. -/
def outOf {α : Type} (a : α) (st : Except (Int × Nat) Nat) : Except (Int × Nat) (α × Nat) := match st with
  | .error z => .error z
  | .ok pos => .ok (a, pos)
theorem out_bind {α β : Type} (p : Par α) (d : α) (q : α → Par β) (x : List UInt8) (st : Except (Int × Nat) Nat) (db : β) : runP (bind p q) db x st = (match (runP p d x st).2 with | .error z => (db, .error z) | .ok pos => runP (q (runP p d x st).1) db x (.ok pos)) := by
  cases st with
  | error z => rfl
  | ok pos =>
    cases h : p x pos with
    | error z => rw [runP_error (bind_error h), runP_error h]
    | ok r =>
      rw [runP_ok h]
      show runP (bind p q) db x (.ok pos) = runP (q r.1) db x (.ok r.2)
      have := bind_ok h (q := q)
      cases h2 : q r.1 x r.2 with
      | error z => rw [runP_error (this.trans h2), runP_error h2]
      | ok s => rw [runP_ok (this.trans h2), runP_ok h2]
/-- a frame's fields, the kind ahead. -/
def frameX : Par Frame := bind kindP fun k => bind (numP 1 0 5) fun p => bind (numP 1 0 11) fun n => tailP k p n
/-- a frame's cells, or whatever behind an error. -/
def RetFrame (w : World) (g h : Nat) (S : Sn) (x : List UInt8) (e : Ending) (w' : World) : Prop :=
  ∃ cs : List Value, e = .returned (.agg cs.toArray) ∧ cs.length = 14 ∧ (∀ v ∈ cs, v.oneCell' = true) ∧ (∀ f pos, runP frameX (bare 0 0 0) x (.ok 0) = (f, .ok pos) → ∀ W', (∀ k, h < k → k < w'.heap.size → W'.heap[k]? = w'.heap[k]?) → FrV W' W'.heap.size (.agg cs.toArray) f) ∧ FR w' g h S x (runP frameX (bare 0 0 0) x (.ok 0)).2 ∧ Beside2 g h w w'
theorem FRm.set {w : World} {g h : Nat} {S : Sn} {x : List UInt8} {p : Nat} {bad : Bool} {o : Option (Int × Nat)} (r : FRm w g h S x p bad o) {q : Nat} {cs : List Value} {t : TypeId} (hq : h < q) (hO : Ob w q t cs) (ht : t ≠ 58) {w' : World} (hb : Beside q w w') : FRm w' g h S x p bad o := by
  have hl := r.lt
  have hs := r.size
  have hbb : Below (h + 1) w w' := hb.below (by omega) (by omega)
  obtain ⟨ev, h1, h2⟩ := r.ob
  refine ⟨hl, r.sents.below (hbb.mono (by omega)), r.rd.below hbb (by omega), ev, h1.below hbb (by omega), ?_⟩
  cases o with
  | none => exact h2
  | some z =>
    obtain ⟨fb, e1, e2, e3, e4⟩ := h2
    refine ⟨fb, e1, e2, e3.beside hb (fun e => ?_), e4⟩
    subst e
    have := hO.symm.trans e3
    injection this with this
    injection this with _ q2 _
    exact ht q2
theorem FR.set {w : World} {g h : Nat} {S : Sn} {x : List UInt8} {st : Except (Int × Nat) Nat} (r : FR w g h S x st) {q : Nat} {cs : List Value} {t : TypeId} (hq : h < q) (hO : Ob w q t cs) (ht : t ≠ 58) {w' : World} (hb : Beside q w w') : FR w' g h S x st := by
  cases st with
  | ok pos => exact FRm.set r hq hO ht hb
  | error z => obtain ⟨p, b, r⟩ := r; exact ⟨p, b, r.set hq hO ht hb⟩
theorem Beside2.set3 {g h q : Nat} {a w w' : World} (x : Beside2 g h a w) (hb : Beside q w w') (hq : a.heap.size ≤ q) : Beside2 g h a w' :=
  ⟨hb.os.trans x.os, hb.tape.trans x.tape, hb.output.trans x.output, Nat.le_trans x.size hb.size, fun k hk hg hh => (hb.block k (Nat.lt_of_lt_of_le hk x.size) (by omega)).trans (x.block k hk hg hh)⟩
theorem rbelow2_calls (g h : Nat) (S : Sn) (x : List UInt8) (st : Except (Int × Nat) Nat) (n m : Int) (hm : n - 1 = m) (hn : 1 ≤ n) (hn2 : n ≤ 100) (w : World) (r : FR w g h S x st) :
    Calls Tryz.prog 66 #[.pointer (some ⟨h, 0, none⟩), .int .i64 n] w fun e w' => RetF (numP 1 0 m) 0 isI w g h S x st e w' := by
  rw [← hm]
  exact rbelow_calls g h S x st n hn hn2 w r
theorem runP_bind {α β : Type} (p : Par α) (d : α) {q : α → Par β} {db : β} {x : List UInt8} {st : Except (Int × Nat) Nat} : runP (bind p q) db x st = runP (q (runP p d x st).1) db x (runP p d x st).2 := by
  rw [out_bind p d]
  cases (runP p d x st).2 <;> rfl
theorem kind_zero {x : List UInt8} (h : (runP kindP 0 x (.ok 0)).1 = 0) : (runP kindP 0 x (.ok 0)).2 = .error (5, 0) := by
  cases hk : kindP x 0 with
  | error z =>
    rw [runP_error hk]
    unfold kindP at hk
    split at hk
    · cases hk
    · injection hk with hk; rw [← hk]
  | ok r =>
    rw [runP_ok hk] at h
    unfold kindP at hk
    split at hk
    · rename_i hr
      injection hk with hk
      rw [← hk] at h
      have h' : (num (x.take 1) : Int) = 0 := h
      omega
    · cases hk
theorem offP_wf (x : List UInt8) (st : Except (Int × Nat) Nat) : -9223372036854775808 ≤ (runP offP 0 x st).1 ∧ (runP offP 0 x st).1 ≤ 9223372036854775807 := by
  cases st with
  | error z => exact ⟨show (-9223372036854775808 : Int) ≤ 0 by decide, show (0 : Int) ≤ 9223372036854775807 by decide⟩
  | ok pos =>
    cases h : offP x pos with
    | error z => rw [runP_error h]; exact ⟨show (-9223372036854775808 : Int) ≤ 0 by decide, show (0 : Int) ≤ 9223372036854775807 by decide⟩
    | ok r =>
      rw [runP_ok h]
      unfold offP at h
      split at h
      · cases h
      · split at h
        · rename_i hr
          injection h with h
          rw [← h]
          exact ⟨by have := hr.1; show _ ≤ (_ : Int); omega, by have := hr.2; show (_ : Int) ≤ _; omega⟩
        · cases h
theorem frame_1 (g h : Nat) (S : Sn) (x : List UInt8) (hx : 1 ≤ x.length) (w : World) (r : FR w g h S x (.ok 0)) (hk : (runP kindP 0 x (.ok 0)).1 = 1) :
    Calls Tryz.prog 39 #[.pointer (some ⟨h, 0, none⟩)] w fun e w' => RetFrame w g h S x e w' := by
  have HX := hid hx
  have HR := hid r
  have hsz := r.size
  have HK := hid hk
  clear hx r hk
  obtain ⟨hgh, hhs⟩ := hsz
  go_enter Tryz.func39, Tryz.ntmps39
  iterate 3 go_step
  refine wpList_alloc_any rfl _ rfl zeros frame_zero ?_
  intro q W0 n0
  have hqw : w.heap.size ≤ q := Nat.le_of_eq n0.is_.symm
  have hhq : h < q := by omega
  have HO0 := hid n0.ob
  have R0 := hid (HR.out.below n0.below (Nat.le_refl _))
  have B0 : Hid (Beside2 g h w W0) := Beside2.of_below n0.below
  have hS0 : q < W0.heap.size := n0.ob.lt
  clear n0 HR
  go_wp2_with (go_at_call 65; refine stop ?_)
  unfold Stop
  refine (rkind_calls g h S x HX.out W0 R0.out).mono ?_
  rintro e w1 ⟨v1, rfl, ev1, r1, hb1⟩
  have ev1' : v1 = .int .i64 1 := by rw [ev1, HK.out]
  subst ev1'
  obtain ⟨s1, hs1⟩ : ∃ s, (runP kindP 0 x (.ok 0)).2 = s := ⟨_, rfl⟩
  rw [hs1] at r1
  have HS1 := hid hs1
  have OQ1 := hid (Ob.beside2 HO0.out hb1 (by omega) (by omega))
  have R1 := hid r1
  have B1 := hid (B0.out.trans hb1)
  have hz1 := hb1.size
  clear ev1 r1 hb1 hs1 HO0 R0 B0
  dsimp only
  iterate 4 go_step
  refine wpList_alloc_any rfl _ rfl zeros frame_zero ?_
  intro p V n1
  refine wpList_store_ob rfl _ _ _ rfl p zeros (.int .i64 1 :: zeros.tail) n1.ob rfl rfl rfl frame_info (by decide) ?_
  intro V1 hbV hsV obV
  have hpw : w1.heap.size = p := n1.is_.symm
  have hqp : q < p := by omega
  have hbb : Below p w1 V1 := by
    have h1 := n1.below
    rw [hpw] at h1
    exact h1.trans (hbV.below (Nat.le_refl _) (by rw [n1.size]; omega))
  have RC1 := hid (R1.out.below hbb (by omega))
  have OQC1 := hid (OQ1.out.below hbb hqp)
  have OP1 : Hid (Ob V1 p 26 (.int .i64 1 :: zeros.tail)) := obV
  have BC1 := hid (B1.out.trans (Beside2.of_below (by rw [hpw]; exact hbb)))
  clear n1 hbV hsV obV hbb R1 OQ1 B1 hpw hz1 hS0
  go_wp2_with (go_at_call 66; refine stop ?_)
  unfold Stop
  have RD := RC1
  have OD := OP1
  have OQD := OQC1
  have BD := BC1
  clear RC1 OP1 OQC1 BC1
  refine (rbelow2_calls g h S x s1 6 5 (by decide) (by omega) (by omega) _ RD.out).mono ?_
  rintro e V2 ⟨v2, rfl, ev2, r2, hb2⟩
  have ev2' : v2 = .int .i64 (runP (numP 1 0 5) 0 x s1).1 := ev2
  subst ev2'
  clear ev2
  obtain ⟨y2, hy2⟩ : ∃ y, (runP (numP 1 0 5) 0 x s1).1 = y := ⟨_, rfl⟩
  rw [hy2]
  have HY2 := hid hy2
  clear hy2
  obtain ⟨s2, hs2⟩ : ∃ s, (runP (numP 1 0 5) 0 x s1).2 = s := ⟨_, rfl⟩
  rw [hs2] at r2
  have HS2 := hid hs2
  clear hs2
  have hszU := (RD.out.size).2
  have RC2 := hid r2
  have OP2 := hid (Ob.beside2 OD.out hb2 (by omega) (by omega))
  have OQC2 := hid (Ob.beside2 OQD.out hb2 (by omega) (by omega))
  have BC2 := hid (BD.out.trans hb2)
  clear r2 hb2 RD OD OQD BD hszU
  have kj := OP2.out.cell (i := 1) (v := .int .i64 0) rfl
  have fj := OP2.out.frozen 1
  go_wp2_with (go_at_call 66; refine stop ?_)
  unfold Stop
  have hset : Beside p V2 (V2.setCell ⟨p, 1, none⟩ (.int .i64 y2)) := (Beside.refl _ _).setCell _ _
  have RD := hid (RC2.out.set (by omega) OP2.out (by decide) hset)
  have OD := hid (OP2.out.set 1 (.int .i64 y2))
  have OQD := hid (OQC2.out.beside hset (Nat.ne_of_lt hqp))
  have BD := hid (BC2.out.set3 hset (by omega))
  clear hset RC2 OP2 OQC2 BC2 kj fj
  generalize V2.setCell ⟨p, 1, none⟩ (.int .i64 y2) = U2 at *
  refine (rbelow2_calls g h S x s2 12 11 (by decide) (by omega) (by omega) _ RD.out).mono ?_
  rintro e V3 ⟨v2, rfl, ev2, r2, hb2⟩
  have ev2' : v2 = .int .i64 (runP (numP 1 0 11) 0 x s2).1 := ev2
  subst ev2'
  clear ev2
  obtain ⟨y3, hy3⟩ : ∃ y, (runP (numP 1 0 11) 0 x s2).1 = y := ⟨_, rfl⟩
  rw [hy3]
  have HY3 := hid hy3
  clear hy3
  obtain ⟨s3, hs3⟩ : ∃ s, (runP (numP 1 0 11) 0 x s2).2 = s := ⟨_, rfl⟩
  rw [hs3] at r2
  have HS3 := hid hs3
  clear hs3
  have hszU := (RD.out.size).2
  have RC3 := hid r2
  have OP3 := hid (Ob.beside2 OD.out hb2 (by omega) (by omega))
  have OQC3 := hid (Ob.beside2 OQD.out hb2 (by omega) (by omega))
  have BC3 := hid (BD.out.trans hb2)
  clear r2 hb2 RD OD OQD BD hszU
  have kj := OP3.out.cell (i := 2) (v := .int .i64 0) rfl
  have fj := OP3.out.frozen 2
  have k0 := OP3.out.cell (i := 0) (v := .int .i64 1) rfl
  go_wp2_with (go_at_call 56; refine stop ?_)
  unfold Stop
  have hset : Beside p V3 (V3.setCell ⟨p, 2, none⟩ (.int .i64 y3)) := (Beside.refl _ _).setCell _ _
  have RD := hid (RC3.out.set (by omega) OP3.out (by decide) hset)
  have OD := hid (OP3.out.set 2 (.int .i64 y3))
  have OQD := hid (OQC3.out.beside hset (Nat.ne_of_lt hqp))
  have BD := hid (BC3.out.set3 hset (by omega))
  clear hset RC3 OP3 OQC3 BC3 kj fj
  generalize V3.setCell ⟨p, 2, none⟩ (.int .i64 y3) = U3 at *
  refine (linked_calls _ _).mono ?_
  rw [show decide ((1 : Int) = 3 ∨ (1 : Int) = 4 ∨ (1 : Int) = 5) = false by decide]
  rintro e w' ⟨rfl, rfl⟩
  clear k0
  have k0 := OD.out.cell (i := 0) (v := .int .i64 1) rfl
  go_wp2_with (go_at_call 67; refine stop ?_)
  unfold Stop
  refine (rplain_calls g h S x s3 2 (by omega) (by omega) 0 60000 _ RD.out).mono ?_
  rintro e V4 ⟨v2, rfl, ev2, r2, hb2⟩
  have ev2' : v2 = .int .i64 (runP (numP 2 0 60000) 0 x s3).1 := ev2
  subst ev2'
  clear ev2
  obtain ⟨y4, hy4⟩ : ∃ y, (runP (numP 2 0 60000) 0 x s3).1 = y := ⟨_, rfl⟩
  rw [hy4]
  have HY4 := hid hy4
  clear hy4
  obtain ⟨s4, hs4⟩ : ∃ s, (runP (numP 2 0 60000) 0 x s3).2 = s := ⟨_, rfl⟩
  rw [hs4] at r2
  have HS4 := hid hs4
  clear hs4
  have hszU := (RD.out.size).2
  have RC4 := hid r2
  have OP4 := hid (Ob.beside2 OD.out hb2 (by omega) (by omega))
  have OQC4 := hid (Ob.beside2 OQD.out hb2 (by omega) (by omega))
  have BC4 := hid (BD.out.trans hb2)
  clear r2 hb2 RD OD OQD BD hszU k0
  have kj := OP4.out.cell (i := 3) (v := .int .i64 0) rfl
  have fj := OP4.out.frozen 3
  have k0 := OP4.out.cell (i := 0) (v := .int .i64 1) rfl
  dsimp only
  iterate 15 go_step
  have hset : Beside p V4 (V4.setCell ⟨p, 3, none⟩ (.int .i64 y4)) := (Beside.refl _ _).setCell _ _
  have RD := hid (RC4.out.set (by omega) OP4.out (by decide) hset)
  have OD := hid (OP4.out.set 3 (.int .i64 y4))
  have OQD := hid (OQC4.out.beside hset (Nat.ne_of_lt hqp))
  have BD := hid (BC4.out.set3 hset (by omega))
  clear hset RC4 OP4 OQC4 BC4 kj fj
  generalize V4.setCell ⟨p, 3, none⟩ (.int .i64 y4) = U4 at *
  have ODc : Hid (Ob U4 p 26 [.int .i64 1, .int .i64 y2, .int .i64 y3, .int .i64 y4, .int .i64 0, .int .i64 0, .bool false, .int .i64 0, .int .i64 0, .slice none 0 0, .int .i64 0, .int .i64 0, .int .i64 0, .slice none 0 0]) := OD
  clear OD
  refine wpList_load_ob rfl _ _ rfl p _ ODc.out rfl Tryz.underlying26 rfl frame_info ?_
  refine wpList_store_ob rfl _ _ _ rfl q zeros [.int .i64 1, .int .i64 y2, .int .i64 y3, .int .i64 y4, .int .i64 0, .int .i64 0, .bool false, .int .i64 0, .int .i64 0, .slice none 0 0, .int .i64 0, .int .i64 0, .int .i64 0, .slice none 0 0] OQD.out rfl rfl rfl frame_info (by intro v hv; simp at hv; rcases hv with rfl | rfl | rfl | rfl | rfl | rfl | rfl | rfl | rfl | rfl | rfl | rfl | rfl | rfl <;> rfl) ?_
  intro Z hbZ hsZ obZ
  have OZ := hid obZ
  have BZ := hid hbZ
  clear obZ hbZ
  go_wp2
  (try simp only [Exit.inBlock, Exit.then])
  refine bodyPost_ret (results_cell_ob Tryz.results39 _ _ q _ rfl OZ.out Tryz.underlying26 rfl frame_info) rfl ?_
  have hE : runP frameX (bare 0 0 0) x (.ok 0) = runP (ret { bare 1 y2 y3 with wait := y4 }) (bare 0 0 0) x s4 := by
    unfold frameX
    rw [runP_bind kindP 0, HK.out, HS1.out, runP_bind (numP 1 0 5) 0, HY2.out, HS2.out, runP_bind (numP 1 0 11) 0, HY3.out, HS3.out]
    unfold tailP
    rw [if_pos rfl]
    rw [runP_bind (numP 2 0 60000) 0, HY4.out, HS4.out]
  refine ⟨[.int .i64 1, .int .i64 y2, .int .i64 y3, .int .i64 y4, .int .i64 0, .int .i64 0, .bool false, .int .i64 0, .int .i64 0, .slice none 0 0, .int .i64 0, .int .i64 0, .int .i64 0, .slice none 0 0], rfl, rfl, (by intro v hv; simp at hv; rcases hv with rfl | rfl | rfl | rfl | rfl | rfl | rfl | rfl | rfl | rfl | rfl | rfl | rfl | rfl <;> rfl), ?_, ?_, BD.out.set3 BZ.out (by omega)⟩
  · intro f pos hf W' hW'
    rw [hE] at hf
    cases hsn : s4 with
    | error z => rw [hsn] at hf; cases hf
    | ok pp =>
      rw [hsn] at hf
      injection hf with hf _
      subst hf
      have q2 := runP_wf (lo := 0) (hi := 5) (k := 1) (x := x) (st := s1) (by omega) (by decide)
      rw [HY2.out] at q2
      have q3 := runP_wf (lo := 0) (hi := 11) (k := 1) (x := x) (st := s2) (by omega) (by decide)
      rw [HY3.out] at q3
      have q4 := runP_wf (lo := 0) (hi := 60000) (k := 2) (x := x) (st := s3) (by omega) (by decide)
      rw [HY4.out] at q4
      exact ⟨none, 0, 0, none, 0, 0, rfl, RowI.nil, Row8.nil, by unfold Wf Is64 bare; dsimp only; omega⟩
  · rw [hE]
    have hst : (runP (ret { bare 1 y2 y3 with wait := y4 }) (bare 0 0 0) x s4).2 = s4 := by cases s4 <;> rfl
    rw [hst]
    exact RD.out.set (by omega) OQD.out (by decide) BZ.out
theorem frame_2 (g h : Nat) (S : Sn) (x : List UInt8) (hx : 1 ≤ x.length) (w : World) (r : FR w g h S x (.ok 0)) (hk : (runP kindP 0 x (.ok 0)).1 = 2) :
    Calls Tryz.prog 39 #[.pointer (some ⟨h, 0, none⟩)] w fun e w' => RetFrame w g h S x e w' := by
  have HX := hid hx
  have HR := hid r
  have hsz := r.size
  have HK := hid hk
  clear hx r hk
  obtain ⟨hgh, hhs⟩ := hsz
  go_enter Tryz.func39, Tryz.ntmps39
  iterate 3 go_step
  refine wpList_alloc_any rfl _ rfl zeros frame_zero ?_
  intro q W0 n0
  have hqw : w.heap.size ≤ q := Nat.le_of_eq n0.is_.symm
  have hhq : h < q := by omega
  have HO0 := hid n0.ob
  have R0 := hid (HR.out.below n0.below (Nat.le_refl _))
  have B0 : Hid (Beside2 g h w W0) := Beside2.of_below n0.below
  have hS0 : q < W0.heap.size := n0.ob.lt
  clear n0 HR
  go_wp2_with (go_at_call 65; refine stop ?_)
  unfold Stop
  refine (rkind_calls g h S x HX.out W0 R0.out).mono ?_
  rintro e w1 ⟨v1, rfl, ev1, r1, hb1⟩
  have ev1' : v1 = .int .i64 2 := by rw [ev1, HK.out]
  subst ev1'
  obtain ⟨s1, hs1⟩ : ∃ s, (runP kindP 0 x (.ok 0)).2 = s := ⟨_, rfl⟩
  rw [hs1] at r1
  have HS1 := hid hs1
  have OQ1 := hid (Ob.beside2 HO0.out hb1 (by omega) (by omega))
  have R1 := hid r1
  have B1 := hid (B0.out.trans hb1)
  have hz1 := hb1.size
  clear ev1 r1 hb1 hs1 HO0 R0 B0
  dsimp only
  iterate 4 go_step
  refine wpList_alloc_any rfl _ rfl zeros frame_zero ?_
  intro p V n1
  refine wpList_store_ob rfl _ _ _ rfl p zeros (.int .i64 2 :: zeros.tail) n1.ob rfl rfl rfl frame_info (by decide) ?_
  intro V1 hbV hsV obV
  have hpw : w1.heap.size = p := n1.is_.symm
  have hqp : q < p := by omega
  have hbb : Below p w1 V1 := by
    have h1 := n1.below
    rw [hpw] at h1
    exact h1.trans (hbV.below (Nat.le_refl _) (by rw [n1.size]; omega))
  have RC1 := hid (R1.out.below hbb (by omega))
  have OQC1 := hid (OQ1.out.below hbb hqp)
  have OP1 : Hid (Ob V1 p 26 (.int .i64 2 :: zeros.tail)) := obV
  have BC1 := hid (B1.out.trans (Beside2.of_below (by rw [hpw]; exact hbb)))
  clear n1 hbV hsV obV hbb R1 OQ1 B1 hpw hz1 hS0
  go_wp2_with (go_at_call 66; refine stop ?_)
  unfold Stop
  have RD := RC1
  have OD := OP1
  have OQD := OQC1
  have BD := BC1
  clear RC1 OP1 OQC1 BC1
  refine (rbelow2_calls g h S x s1 6 5 (by decide) (by omega) (by omega) _ RD.out).mono ?_
  rintro e V2 ⟨v2, rfl, ev2, r2, hb2⟩
  have ev2' : v2 = .int .i64 (runP (numP 1 0 5) 0 x s1).1 := ev2
  subst ev2'
  clear ev2
  obtain ⟨y2, hy2⟩ : ∃ y, (runP (numP 1 0 5) 0 x s1).1 = y := ⟨_, rfl⟩
  rw [hy2]
  have HY2 := hid hy2
  clear hy2
  obtain ⟨s2, hs2⟩ : ∃ s, (runP (numP 1 0 5) 0 x s1).2 = s := ⟨_, rfl⟩
  rw [hs2] at r2
  have HS2 := hid hs2
  clear hs2
  have hszU := (RD.out.size).2
  have RC2 := hid r2
  have OP2 := hid (Ob.beside2 OD.out hb2 (by omega) (by omega))
  have OQC2 := hid (Ob.beside2 OQD.out hb2 (by omega) (by omega))
  have BC2 := hid (BD.out.trans hb2)
  clear r2 hb2 RD OD OQD BD hszU
  have kj := OP2.out.cell (i := 1) (v := .int .i64 0) rfl
  have fj := OP2.out.frozen 1
  go_wp2_with (go_at_call 66; refine stop ?_)
  unfold Stop
  have hset : Beside p V2 (V2.setCell ⟨p, 1, none⟩ (.int .i64 y2)) := (Beside.refl _ _).setCell _ _
  have RD := hid (RC2.out.set (by omega) OP2.out (by decide) hset)
  have OD := hid (OP2.out.set 1 (.int .i64 y2))
  have OQD := hid (OQC2.out.beside hset (Nat.ne_of_lt hqp))
  have BD := hid (BC2.out.set3 hset (by omega))
  clear hset RC2 OP2 OQC2 BC2 kj fj
  generalize V2.setCell ⟨p, 1, none⟩ (.int .i64 y2) = U2 at *
  refine (rbelow2_calls g h S x s2 12 11 (by decide) (by omega) (by omega) _ RD.out).mono ?_
  rintro e V3 ⟨v2, rfl, ev2, r2, hb2⟩
  have ev2' : v2 = .int .i64 (runP (numP 1 0 11) 0 x s2).1 := ev2
  subst ev2'
  clear ev2
  obtain ⟨y3, hy3⟩ : ∃ y, (runP (numP 1 0 11) 0 x s2).1 = y := ⟨_, rfl⟩
  rw [hy3]
  have HY3 := hid hy3
  clear hy3
  obtain ⟨s3, hs3⟩ : ∃ s, (runP (numP 1 0 11) 0 x s2).2 = s := ⟨_, rfl⟩
  rw [hs3] at r2
  have HS3 := hid hs3
  clear hs3
  have hszU := (RD.out.size).2
  have RC3 := hid r2
  have OP3 := hid (Ob.beside2 OD.out hb2 (by omega) (by omega))
  have OQC3 := hid (Ob.beside2 OQD.out hb2 (by omega) (by omega))
  have BC3 := hid (BD.out.trans hb2)
  clear r2 hb2 RD OD OQD BD hszU
  have kj := OP3.out.cell (i := 2) (v := .int .i64 0) rfl
  have fj := OP3.out.frozen 2
  have k0 := OP3.out.cell (i := 0) (v := .int .i64 2) rfl
  go_wp2_with (go_at_call 56; refine stop ?_)
  unfold Stop
  have hset : Beside p V3 (V3.setCell ⟨p, 2, none⟩ (.int .i64 y3)) := (Beside.refl _ _).setCell _ _
  have RD := hid (RC3.out.set (by omega) OP3.out (by decide) hset)
  have OD := hid (OP3.out.set 2 (.int .i64 y3))
  have OQD := hid (OQC3.out.beside hset (Nat.ne_of_lt hqp))
  have BD := hid (BC3.out.set3 hset (by omega))
  clear hset RC3 OP3 OQC3 BC3 kj fj
  generalize V3.setCell ⟨p, 2, none⟩ (.int .i64 y3) = U3 at *
  refine (linked_calls _ _).mono ?_
  rw [show decide ((2 : Int) = 3 ∨ (2 : Int) = 4 ∨ (2 : Int) = 5) = false by decide]
  rintro e w' ⟨rfl, rfl⟩
  clear k0
  have k0 := OD.out.cell (i := 0) (v := .int .i64 2) rfl
  go_wp2_with (go_at_call 67; refine stop ?_)
  unfold Stop
  refine (rplain_calls g h S x s3 6 (by omega) (by omega) 0 1099511627776 _ RD.out).mono ?_
  rintro e V4 ⟨v2, rfl, ev2, r2, hb2⟩
  have ev2' : v2 = .int .i64 (runP (numP 6 0 1099511627776) 0 x s3).1 := ev2
  subst ev2'
  clear ev2
  obtain ⟨y4, hy4⟩ : ∃ y, (runP (numP 6 0 1099511627776) 0 x s3).1 = y := ⟨_, rfl⟩
  rw [hy4]
  have HY4 := hid hy4
  clear hy4
  obtain ⟨s4, hs4⟩ : ∃ s, (runP (numP 6 0 1099511627776) 0 x s3).2 = s := ⟨_, rfl⟩
  rw [hs4] at r2
  have HS4 := hid hs4
  clear hs4
  have hszU := (RD.out.size).2
  have RC4 := hid r2
  have OP4 := hid (Ob.beside2 OD.out hb2 (by omega) (by omega))
  have OQC4 := hid (Ob.beside2 OQD.out hb2 (by omega) (by omega))
  have BC4 := hid (BD.out.trans hb2)
  clear r2 hb2 RD OD OQD BD hszU k0
  have kj := OP4.out.cell (i := 7) (v := .int .i64 0) rfl
  have fj := OP4.out.frozen 7
  have k0 := OP4.out.cell (i := 0) (v := .int .i64 2) rfl
  go_wp2_with (go_at_call 67; refine stop ?_)
  unfold Stop
  have hset : Beside p V4 (V4.setCell ⟨p, 7, none⟩ (.int .i64 y4)) := (Beside.refl _ _).setCell _ _
  have RD := hid (RC4.out.set (by omega) OP4.out (by decide) hset)
  have OD := hid (OP4.out.set 7 (.int .i64 y4))
  have OQD := hid (OQC4.out.beside hset (Nat.ne_of_lt hqp))
  have BD := hid (BC4.out.set3 hset (by omega))
  clear hset RC4 OP4 OQC4 BC4 kj fj
  generalize V4.setCell ⟨p, 7, none⟩ (.int .i64 y4) = U4 at *
  refine (rplain_calls g h S x s4 2 (by omega) (by omega) 0 4095 _ RD.out).mono ?_
  rintro e V5 ⟨v2, rfl, ev2, r2, hb2⟩
  have ev2' : v2 = .int .i64 (runP (numP 2 0 4095) 0 x s4).1 := ev2
  subst ev2'
  clear ev2
  obtain ⟨y5, hy5⟩ : ∃ y, (runP (numP 2 0 4095) 0 x s4).1 = y := ⟨_, rfl⟩
  rw [hy5]
  have HY5 := hid hy5
  clear hy5
  obtain ⟨s5, hs5⟩ : ∃ s, (runP (numP 2 0 4095) 0 x s4).2 = s := ⟨_, rfl⟩
  rw [hs5] at r2
  have HS5 := hid hs5
  clear hs5
  have hszU := (RD.out.size).2
  have RC5 := hid r2
  have OP5 := hid (Ob.beside2 OD.out hb2 (by omega) (by omega))
  have OQC5 := hid (Ob.beside2 OQD.out hb2 (by omega) (by omega))
  have BC5 := hid (BD.out.trans hb2)
  clear r2 hb2 RD OD OQD BD hszU k0
  have kj := OP5.out.cell (i := 4) (v := .int .i64 0) rfl
  have fj := OP5.out.frozen 4
  have k0 := OP5.out.cell (i := 0) (v := .int .i64 2) rfl
  go_wp2_with (go_at_call 68; refine stop ?_)
  unfold Stop
  have hset : Beside p V5 (V5.setCell ⟨p, 4, none⟩ (.int .i64 y5)) := (Beside.refl _ _).setCell _ _
  have RD := hid (RC5.out.set (by omega) OP5.out (by decide) hset)
  have OD := hid (OP5.out.set 4 (.int .i64 y5))
  have OQD := hid (OQC5.out.beside hset (Nat.ne_of_lt hqp))
  have BD := hid (BC5.out.set3 hset (by omega))
  clear hset RC5 OP5 OQC5 BC5 kj fj
  generalize V5.setCell ⟨p, 4, none⟩ (.int .i64 y5) = U5 at *
  refine (rages_calls g h S x s5 _ RD.out).mono ?_
  rintro e V6 ⟨xa, xn, xc, xl, rfl, hxr, hxe, r2, hb2⟩
  have HXR := hid hxr
  have HXE := hid hxe
  have hpU := OD.out.lt
  have hqU := OQD.out.lt
  clear hxr hxe
  obtain ⟨s6, hs6⟩ : ∃ s, (runP (agesP) [] x s5).2 = s := ⟨_, rfl⟩
  rw [hs6] at r2
  have HS6 := hid hs6
  clear hs6
  have hszU := (RD.out.size).2
  have RC6 := hid r2
  have OP6 := hid (Ob.beside2 OD.out hb2 (by omega) (by omega))
  have OQC6 := hid (Ob.beside2 OQD.out hb2 (by omega) (by omega))
  have BC6 := hid (BD.out.trans hb2)
  clear r2 hb2 RD OD OQD BD hszU k0
  have kj := OP6.out.cell (i := 9) (v := .slice none 0 0) rfl
  have fj := OP6.out.frozen 9
  have k0 := OP6.out.cell (i := 0) (v := .int .i64 2) rfl
  dsimp only
  iterate 15 go_step
  have hset : Beside p V6 (V6.setCell ⟨p, 9, none⟩ (.slice xa xn xc)) := (Beside.refl _ _).setCell _ _
  have RD := hid (RC6.out.set (by omega) OP6.out (by decide) hset)
  have OD := hid (OP6.out.set 9 (.slice xa xn xc))
  have OQD := hid (OQC6.out.beside hset (Nat.ne_of_lt hqp))
  have BD := hid (BC6.out.set3 hset (by omega))
  have HXU := hid (ownsRow_setCell_below HXR.out.1 (a := ⟨p, 9, none⟩) hpU (.slice xa xn xc))
  clear hset RC6 OP6 OQC6 BC6 kj fj
  generalize V6.setCell ⟨p, 9, none⟩ (.slice xa xn xc) = U6 at *
  have ODc : Hid (Ob U6 p 26 [.int .i64 2, .int .i64 y2, .int .i64 y3, .int .i64 0, .int .i64 y5, .int .i64 0, .bool false, .int .i64 y4, .int .i64 0, .slice xa xn xc, .int .i64 0, .int .i64 0, .int .i64 0, .slice none 0 0]) := OD
  clear OD
  refine wpList_load_ob rfl _ _ rfl p _ ODc.out rfl Tryz.underlying26 rfl frame_info ?_
  refine wpList_store_ob rfl _ _ _ rfl q zeros [.int .i64 2, .int .i64 y2, .int .i64 y3, .int .i64 0, .int .i64 y5, .int .i64 0, .bool false, .int .i64 y4, .int .i64 0, .slice xa xn xc, .int .i64 0, .int .i64 0, .int .i64 0, .slice none 0 0] OQD.out rfl rfl rfl frame_info (by intro v hv; simp at hv; rcases hv with rfl | rfl | rfl | rfl | rfl | rfl | rfl | rfl | rfl | rfl | rfl | rfl | rfl | rfl <;> rfl) ?_
  intro Z hbZ hsZ obZ
  have OZ := hid obZ
  have BZ := hid hbZ
  clear obZ hbZ
  go_wp2
  (try simp only [Exit.inBlock, Exit.then])
  refine bodyPost_ret (results_cell_ob Tryz.results39 _ _ q _ rfl OZ.out Tryz.underlying26 rfl frame_info) rfl ?_
  have hE : runP frameX (bare 0 0 0) x (.ok 0) = runP (ret { bare 2 y2 y3 with cycle := y4, mask := y5, ages := (runP agesP [] x s5).1 }) (bare 0 0 0) x s6 := by
    unfold frameX
    rw [runP_bind kindP 0, HK.out, HS1.out, runP_bind (numP 1 0 5) 0, HY2.out, HS2.out, runP_bind (numP 1 0 11) 0, HY3.out, HS3.out]
    unfold tailP
    rw [if_neg (by decide), if_pos rfl]
    rw [runP_bind (numP 6 0 1099511627776) 0, HY4.out, HS4.out, runP_bind (numP 2 0 4095) 0, HY5.out, HS5.out, runP_bind (agesP) [], HS6.out]
  refine ⟨[.int .i64 2, .int .i64 y2, .int .i64 y3, .int .i64 0, .int .i64 y5, .int .i64 0, .bool false, .int .i64 y4, .int .i64 0, .slice xa xn xc, .int .i64 0, .int .i64 0, .int .i64 0, .slice none 0 0], rfl, rfl, (by intro v hv; simp at hv; rcases hv with rfl | rfl | rfl | rfl | rfl | rfl | rfl | rfl | rfl | rfl | rfl | rfl | rfl | rfl <;> rfl), ?_, ?_, BD.out.set3 BZ.out (by omega)⟩
  · intro f pos hf W' hW'
    rw [hE] at hf
    cases hsn : s6 with
    | error z => rw [hsn] at hf; cases hf
    | ok pp =>
      rw [hsn] at hf
      injection hf with hf _
      subst hf
      have q2 := runP_wf (lo := 0) (hi := 5) (k := 1) (x := x) (st := s1) (by omega) (by decide)
      rw [HY2.out] at q2
      have q3 := runP_wf (lo := 0) (hi := 11) (k := 1) (x := x) (st := s2) (by omega) (by decide)
      rw [HY3.out] at q3
      have q4 := runP_wf (lo := 0) (hi := 1099511627776) (k := 6) (x := x) (st := s3) (by omega) (by decide)
      rw [HY4.out] at q4
      have q5 := runP_wf (lo := 0) (hi := 4095) (k := 2) (x := x) (st := s4) (by omega) (by decide)
      rw [HY5.out] at q5
      have hag : xl = (runP agesP [] x s5).1 := HXE.out pp (HS6.out.trans hsn)
      have how := owns_keep (owns_beside HXU.out BZ.out hqU) (fun kk h1 h2 => hW' kk (by omega) h2)
      have hrow := RowC.own how
      exact ⟨xa, xn, xc, none, 0, 0, rfl, by rw [← hag]; exact ⟨hrow, HXR.out.2⟩, Row8.nil, by unfold Wf Is64 bare; dsimp only; omega⟩
  · rw [hE]
    have hst : (runP (ret { bare 2 y2 y3 with cycle := y4, mask := y5, ages := (runP agesP [] x s5).1 }) (bare 0 0 0) x s6).2 = s6 := by cases s6 <;> rfl
    rw [hst]
    exact RD.out.set (by omega) OQD.out (by decide) BZ.out
theorem frame_3 (g h : Nat) (S : Sn) (x : List UInt8) (hx : 1 ≤ x.length) (w : World) (r : FR w g h S x (.ok 0)) (hk : (runP kindP 0 x (.ok 0)).1 = 3) :
    Calls Tryz.prog 39 #[.pointer (some ⟨h, 0, none⟩)] w fun e w' => RetFrame w g h S x e w' := by
  have HX := hid hx
  have HR := hid r
  have hsz := r.size
  have HK := hid hk
  clear hx r hk
  obtain ⟨hgh, hhs⟩ := hsz
  go_enter Tryz.func39, Tryz.ntmps39
  iterate 3 go_step
  refine wpList_alloc_any rfl _ rfl zeros frame_zero ?_
  intro q W0 n0
  have hqw : w.heap.size ≤ q := Nat.le_of_eq n0.is_.symm
  have hhq : h < q := by omega
  have HO0 := hid n0.ob
  have R0 := hid (HR.out.below n0.below (Nat.le_refl _))
  have B0 : Hid (Beside2 g h w W0) := Beside2.of_below n0.below
  have hS0 : q < W0.heap.size := n0.ob.lt
  clear n0 HR
  go_wp2_with (go_at_call 65; refine stop ?_)
  unfold Stop
  refine (rkind_calls g h S x HX.out W0 R0.out).mono ?_
  rintro e w1 ⟨v1, rfl, ev1, r1, hb1⟩
  have ev1' : v1 = .int .i64 3 := by rw [ev1, HK.out]
  subst ev1'
  obtain ⟨s1, hs1⟩ : ∃ s, (runP kindP 0 x (.ok 0)).2 = s := ⟨_, rfl⟩
  rw [hs1] at r1
  have HS1 := hid hs1
  have OQ1 := hid (Ob.beside2 HO0.out hb1 (by omega) (by omega))
  have R1 := hid r1
  have B1 := hid (B0.out.trans hb1)
  have hz1 := hb1.size
  clear ev1 r1 hb1 hs1 HO0 R0 B0
  dsimp only
  iterate 4 go_step
  refine wpList_alloc_any rfl _ rfl zeros frame_zero ?_
  intro p V n1
  refine wpList_store_ob rfl _ _ _ rfl p zeros (.int .i64 3 :: zeros.tail) n1.ob rfl rfl rfl frame_info (by decide) ?_
  intro V1 hbV hsV obV
  have hpw : w1.heap.size = p := n1.is_.symm
  have hqp : q < p := by omega
  have hbb : Below p w1 V1 := by
    have h1 := n1.below
    rw [hpw] at h1
    exact h1.trans (hbV.below (Nat.le_refl _) (by rw [n1.size]; omega))
  have RC1 := hid (R1.out.below hbb (by omega))
  have OQC1 := hid (OQ1.out.below hbb hqp)
  have OP1 : Hid (Ob V1 p 26 (.int .i64 3 :: zeros.tail)) := obV
  have BC1 := hid (B1.out.trans (Beside2.of_below (by rw [hpw]; exact hbb)))
  clear n1 hbV hsV obV hbb R1 OQ1 B1 hpw hz1 hS0
  go_wp2_with (go_at_call 66; refine stop ?_)
  unfold Stop
  have RD := RC1
  have OD := OP1
  have OQD := OQC1
  have BD := BC1
  clear RC1 OP1 OQC1 BC1
  refine (rbelow2_calls g h S x s1 6 5 (by decide) (by omega) (by omega) _ RD.out).mono ?_
  rintro e V2 ⟨v2, rfl, ev2, r2, hb2⟩
  have ev2' : v2 = .int .i64 (runP (numP 1 0 5) 0 x s1).1 := ev2
  subst ev2'
  clear ev2
  obtain ⟨y2, hy2⟩ : ∃ y, (runP (numP 1 0 5) 0 x s1).1 = y := ⟨_, rfl⟩
  rw [hy2]
  have HY2 := hid hy2
  clear hy2
  obtain ⟨s2, hs2⟩ : ∃ s, (runP (numP 1 0 5) 0 x s1).2 = s := ⟨_, rfl⟩
  rw [hs2] at r2
  have HS2 := hid hs2
  clear hs2
  have hszU := (RD.out.size).2
  have RC2 := hid r2
  have OP2 := hid (Ob.beside2 OD.out hb2 (by omega) (by omega))
  have OQC2 := hid (Ob.beside2 OQD.out hb2 (by omega) (by omega))
  have BC2 := hid (BD.out.trans hb2)
  clear r2 hb2 RD OD OQD BD hszU
  have kj := OP2.out.cell (i := 1) (v := .int .i64 0) rfl
  have fj := OP2.out.frozen 1
  go_wp2_with (go_at_call 66; refine stop ?_)
  unfold Stop
  have hset : Beside p V2 (V2.setCell ⟨p, 1, none⟩ (.int .i64 y2)) := (Beside.refl _ _).setCell _ _
  have RD := hid (RC2.out.set (by omega) OP2.out (by decide) hset)
  have OD := hid (OP2.out.set 1 (.int .i64 y2))
  have OQD := hid (OQC2.out.beside hset (Nat.ne_of_lt hqp))
  have BD := hid (BC2.out.set3 hset (by omega))
  clear hset RC2 OP2 OQC2 BC2 kj fj
  generalize V2.setCell ⟨p, 1, none⟩ (.int .i64 y2) = U2 at *
  refine (rbelow2_calls g h S x s2 12 11 (by decide) (by omega) (by omega) _ RD.out).mono ?_
  rintro e V3 ⟨v2, rfl, ev2, r2, hb2⟩
  have ev2' : v2 = .int .i64 (runP (numP 1 0 11) 0 x s2).1 := ev2
  subst ev2'
  clear ev2
  obtain ⟨y3, hy3⟩ : ∃ y, (runP (numP 1 0 11) 0 x s2).1 = y := ⟨_, rfl⟩
  rw [hy3]
  have HY3 := hid hy3
  clear hy3
  obtain ⟨s3, hs3⟩ : ∃ s, (runP (numP 1 0 11) 0 x s2).2 = s := ⟨_, rfl⟩
  rw [hs3] at r2
  have HS3 := hid hs3
  clear hs3
  have hszU := (RD.out.size).2
  have RC3 := hid r2
  have OP3 := hid (Ob.beside2 OD.out hb2 (by omega) (by omega))
  have OQC3 := hid (Ob.beside2 OQD.out hb2 (by omega) (by omega))
  have BC3 := hid (BD.out.trans hb2)
  clear r2 hb2 RD OD OQD BD hszU
  have kj := OP3.out.cell (i := 2) (v := .int .i64 0) rfl
  have fj := OP3.out.frozen 2
  have k0 := OP3.out.cell (i := 0) (v := .int .i64 3) rfl
  go_wp2_with (go_at_call 56; refine stop ?_)
  unfold Stop
  have hset : Beside p V3 (V3.setCell ⟨p, 2, none⟩ (.int .i64 y3)) := (Beside.refl _ _).setCell _ _
  have RD := hid (RC3.out.set (by omega) OP3.out (by decide) hset)
  have OD := hid (OP3.out.set 2 (.int .i64 y3))
  have OQD := hid (OQC3.out.beside hset (Nat.ne_of_lt hqp))
  have BD := hid (BC3.out.set3 hset (by omega))
  clear hset RC3 OP3 OQC3 BC3 kj fj
  generalize V3.setCell ⟨p, 2, none⟩ (.int .i64 y3) = U3 at *
  refine (linked_calls _ _).mono ?_
  rw [show decide ((3 : Int) = 3 ∨ (3 : Int) = 4 ∨ (3 : Int) = 5) = true by decide]
  rintro e w' ⟨rfl, rfl⟩
  clear k0
  have k0 := OD.out.cell (i := 0) (v := .int .i64 3) rfl
  go_wp2_with (go_at_call 66; refine stop ?_)
  unfold Stop
  refine (rbelow2_calls g h S x s3 10 9 (by decide) (by omega) (by omega) _ RD.out).mono ?_
  rintro e V4 ⟨v2, rfl, ev2, r2, hb2⟩
  have ev2' : v2 = .int .i64 (runP (numP 1 0 9) 0 x s3).1 := ev2
  subst ev2'
  clear ev2
  obtain ⟨y4, hy4⟩ : ∃ y, (runP (numP 1 0 9) 0 x s3).1 = y := ⟨_, rfl⟩
  rw [hy4]
  have HY4 := hid hy4
  clear hy4
  obtain ⟨s4, hs4⟩ : ∃ s, (runP (numP 1 0 9) 0 x s3).2 = s := ⟨_, rfl⟩
  rw [hs4] at r2
  have HS4 := hid hs4
  clear hs4
  have hszU := (RD.out.size).2
  have RC4 := hid r2
  have OP4 := hid (Ob.beside2 OD.out hb2 (by omega) (by omega))
  have OQC4 := hid (Ob.beside2 OQD.out hb2 (by omega) (by omega))
  have BC4 := hid (BD.out.trans hb2)
  clear r2 hb2 RD OD OQD BD hszU k0
  have kj := OP4.out.cell (i := 5) (v := .int .i64 0) rfl
  have fj := OP4.out.frozen 5
  have k0 := OP4.out.cell (i := 0) (v := .int .i64 3) rfl
  go_wp2_with (go_at_call 67; refine stop ?_)
  unfold Stop
  have hset : Beside p V4 (V4.setCell ⟨p, 5, none⟩ (.int .i64 y4)) := (Beside.refl _ _).setCell _ _
  have RD := hid (RC4.out.set (by omega) OP4.out (by decide) hset)
  have OD := hid (OP4.out.set 5 (.int .i64 y4))
  have OQD := hid (OQC4.out.beside hset (Nat.ne_of_lt hqp))
  have BD := hid (BC4.out.set3 hset (by omega))
  clear hset RC4 OP4 OQC4 BC4 kj fj
  generalize V4.setCell ⟨p, 5, none⟩ (.int .i64 y4) = U4 at *
  refine (rplain_calls g h S x s4 1 (by omega) (by omega) 0 1 _ RD.out).mono ?_
  rintro e V5 ⟨v2, rfl, ev2, r2, hb2⟩
  have ev2' : v2 = .int .i64 (runP (numP 1 0 1) 0 x s4).1 := ev2
  subst ev2'
  clear ev2
  obtain ⟨y5, hy5⟩ : ∃ y, (runP (numP 1 0 1) 0 x s4).1 = y := ⟨_, rfl⟩
  rw [hy5]
  have HY5 := hid hy5
  clear hy5
  obtain ⟨s5, hs5⟩ : ∃ s, (runP (numP 1 0 1) 0 x s4).2 = s := ⟨_, rfl⟩
  rw [hs5] at r2
  have HS5 := hid hs5
  clear hs5
  have hszU := (RD.out.size).2
  have RC5 := hid r2
  have OP5 := hid (Ob.beside2 OD.out hb2 (by omega) (by omega))
  have OQC5 := hid (Ob.beside2 OQD.out hb2 (by omega) (by omega))
  have BC5 := hid (BD.out.trans hb2)
  clear r2 hb2 RD OD OQD BD hszU k0
  have kj := OP5.out.cell (i := 6) (v := .bool false) rfl
  have fj := OP5.out.frozen 6
  have k0 := OP5.out.cell (i := 0) (v := .int .i64 3) rfl
  go_wp2_with (go_at_call 67; refine stop ?_)
  unfold Stop
  have hset : Beside p V5 (V5.setCell ⟨p, 6, none⟩ (.bool (y5 == 1))) := (Beside.refl _ _).setCell _ _
  have RD := hid (RC5.out.set (by omega) OP5.out (by decide) hset)
  have OD := hid (OP5.out.set 6 (.bool (y5 == 1)))
  have OQD := hid (OQC5.out.beside hset (Nat.ne_of_lt hqp))
  have BD := hid (BC5.out.set3 hset (by omega))
  clear hset RC5 OP5 OQC5 BC5 kj fj
  generalize V5.setCell ⟨p, 6, none⟩ (.bool (y5 == 1)) = U5 at *
  refine (rplain_calls g h S x s5 6 (by omega) (by omega) 0 1099511627776 _ RD.out).mono ?_
  rintro e V6 ⟨v2, rfl, ev2, r2, hb2⟩
  have ev2' : v2 = .int .i64 (runP (numP 6 0 1099511627776) 0 x s5).1 := ev2
  subst ev2'
  clear ev2
  obtain ⟨y6, hy6⟩ : ∃ y, (runP (numP 6 0 1099511627776) 0 x s5).1 = y := ⟨_, rfl⟩
  rw [hy6]
  have HY6 := hid hy6
  clear hy6
  obtain ⟨s6, hs6⟩ : ∃ s, (runP (numP 6 0 1099511627776) 0 x s5).2 = s := ⟨_, rfl⟩
  rw [hs6] at r2
  have HS6 := hid hs6
  clear hs6
  have hszU := (RD.out.size).2
  have RC6 := hid r2
  have OP6 := hid (Ob.beside2 OD.out hb2 (by omega) (by omega))
  have OQC6 := hid (Ob.beside2 OQD.out hb2 (by omega) (by omega))
  have BC6 := hid (BD.out.trans hb2)
  clear r2 hb2 RD OD OQD BD hszU k0
  have kj := OP6.out.cell (i := 7) (v := .int .i64 0) rfl
  have fj := OP6.out.frozen 7
  have k0 := OP6.out.cell (i := 0) (v := .int .i64 3) rfl
  go_wp2_with (go_at_call 69; refine stop ?_)
  unfold Stop
  have hset : Beside p V6 (V6.setCell ⟨p, 7, none⟩ (.int .i64 y6)) := (Beside.refl _ _).setCell _ _
  have RD := hid (RC6.out.set (by omega) OP6.out (by decide) hset)
  have OD := hid (OP6.out.set 7 (.int .i64 y6))
  have OQD := hid (OQC6.out.beside hset (Nat.ne_of_lt hqp))
  have BD := hid (BC6.out.set3 hset (by omega))
  clear hset RC6 OP6 OQC6 BC6 kj fj
  generalize V6.setCell ⟨p, 7, none⟩ (.int .i64 y6) = U6 at *
  refine (rofs_calls g h S x s6 _ RD.out).mono ?_
  rintro e V7 ⟨v2, rfl, ev2, r2, hb2⟩
  have ev2' : v2 = .int .i64 (runP (offP) 0 x s6).1 := ev2
  subst ev2'
  clear ev2
  obtain ⟨y7, hy7⟩ : ∃ y, (runP (offP) 0 x s6).1 = y := ⟨_, rfl⟩
  rw [hy7]
  have HY7 := hid hy7
  clear hy7
  obtain ⟨s7, hs7⟩ : ∃ s, (runP (offP) 0 x s6).2 = s := ⟨_, rfl⟩
  rw [hs7] at r2
  have HS7 := hid hs7
  clear hs7
  have hszU := (RD.out.size).2
  have RC7 := hid r2
  have OP7 := hid (Ob.beside2 OD.out hb2 (by omega) (by omega))
  have OQC7 := hid (Ob.beside2 OQD.out hb2 (by omega) (by omega))
  have BC7 := hid (BD.out.trans hb2)
  clear r2 hb2 RD OD OQD BD hszU k0
  have kj := OP7.out.cell (i := 8) (v := .int .i64 0) rfl
  have fj := OP7.out.frozen 8
  have k0 := OP7.out.cell (i := 0) (v := .int .i64 3) rfl
  dsimp only
  iterate 15 go_step
  have hset : Beside p V7 (V7.setCell ⟨p, 8, none⟩ (.int .i64 y7)) := (Beside.refl _ _).setCell _ _
  have RD := hid (RC7.out.set (by omega) OP7.out (by decide) hset)
  have OD := hid (OP7.out.set 8 (.int .i64 y7))
  have OQD := hid (OQC7.out.beside hset (Nat.ne_of_lt hqp))
  have BD := hid (BC7.out.set3 hset (by omega))
  clear hset RC7 OP7 OQC7 BC7 kj fj
  generalize V7.setCell ⟨p, 8, none⟩ (.int .i64 y7) = U7 at *
  have ODc : Hid (Ob U7 p 26 [.int .i64 3, .int .i64 y2, .int .i64 y3, .int .i64 0, .int .i64 0, .int .i64 y4, .bool (y5 == 1), .int .i64 y6, .int .i64 y7, .slice none 0 0, .int .i64 0, .int .i64 0, .int .i64 0, .slice none 0 0]) := OD
  clear OD
  refine wpList_load_ob rfl _ _ rfl p _ ODc.out rfl Tryz.underlying26 rfl frame_info ?_
  refine wpList_store_ob rfl _ _ _ rfl q zeros [.int .i64 3, .int .i64 y2, .int .i64 y3, .int .i64 0, .int .i64 0, .int .i64 y4, .bool (y5 == 1), .int .i64 y6, .int .i64 y7, .slice none 0 0, .int .i64 0, .int .i64 0, .int .i64 0, .slice none 0 0] OQD.out rfl rfl rfl frame_info (by intro v hv; simp at hv; rcases hv with rfl | rfl | rfl | rfl | rfl | rfl | rfl | rfl | rfl | rfl | rfl | rfl | rfl | rfl <;> rfl) ?_
  intro Z hbZ hsZ obZ
  have OZ := hid obZ
  have BZ := hid hbZ
  clear obZ hbZ
  go_wp2
  (try simp only [Exit.inBlock, Exit.then])
  refine bodyPost_ret (results_cell_ob Tryz.results39 _ _ q _ rfl OZ.out Tryz.underlying26 rfl frame_info) rfl ?_
  have hE : runP frameX (bare 0 0 0) x (.ok 0) = runP (ret { bare 3 y2 y3 with link := y4, flag := decide (y5 = 1), cycle := y6, offset := y7 }) (bare 0 0 0) x s7 := by
    unfold frameX
    rw [runP_bind kindP 0, HK.out, HS1.out, runP_bind (numP 1 0 5) 0, HY2.out, HS2.out, runP_bind (numP 1 0 11) 0, HY3.out, HS3.out]
    unfold tailP
    rw [if_neg (by decide), if_neg (by decide), if_pos rfl]
    rw [runP_bind (numP 1 0 9) 0, HY4.out, HS4.out, runP_bind (numP 1 0 1) 0, HY5.out, HS5.out, runP_bind (numP 6 0 1099511627776) 0, HY6.out, HS6.out, runP_bind (offP) 0, HY7.out, HS7.out]
  refine ⟨[.int .i64 3, .int .i64 y2, .int .i64 y3, .int .i64 0, .int .i64 0, .int .i64 y4, .bool (y5 == 1), .int .i64 y6, .int .i64 y7, .slice none 0 0, .int .i64 0, .int .i64 0, .int .i64 0, .slice none 0 0], rfl, rfl, (by intro v hv; simp at hv; rcases hv with rfl | rfl | rfl | rfl | rfl | rfl | rfl | rfl | rfl | rfl | rfl | rfl | rfl | rfl <;> rfl), ?_, ?_, BD.out.set3 BZ.out (by omega)⟩
  · intro f pos hf W' hW'
    rw [hE] at hf
    cases hsn : s7 with
    | error z => rw [hsn] at hf; cases hf
    | ok pp =>
      rw [hsn] at hf
      injection hf with hf _
      subst hf
      have q2 := runP_wf (lo := 0) (hi := 5) (k := 1) (x := x) (st := s1) (by omega) (by decide)
      rw [HY2.out] at q2
      have q3 := runP_wf (lo := 0) (hi := 11) (k := 1) (x := x) (st := s2) (by omega) (by decide)
      rw [HY3.out] at q3
      have q4 := runP_wf (lo := 0) (hi := 9) (k := 1) (x := x) (st := s3) (by omega) (by decide)
      rw [HY4.out] at q4
      have q5 := runP_wf (lo := 0) (hi := 1) (k := 1) (x := x) (st := s4) (by omega) (by decide)
      rw [HY5.out] at q5
      have q6 := runP_wf (lo := 0) (hi := 1099511627776) (k := 6) (x := x) (st := s5) (by omega) (by decide)
      rw [HY6.out] at q6
      have q7 := offP_wf x s6
      rw [HY7.out] at q7
      refine ⟨none, 0, 0, none, 0, 0, ?_, RowI.nil, Row8.nil, by unfold Wf Is64 bare; dsimp only; omega⟩
      have hfl : (y5 == 1) = decide (y5 = 1) := by rw [Bool.eq_iff_iff]; simp
      rw [hfl]
      rfl
  · rw [hE]
    have hst : (runP (ret { bare 3 y2 y3 with link := y4, flag := decide (y5 = 1), cycle := y6, offset := y7 }) (bare 0 0 0) x s7).2 = s7 := by cases s7 <;> rfl
    rw [hst]
    exact RD.out.set (by omega) OQD.out (by decide) BZ.out
theorem frame_4 (g h : Nat) (S : Sn) (x : List UInt8) (hx : 1 ≤ x.length) (w : World) (r : FR w g h S x (.ok 0)) (hk : (runP kindP 0 x (.ok 0)).1 = 4) :
    Calls Tryz.prog 39 #[.pointer (some ⟨h, 0, none⟩)] w fun e w' => RetFrame w g h S x e w' := by
  have HX := hid hx
  have HR := hid r
  have hsz := r.size
  have HK := hid hk
  clear hx r hk
  obtain ⟨hgh, hhs⟩ := hsz
  go_enter Tryz.func39, Tryz.ntmps39
  iterate 3 go_step
  refine wpList_alloc_any rfl _ rfl zeros frame_zero ?_
  intro q W0 n0
  have hqw : w.heap.size ≤ q := Nat.le_of_eq n0.is_.symm
  have hhq : h < q := by omega
  have HO0 := hid n0.ob
  have R0 := hid (HR.out.below n0.below (Nat.le_refl _))
  have B0 : Hid (Beside2 g h w W0) := Beside2.of_below n0.below
  have hS0 : q < W0.heap.size := n0.ob.lt
  clear n0 HR
  go_wp2_with (go_at_call 65; refine stop ?_)
  unfold Stop
  refine (rkind_calls g h S x HX.out W0 R0.out).mono ?_
  rintro e w1 ⟨v1, rfl, ev1, r1, hb1⟩
  have ev1' : v1 = .int .i64 4 := by rw [ev1, HK.out]
  subst ev1'
  obtain ⟨s1, hs1⟩ : ∃ s, (runP kindP 0 x (.ok 0)).2 = s := ⟨_, rfl⟩
  rw [hs1] at r1
  have HS1 := hid hs1
  have OQ1 := hid (Ob.beside2 HO0.out hb1 (by omega) (by omega))
  have R1 := hid r1
  have B1 := hid (B0.out.trans hb1)
  have hz1 := hb1.size
  clear ev1 r1 hb1 hs1 HO0 R0 B0
  dsimp only
  iterate 4 go_step
  refine wpList_alloc_any rfl _ rfl zeros frame_zero ?_
  intro p V n1
  refine wpList_store_ob rfl _ _ _ rfl p zeros (.int .i64 4 :: zeros.tail) n1.ob rfl rfl rfl frame_info (by decide) ?_
  intro V1 hbV hsV obV
  have hpw : w1.heap.size = p := n1.is_.symm
  have hqp : q < p := by omega
  have hbb : Below p w1 V1 := by
    have h1 := n1.below
    rw [hpw] at h1
    exact h1.trans (hbV.below (Nat.le_refl _) (by rw [n1.size]; omega))
  have RC1 := hid (R1.out.below hbb (by omega))
  have OQC1 := hid (OQ1.out.below hbb hqp)
  have OP1 : Hid (Ob V1 p 26 (.int .i64 4 :: zeros.tail)) := obV
  have BC1 := hid (B1.out.trans (Beside2.of_below (by rw [hpw]; exact hbb)))
  clear n1 hbV hsV obV hbb R1 OQ1 B1 hpw hz1 hS0
  go_wp2_with (go_at_call 66; refine stop ?_)
  unfold Stop
  have RD := RC1
  have OD := OP1
  have OQD := OQC1
  have BD := BC1
  clear RC1 OP1 OQC1 BC1
  refine (rbelow2_calls g h S x s1 6 5 (by decide) (by omega) (by omega) _ RD.out).mono ?_
  rintro e V2 ⟨v2, rfl, ev2, r2, hb2⟩
  have ev2' : v2 = .int .i64 (runP (numP 1 0 5) 0 x s1).1 := ev2
  subst ev2'
  clear ev2
  obtain ⟨y2, hy2⟩ : ∃ y, (runP (numP 1 0 5) 0 x s1).1 = y := ⟨_, rfl⟩
  rw [hy2]
  have HY2 := hid hy2
  clear hy2
  obtain ⟨s2, hs2⟩ : ∃ s, (runP (numP 1 0 5) 0 x s1).2 = s := ⟨_, rfl⟩
  rw [hs2] at r2
  have HS2 := hid hs2
  clear hs2
  have hszU := (RD.out.size).2
  have RC2 := hid r2
  have OP2 := hid (Ob.beside2 OD.out hb2 (by omega) (by omega))
  have OQC2 := hid (Ob.beside2 OQD.out hb2 (by omega) (by omega))
  have BC2 := hid (BD.out.trans hb2)
  clear r2 hb2 RD OD OQD BD hszU
  have kj := OP2.out.cell (i := 1) (v := .int .i64 0) rfl
  have fj := OP2.out.frozen 1
  go_wp2_with (go_at_call 66; refine stop ?_)
  unfold Stop
  have hset : Beside p V2 (V2.setCell ⟨p, 1, none⟩ (.int .i64 y2)) := (Beside.refl _ _).setCell _ _
  have RD := hid (RC2.out.set (by omega) OP2.out (by decide) hset)
  have OD := hid (OP2.out.set 1 (.int .i64 y2))
  have OQD := hid (OQC2.out.beside hset (Nat.ne_of_lt hqp))
  have BD := hid (BC2.out.set3 hset (by omega))
  clear hset RC2 OP2 OQC2 BC2 kj fj
  generalize V2.setCell ⟨p, 1, none⟩ (.int .i64 y2) = U2 at *
  refine (rbelow2_calls g h S x s2 12 11 (by decide) (by omega) (by omega) _ RD.out).mono ?_
  rintro e V3 ⟨v2, rfl, ev2, r2, hb2⟩
  have ev2' : v2 = .int .i64 (runP (numP 1 0 11) 0 x s2).1 := ev2
  subst ev2'
  clear ev2
  obtain ⟨y3, hy3⟩ : ∃ y, (runP (numP 1 0 11) 0 x s2).1 = y := ⟨_, rfl⟩
  rw [hy3]
  have HY3 := hid hy3
  clear hy3
  obtain ⟨s3, hs3⟩ : ∃ s, (runP (numP 1 0 11) 0 x s2).2 = s := ⟨_, rfl⟩
  rw [hs3] at r2
  have HS3 := hid hs3
  clear hs3
  have hszU := (RD.out.size).2
  have RC3 := hid r2
  have OP3 := hid (Ob.beside2 OD.out hb2 (by omega) (by omega))
  have OQC3 := hid (Ob.beside2 OQD.out hb2 (by omega) (by omega))
  have BC3 := hid (BD.out.trans hb2)
  clear r2 hb2 RD OD OQD BD hszU
  have kj := OP3.out.cell (i := 2) (v := .int .i64 0) rfl
  have fj := OP3.out.frozen 2
  have k0 := OP3.out.cell (i := 0) (v := .int .i64 4) rfl
  go_wp2_with (go_at_call 56; refine stop ?_)
  unfold Stop
  have hset : Beside p V3 (V3.setCell ⟨p, 2, none⟩ (.int .i64 y3)) := (Beside.refl _ _).setCell _ _
  have RD := hid (RC3.out.set (by omega) OP3.out (by decide) hset)
  have OD := hid (OP3.out.set 2 (.int .i64 y3))
  have OQD := hid (OQC3.out.beside hset (Nat.ne_of_lt hqp))
  have BD := hid (BC3.out.set3 hset (by omega))
  clear hset RC3 OP3 OQC3 BC3 kj fj
  generalize V3.setCell ⟨p, 2, none⟩ (.int .i64 y3) = U3 at *
  refine (linked_calls _ _).mono ?_
  rw [show decide ((4 : Int) = 3 ∨ (4 : Int) = 4 ∨ (4 : Int) = 5) = true by decide]
  rintro e w' ⟨rfl, rfl⟩
  clear k0
  have k0 := OD.out.cell (i := 0) (v := .int .i64 4) rfl
  go_wp2_with (go_at_call 66; refine stop ?_)
  unfold Stop
  refine (rbelow2_calls g h S x s3 10 9 (by decide) (by omega) (by omega) _ RD.out).mono ?_
  rintro e V4 ⟨v2, rfl, ev2, r2, hb2⟩
  have ev2' : v2 = .int .i64 (runP (numP 1 0 9) 0 x s3).1 := ev2
  subst ev2'
  clear ev2
  obtain ⟨y4, hy4⟩ : ∃ y, (runP (numP 1 0 9) 0 x s3).1 = y := ⟨_, rfl⟩
  rw [hy4]
  have HY4 := hid hy4
  clear hy4
  obtain ⟨s4, hs4⟩ : ∃ s, (runP (numP 1 0 9) 0 x s3).2 = s := ⟨_, rfl⟩
  rw [hs4] at r2
  have HS4 := hid hs4
  clear hs4
  have hszU := (RD.out.size).2
  have RC4 := hid r2
  have OP4 := hid (Ob.beside2 OD.out hb2 (by omega) (by omega))
  have OQC4 := hid (Ob.beside2 OQD.out hb2 (by omega) (by omega))
  have BC4 := hid (BD.out.trans hb2)
  clear r2 hb2 RD OD OQD BD hszU k0
  have kj := OP4.out.cell (i := 5) (v := .int .i64 0) rfl
  have fj := OP4.out.frozen 5
  have k0 := OP4.out.cell (i := 0) (v := .int .i64 4) rfl
  go_wp2_with (go_at_call 68; refine stop ?_)
  unfold Stop
  have hset : Beside p V4 (V4.setCell ⟨p, 5, none⟩ (.int .i64 y4)) := (Beside.refl _ _).setCell _ _
  have RD := hid (RC4.out.set (by omega) OP4.out (by decide) hset)
  have OD := hid (OP4.out.set 5 (.int .i64 y4))
  have OQD := hid (OQC4.out.beside hset (Nat.ne_of_lt hqp))
  have BD := hid (BC4.out.set3 hset (by omega))
  clear hset RC4 OP4 OQC4 BC4 kj fj
  generalize V4.setCell ⟨p, 5, none⟩ (.int .i64 y4) = U4 at *
  refine (rages_calls g h S x s4 _ RD.out).mono ?_
  rintro e V5 ⟨xa, xn, xc, xl, rfl, hxr, hxe, r2, hb2⟩
  have HXR := hid hxr
  have HXE := hid hxe
  have hpU := OD.out.lt
  have hqU := OQD.out.lt
  clear hxr hxe
  obtain ⟨s5, hs5⟩ : ∃ s, (runP (agesP) [] x s4).2 = s := ⟨_, rfl⟩
  rw [hs5] at r2
  have HS5 := hid hs5
  clear hs5
  have hszU := (RD.out.size).2
  have RC5 := hid r2
  have OP5 := hid (Ob.beside2 OD.out hb2 (by omega) (by omega))
  have OQC5 := hid (Ob.beside2 OQD.out hb2 (by omega) (by omega))
  have BC5 := hid (BD.out.trans hb2)
  clear r2 hb2 RD OD OQD BD hszU k0
  have kj := OP5.out.cell (i := 9) (v := .slice none 0 0) rfl
  have fj := OP5.out.frozen 9
  have k0 := OP5.out.cell (i := 0) (v := .int .i64 4) rfl
  dsimp only
  iterate 15 go_step
  have hset : Beside p V5 (V5.setCell ⟨p, 9, none⟩ (.slice xa xn xc)) := (Beside.refl _ _).setCell _ _
  have RD := hid (RC5.out.set (by omega) OP5.out (by decide) hset)
  have OD := hid (OP5.out.set 9 (.slice xa xn xc))
  have OQD := hid (OQC5.out.beside hset (Nat.ne_of_lt hqp))
  have BD := hid (BC5.out.set3 hset (by omega))
  have HXU := hid (ownsRow_setCell_below HXR.out.1 (a := ⟨p, 9, none⟩) hpU (.slice xa xn xc))
  clear hset RC5 OP5 OQC5 BC5 kj fj
  generalize V5.setCell ⟨p, 9, none⟩ (.slice xa xn xc) = U5 at *
  have ODc : Hid (Ob U5 p 26 [.int .i64 4, .int .i64 y2, .int .i64 y3, .int .i64 0, .int .i64 0, .int .i64 y4, .bool false, .int .i64 0, .int .i64 0, .slice xa xn xc, .int .i64 0, .int .i64 0, .int .i64 0, .slice none 0 0]) := OD
  clear OD
  refine wpList_load_ob rfl _ _ rfl p _ ODc.out rfl Tryz.underlying26 rfl frame_info ?_
  refine wpList_store_ob rfl _ _ _ rfl q zeros [.int .i64 4, .int .i64 y2, .int .i64 y3, .int .i64 0, .int .i64 0, .int .i64 y4, .bool false, .int .i64 0, .int .i64 0, .slice xa xn xc, .int .i64 0, .int .i64 0, .int .i64 0, .slice none 0 0] OQD.out rfl rfl rfl frame_info (by intro v hv; simp at hv; rcases hv with rfl | rfl | rfl | rfl | rfl | rfl | rfl | rfl | rfl | rfl | rfl | rfl | rfl | rfl <;> rfl) ?_
  intro Z hbZ hsZ obZ
  have OZ := hid obZ
  have BZ := hid hbZ
  clear obZ hbZ
  go_wp2
  (try simp only [Exit.inBlock, Exit.then])
  refine bodyPost_ret (results_cell_ob Tryz.results39 _ _ q _ rfl OZ.out Tryz.underlying26 rfl frame_info) rfl ?_
  have hE : runP frameX (bare 0 0 0) x (.ok 0) = runP (ret { bare 4 y2 y3 with link := y4, ages := (runP agesP [] x s4).1 }) (bare 0 0 0) x s5 := by
    unfold frameX
    rw [runP_bind kindP 0, HK.out, HS1.out, runP_bind (numP 1 0 5) 0, HY2.out, HS2.out, runP_bind (numP 1 0 11) 0, HY3.out, HS3.out]
    unfold tailP
    rw [if_neg (by decide), if_neg (by decide), if_neg (by decide), if_pos rfl]
    rw [runP_bind (numP 1 0 9) 0, HY4.out, HS4.out, runP_bind (agesP) [], HS5.out]
  refine ⟨[.int .i64 4, .int .i64 y2, .int .i64 y3, .int .i64 0, .int .i64 0, .int .i64 y4, .bool false, .int .i64 0, .int .i64 0, .slice xa xn xc, .int .i64 0, .int .i64 0, .int .i64 0, .slice none 0 0], rfl, rfl, (by intro v hv; simp at hv; rcases hv with rfl | rfl | rfl | rfl | rfl | rfl | rfl | rfl | rfl | rfl | rfl | rfl | rfl | rfl <;> rfl), ?_, ?_, BD.out.set3 BZ.out (by omega)⟩
  · intro f pos hf W' hW'
    rw [hE] at hf
    cases hsn : s5 with
    | error z => rw [hsn] at hf; cases hf
    | ok pp =>
      rw [hsn] at hf
      injection hf with hf _
      subst hf
      have q2 := runP_wf (lo := 0) (hi := 5) (k := 1) (x := x) (st := s1) (by omega) (by decide)
      rw [HY2.out] at q2
      have q3 := runP_wf (lo := 0) (hi := 11) (k := 1) (x := x) (st := s2) (by omega) (by decide)
      rw [HY3.out] at q3
      have q4 := runP_wf (lo := 0) (hi := 9) (k := 1) (x := x) (st := s3) (by omega) (by decide)
      rw [HY4.out] at q4
      have hag : xl = (runP agesP [] x s4).1 := HXE.out pp (HS5.out.trans hsn)
      have how := owns_keep (owns_beside HXU.out BZ.out hqU) (fun kk h1 h2 => hW' kk (by omega) h2)
      have hrow := RowC.own how
      exact ⟨xa, xn, xc, none, 0, 0, rfl, by rw [← hag]; exact ⟨hrow, HXR.out.2⟩, Row8.nil, by unfold Wf Is64 bare; dsimp only; omega⟩
  · rw [hE]
    have hst : (runP (ret { bare 4 y2 y3 with link := y4, ages := (runP agesP [] x s4).1 }) (bare 0 0 0) x s5).2 = s5 := by cases s5 <;> rfl
    rw [hst]
    exact RD.out.set (by omega) OQD.out (by decide) BZ.out
theorem frame_5 (g h : Nat) (S : Sn) (x : List UInt8) (hx : 1 ≤ x.length) (w : World) (r : FR w g h S x (.ok 0)) (hk : (runP kindP 0 x (.ok 0)).1 = 5) :
    Calls Tryz.prog 39 #[.pointer (some ⟨h, 0, none⟩)] w fun e w' => RetFrame w g h S x e w' := by
  have HX := hid hx
  have HR := hid r
  have hsz := r.size
  have HK := hid hk
  clear hx r hk
  obtain ⟨hgh, hhs⟩ := hsz
  go_enter Tryz.func39, Tryz.ntmps39
  iterate 3 go_step
  refine wpList_alloc_any rfl _ rfl zeros frame_zero ?_
  intro q W0 n0
  have hqw : w.heap.size ≤ q := Nat.le_of_eq n0.is_.symm
  have hhq : h < q := by omega
  have HO0 := hid n0.ob
  have R0 := hid (HR.out.below n0.below (Nat.le_refl _))
  have B0 : Hid (Beside2 g h w W0) := Beside2.of_below n0.below
  have hS0 : q < W0.heap.size := n0.ob.lt
  clear n0 HR
  go_wp2_with (go_at_call 65; refine stop ?_)
  unfold Stop
  refine (rkind_calls g h S x HX.out W0 R0.out).mono ?_
  rintro e w1 ⟨v1, rfl, ev1, r1, hb1⟩
  have ev1' : v1 = .int .i64 5 := by rw [ev1, HK.out]
  subst ev1'
  obtain ⟨s1, hs1⟩ : ∃ s, (runP kindP 0 x (.ok 0)).2 = s := ⟨_, rfl⟩
  rw [hs1] at r1
  have HS1 := hid hs1
  have OQ1 := hid (Ob.beside2 HO0.out hb1 (by omega) (by omega))
  have R1 := hid r1
  have B1 := hid (B0.out.trans hb1)
  have hz1 := hb1.size
  clear ev1 r1 hb1 hs1 HO0 R0 B0
  dsimp only
  iterate 4 go_step
  refine wpList_alloc_any rfl _ rfl zeros frame_zero ?_
  intro p V n1
  refine wpList_store_ob rfl _ _ _ rfl p zeros (.int .i64 5 :: zeros.tail) n1.ob rfl rfl rfl frame_info (by decide) ?_
  intro V1 hbV hsV obV
  have hpw : w1.heap.size = p := n1.is_.symm
  have hqp : q < p := by omega
  have hbb : Below p w1 V1 := by
    have h1 := n1.below
    rw [hpw] at h1
    exact h1.trans (hbV.below (Nat.le_refl _) (by rw [n1.size]; omega))
  have RC1 := hid (R1.out.below hbb (by omega))
  have OQC1 := hid (OQ1.out.below hbb hqp)
  have OP1 : Hid (Ob V1 p 26 (.int .i64 5 :: zeros.tail)) := obV
  have BC1 := hid (B1.out.trans (Beside2.of_below (by rw [hpw]; exact hbb)))
  clear n1 hbV hsV obV hbb R1 OQ1 B1 hpw hz1 hS0
  go_wp2_with (go_at_call 66; refine stop ?_)
  unfold Stop
  have RD := RC1
  have OD := OP1
  have OQD := OQC1
  have BD := BC1
  clear RC1 OP1 OQC1 BC1
  refine (rbelow2_calls g h S x s1 6 5 (by decide) (by omega) (by omega) _ RD.out).mono ?_
  rintro e V2 ⟨v2, rfl, ev2, r2, hb2⟩
  have ev2' : v2 = .int .i64 (runP (numP 1 0 5) 0 x s1).1 := ev2
  subst ev2'
  clear ev2
  obtain ⟨y2, hy2⟩ : ∃ y, (runP (numP 1 0 5) 0 x s1).1 = y := ⟨_, rfl⟩
  rw [hy2]
  have HY2 := hid hy2
  clear hy2
  obtain ⟨s2, hs2⟩ : ∃ s, (runP (numP 1 0 5) 0 x s1).2 = s := ⟨_, rfl⟩
  rw [hs2] at r2
  have HS2 := hid hs2
  clear hs2
  have hszU := (RD.out.size).2
  have RC2 := hid r2
  have OP2 := hid (Ob.beside2 OD.out hb2 (by omega) (by omega))
  have OQC2 := hid (Ob.beside2 OQD.out hb2 (by omega) (by omega))
  have BC2 := hid (BD.out.trans hb2)
  clear r2 hb2 RD OD OQD BD hszU
  have kj := OP2.out.cell (i := 1) (v := .int .i64 0) rfl
  have fj := OP2.out.frozen 1
  go_wp2_with (go_at_call 66; refine stop ?_)
  unfold Stop
  have hset : Beside p V2 (V2.setCell ⟨p, 1, none⟩ (.int .i64 y2)) := (Beside.refl _ _).setCell _ _
  have RD := hid (RC2.out.set (by omega) OP2.out (by decide) hset)
  have OD := hid (OP2.out.set 1 (.int .i64 y2))
  have OQD := hid (OQC2.out.beside hset (Nat.ne_of_lt hqp))
  have BD := hid (BC2.out.set3 hset (by omega))
  clear hset RC2 OP2 OQC2 BC2 kj fj
  generalize V2.setCell ⟨p, 1, none⟩ (.int .i64 y2) = U2 at *
  refine (rbelow2_calls g h S x s2 12 11 (by decide) (by omega) (by omega) _ RD.out).mono ?_
  rintro e V3 ⟨v2, rfl, ev2, r2, hb2⟩
  have ev2' : v2 = .int .i64 (runP (numP 1 0 11) 0 x s2).1 := ev2
  subst ev2'
  clear ev2
  obtain ⟨y3, hy3⟩ : ∃ y, (runP (numP 1 0 11) 0 x s2).1 = y := ⟨_, rfl⟩
  rw [hy3]
  have HY3 := hid hy3
  clear hy3
  obtain ⟨s3, hs3⟩ : ∃ s, (runP (numP 1 0 11) 0 x s2).2 = s := ⟨_, rfl⟩
  rw [hs3] at r2
  have HS3 := hid hs3
  clear hs3
  have hszU := (RD.out.size).2
  have RC3 := hid r2
  have OP3 := hid (Ob.beside2 OD.out hb2 (by omega) (by omega))
  have OQC3 := hid (Ob.beside2 OQD.out hb2 (by omega) (by omega))
  have BC3 := hid (BD.out.trans hb2)
  clear r2 hb2 RD OD OQD BD hszU
  have kj := OP3.out.cell (i := 2) (v := .int .i64 0) rfl
  have fj := OP3.out.frozen 2
  have k0 := OP3.out.cell (i := 0) (v := .int .i64 5) rfl
  go_wp2_with (go_at_call 56; refine stop ?_)
  unfold Stop
  have hset : Beside p V3 (V3.setCell ⟨p, 2, none⟩ (.int .i64 y3)) := (Beside.refl _ _).setCell _ _
  have RD := hid (RC3.out.set (by omega) OP3.out (by decide) hset)
  have OD := hid (OP3.out.set 2 (.int .i64 y3))
  have OQD := hid (OQC3.out.beside hset (Nat.ne_of_lt hqp))
  have BD := hid (BC3.out.set3 hset (by omega))
  clear hset RC3 OP3 OQC3 BC3 kj fj
  generalize V3.setCell ⟨p, 2, none⟩ (.int .i64 y3) = U3 at *
  refine (linked_calls _ _).mono ?_
  rw [show decide ((5 : Int) = 3 ∨ (5 : Int) = 4 ∨ (5 : Int) = 5) = true by decide]
  rintro e w' ⟨rfl, rfl⟩
  clear k0
  have k0 := OD.out.cell (i := 0) (v := .int .i64 5) rfl
  go_wp2_with (go_at_call 66; refine stop ?_)
  unfold Stop
  refine (rbelow2_calls g h S x s3 10 9 (by decide) (by omega) (by omega) _ RD.out).mono ?_
  rintro e V4 ⟨v2, rfl, ev2, r2, hb2⟩
  have ev2' : v2 = .int .i64 (runP (numP 1 0 9) 0 x s3).1 := ev2
  subst ev2'
  clear ev2
  obtain ⟨y4, hy4⟩ : ∃ y, (runP (numP 1 0 9) 0 x s3).1 = y := ⟨_, rfl⟩
  rw [hy4]
  have HY4 := hid hy4
  clear hy4
  obtain ⟨s4, hs4⟩ : ∃ s, (runP (numP 1 0 9) 0 x s3).2 = s := ⟨_, rfl⟩
  rw [hs4] at r2
  have HS4 := hid hs4
  clear hs4
  have hszU := (RD.out.size).2
  have RC4 := hid r2
  have OP4 := hid (Ob.beside2 OD.out hb2 (by omega) (by omega))
  have OQC4 := hid (Ob.beside2 OQD.out hb2 (by omega) (by omega))
  have BC4 := hid (BD.out.trans hb2)
  clear r2 hb2 RD OD OQD BD hszU k0
  have kj := OP4.out.cell (i := 5) (v := .int .i64 0) rfl
  have fj := OP4.out.frozen 5
  have k0 := OP4.out.cell (i := 0) (v := .int .i64 5) rfl
  go_wp2_with (go_at_call 66; refine stop ?_)
  unfold Stop
  have hset : Beside p V4 (V4.setCell ⟨p, 5, none⟩ (.int .i64 y4)) := (Beside.refl _ _).setCell _ _
  have RD := hid (RC4.out.set (by omega) OP4.out (by decide) hset)
  have OD := hid (OP4.out.set 5 (.int .i64 y4))
  have OQD := hid (OQC4.out.beside hset (Nat.ne_of_lt hqp))
  have BD := hid (BC4.out.set3 hset (by omega))
  clear hset RC4 OP4 OQC4 BC4 kj fj
  generalize V4.setCell ⟨p, 5, none⟩ (.int .i64 y4) = U4 at *
  refine (rbelow2_calls g h S x s4 6 5 (by decide) (by omega) (by omega) _ RD.out).mono ?_
  rintro e V5 ⟨v2, rfl, ev2, r2, hb2⟩
  have ev2' : v2 = .int .i64 (runP (numP 1 0 5) 0 x s4).1 := ev2
  subst ev2'
  clear ev2
  obtain ⟨y5, hy5⟩ : ∃ y, (runP (numP 1 0 5) 0 x s4).1 = y := ⟨_, rfl⟩
  rw [hy5]
  have HY5 := hid hy5
  clear hy5
  obtain ⟨s5, hs5⟩ : ∃ s, (runP (numP 1 0 5) 0 x s4).2 = s := ⟨_, rfl⟩
  rw [hs5] at r2
  have HS5 := hid hs5
  clear hs5
  have hszU := (RD.out.size).2
  have RC5 := hid r2
  have OP5 := hid (Ob.beside2 OD.out hb2 (by omega) (by omega))
  have OQC5 := hid (Ob.beside2 OQD.out hb2 (by omega) (by omega))
  have BC5 := hid (BD.out.trans hb2)
  clear r2 hb2 RD OD OQD BD hszU k0
  have kj := OP5.out.cell (i := 10) (v := .int .i64 0) rfl
  have fj := OP5.out.frozen 10
  have k0 := OP5.out.cell (i := 0) (v := .int .i64 5) rfl
  go_wp2_with (go_at_call 66; refine stop ?_)
  unfold Stop
  have hset : Beside p V5 (V5.setCell ⟨p, 10, none⟩ (.int .i64 y5)) := (Beside.refl _ _).setCell _ _
  have RD := hid (RC5.out.set (by omega) OP5.out (by decide) hset)
  have OD := hid (OP5.out.set 10 (.int .i64 y5))
  have OQD := hid (OQC5.out.beside hset (Nat.ne_of_lt hqp))
  have BD := hid (BC5.out.set3 hset (by omega))
  clear hset RC5 OP5 OQC5 BC5 kj fj
  generalize V5.setCell ⟨p, 10, none⟩ (.int .i64 y5) = U5 at *
  refine (rbelow2_calls g h S x s5 6 5 (by decide) (by omega) (by omega) _ RD.out).mono ?_
  rintro e V6 ⟨v2, rfl, ev2, r2, hb2⟩
  have ev2' : v2 = .int .i64 (runP (numP 1 0 5) 0 x s5).1 := ev2
  subst ev2'
  clear ev2
  obtain ⟨y6, hy6⟩ : ∃ y, (runP (numP 1 0 5) 0 x s5).1 = y := ⟨_, rfl⟩
  rw [hy6]
  have HY6 := hid hy6
  clear hy6
  obtain ⟨s6, hs6⟩ : ∃ s, (runP (numP 1 0 5) 0 x s5).2 = s := ⟨_, rfl⟩
  rw [hs6] at r2
  have HS6 := hid hs6
  clear hs6
  have hszU := (RD.out.size).2
  have RC6 := hid r2
  have OP6 := hid (Ob.beside2 OD.out hb2 (by omega) (by omega))
  have OQC6 := hid (Ob.beside2 OQD.out hb2 (by omega) (by omega))
  have BC6 := hid (BD.out.trans hb2)
  clear r2 hb2 RD OD OQD BD hszU k0
  have kj := OP6.out.cell (i := 11) (v := .int .i64 0) rfl
  have fj := OP6.out.frozen 11
  have k0 := OP6.out.cell (i := 0) (v := .int .i64 5) rfl
  go_wp2_with (go_at_call 67; refine stop ?_)
  unfold Stop
  have hset : Beside p V6 (V6.setCell ⟨p, 11, none⟩ (.int .i64 y6)) := (Beside.refl _ _).setCell _ _
  have RD := hid (RC6.out.set (by omega) OP6.out (by decide) hset)
  have OD := hid (OP6.out.set 11 (.int .i64 y6))
  have OQD := hid (OQC6.out.beside hset (Nat.ne_of_lt hqp))
  have BD := hid (BC6.out.set3 hset (by omega))
  clear hset RC6 OP6 OQC6 BC6 kj fj
  generalize V6.setCell ⟨p, 11, none⟩ (.int .i64 y6) = U6 at *
  refine (rplain_calls g h S x s6 4 (by omega) (by omega) 1 2147483648 _ RD.out).mono ?_
  rintro e V7 ⟨v2, rfl, ev2, r2, hb2⟩
  have ev2' : v2 = .int .i64 (runP (numP 4 1 2147483648) 0 x s6).1 := ev2
  subst ev2'
  clear ev2
  obtain ⟨y7, hy7⟩ : ∃ y, (runP (numP 4 1 2147483648) 0 x s6).1 = y := ⟨_, rfl⟩
  rw [hy7]
  have HY7 := hid hy7
  clear hy7
  obtain ⟨s7, hs7⟩ : ∃ s, (runP (numP 4 1 2147483648) 0 x s6).2 = s := ⟨_, rfl⟩
  rw [hs7] at r2
  have HS7 := hid hs7
  clear hs7
  have hszU := (RD.out.size).2
  have RC7 := hid r2
  have OP7 := hid (Ob.beside2 OD.out hb2 (by omega) (by omega))
  have OQC7 := hid (Ob.beside2 OQD.out hb2 (by omega) (by omega))
  have BC7 := hid (BD.out.trans hb2)
  clear r2 hb2 RD OD OQD BD hszU k0
  have kj := OP7.out.cell (i := 12) (v := .int .i64 0) rfl
  have fj := OP7.out.frozen 12
  have k0 := OP7.out.cell (i := 0) (v := .int .i64 5) rfl
  go_wp2_with (go_at_call 70; refine stop ?_)
  unfold Stop
  have hset : Beside p V7 (V7.setCell ⟨p, 12, none⟩ (.int .i64 y7)) := (Beside.refl _ _).setCell _ _
  have RD := hid (RC7.out.set (by omega) OP7.out (by decide) hset)
  have OD := hid (OP7.out.set 12 (.int .i64 y7))
  have OQD := hid (OQC7.out.beside hset (Nat.ne_of_lt hqp))
  have BD := hid (BC7.out.set3 hset (by omega))
  clear hset RC7 OP7 OQC7 BC7 kj fj
  generalize V7.setCell ⟨p, 12, none⟩ (.int .i64 y7) = U7 at *
  refine (rbody_calls g h S x s7 _ RD.out).mono ?_
  rintro e V8 ⟨xa, xn, xc, xl, rfl, hxr, hxe, r2, hb2⟩
  have HXR := hid hxr
  have HXE := hid hxe
  have hpU := OD.out.lt
  have hqU := OQD.out.lt
  clear hxr hxe
  obtain ⟨s8, hs8⟩ : ∃ s, (runP (bodyP) [] x s7).2 = s := ⟨_, rfl⟩
  rw [hs8] at r2
  have HS8 := hid hs8
  clear hs8
  have hszU := (RD.out.size).2
  have RC8 := hid r2
  have OP8 := hid (Ob.beside2 OD.out hb2 (by omega) (by omega))
  have OQC8 := hid (Ob.beside2 OQD.out hb2 (by omega) (by omega))
  have BC8 := hid (BD.out.trans hb2)
  clear r2 hb2 RD OD OQD BD hszU k0
  have kj := OP8.out.cell (i := 13) (v := .slice none 0 0) rfl
  have fj := OP8.out.frozen 13
  have k0 := OP8.out.cell (i := 0) (v := .int .i64 5) rfl
  dsimp only
  iterate 15 go_step
  have hset : Beside p V8 (V8.setCell ⟨p, 13, none⟩ (.slice xa xn xc)) := (Beside.refl _ _).setCell _ _
  have RD := hid (RC8.out.set (by omega) OP8.out (by decide) hset)
  have OD := hid (OP8.out.set 13 (.slice xa xn xc))
  have OQD := hid (OQC8.out.beside hset (Nat.ne_of_lt hqp))
  have BD := hid (BC8.out.set3 hset (by omega))
  have HXU := hid (ownsRow_setCell_below HXR.out (a := ⟨p, 13, none⟩) hpU (.slice xa xn xc))
  clear hset RC8 OP8 OQC8 BC8 kj fj
  generalize V8.setCell ⟨p, 13, none⟩ (.slice xa xn xc) = U8 at *
  have ODc : Hid (Ob U8 p 26 [.int .i64 5, .int .i64 y2, .int .i64 y3, .int .i64 0, .int .i64 0, .int .i64 y4, .bool false, .int .i64 0, .int .i64 0, .slice none 0 0, .int .i64 y5, .int .i64 y6, .int .i64 y7, .slice xa xn xc]) := OD
  clear OD
  refine wpList_load_ob rfl _ _ rfl p _ ODc.out rfl Tryz.underlying26 rfl frame_info ?_
  refine wpList_store_ob rfl _ _ _ rfl q zeros [.int .i64 5, .int .i64 y2, .int .i64 y3, .int .i64 0, .int .i64 0, .int .i64 y4, .bool false, .int .i64 0, .int .i64 0, .slice none 0 0, .int .i64 y5, .int .i64 y6, .int .i64 y7, .slice xa xn xc] OQD.out rfl rfl rfl frame_info (by intro v hv; simp at hv; rcases hv with rfl | rfl | rfl | rfl | rfl | rfl | rfl | rfl | rfl | rfl | rfl | rfl | rfl | rfl <;> rfl) ?_
  intro Z hbZ hsZ obZ
  have OZ := hid obZ
  have BZ := hid hbZ
  clear obZ hbZ
  go_wp2
  (try simp only [Exit.inBlock, Exit.then])
  refine bodyPost_ret (results_cell_ob Tryz.results39 _ _ q _ rfl OZ.out Tryz.underlying26 rfl frame_info) rfl ?_
  have hE : runP frameX (bare 0 0 0) x (.ok 0) = runP (ret { bare 5 y2 y3 with link := y4, frm := y5, to := y6, seq := y7, body := (runP bodyP [] x s7).1 }) (bare 0 0 0) x s8 := by
    unfold frameX
    rw [runP_bind kindP 0, HK.out, HS1.out, runP_bind (numP 1 0 5) 0, HY2.out, HS2.out, runP_bind (numP 1 0 11) 0, HY3.out, HS3.out]
    unfold tailP
    rw [if_neg (by decide), if_neg (by decide), if_neg (by decide), if_neg (by decide)]
    rw [runP_bind (numP 1 0 9) 0, HY4.out, HS4.out, runP_bind (numP 1 0 5) 0, HY5.out, HS5.out, runP_bind (numP 1 0 5) 0, HY6.out, HS6.out, runP_bind (numP 4 1 2147483648) 0, HY7.out, HS7.out, runP_bind (bodyP) [], HS8.out]
  refine ⟨[.int .i64 5, .int .i64 y2, .int .i64 y3, .int .i64 0, .int .i64 0, .int .i64 y4, .bool false, .int .i64 0, .int .i64 0, .slice none 0 0, .int .i64 y5, .int .i64 y6, .int .i64 y7, .slice xa xn xc], rfl, rfl, (by intro v hv; simp at hv; rcases hv with rfl | rfl | rfl | rfl | rfl | rfl | rfl | rfl | rfl | rfl | rfl | rfl | rfl | rfl <;> rfl), ?_, ?_, BD.out.set3 BZ.out (by omega)⟩
  · intro f pos hf W' hW'
    rw [hE] at hf
    cases hsn : s8 with
    | error z => rw [hsn] at hf; cases hf
    | ok pp =>
      rw [hsn] at hf
      injection hf with hf _
      subst hf
      have q2 := runP_wf (lo := 0) (hi := 5) (k := 1) (x := x) (st := s1) (by omega) (by decide)
      rw [HY2.out] at q2
      have q3 := runP_wf (lo := 0) (hi := 11) (k := 1) (x := x) (st := s2) (by omega) (by decide)
      rw [HY3.out] at q3
      have q4 := runP_wf (lo := 0) (hi := 9) (k := 1) (x := x) (st := s3) (by omega) (by decide)
      rw [HY4.out] at q4
      have q5 := runP_wf (lo := 0) (hi := 5) (k := 1) (x := x) (st := s4) (by omega) (by decide)
      rw [HY5.out] at q5
      have q6 := runP_wf (lo := 0) (hi := 5) (k := 1) (x := x) (st := s5) (by omega) (by decide)
      rw [HY6.out] at q6
      have q7 := runP_wf (lo := 1) (hi := 2147483648) (k := 4) (x := x) (st := s6) (by omega) (by decide)
      rw [HY7.out] at q7
      have hag : xl = (runP bodyP [] x s7).1 := HXE.out pp (HS8.out.trans hsn)
      have how := owns_keep (owns_beside HXU.out BZ.out hqU) (fun kk h1 h2 => hW' kk (by omega) h2)
      have hrow := Row8.own how
      exact ⟨none, 0, 0, xa, xn, xc, rfl, RowI.nil, by rw [← hag]; exact hrow, by unfold Wf Is64 bare; dsimp only; omega⟩
  · rw [hE]
    have hst : (runP (ret { bare 5 y2 y3 with link := y4, frm := y5, to := y6, seq := y7, body := (runP bodyP [] x s7).1 }) (bare 0 0 0) x s8).2 = s8 := by cases s8 <;> rfl
    rw [hst]
    exact RD.out.set (by omega) OQD.out (by decide) BZ.out
theorem frame_no (g h : Nat) (S : Sn) (x : List UInt8) (hx : 1 ≤ x.length) (w : World) (r : FR w g h S x (.ok 0)) (hk : (runP kindP 0 x (.ok 0)).1 = 0) :
    Calls Tryz.prog 39 #[.pointer (some ⟨h, 0, none⟩)] w fun e w' => RetFrame w g h S x e w' := by
  have HX := hid hx
  have HR := hid r
  have hsz := r.size
  have HK := hid hk
  clear hx r hk
  obtain ⟨hgh, hhs⟩ := hsz
  go_enter Tryz.func39, Tryz.ntmps39
  iterate 3 go_step
  refine wpList_alloc_any rfl _ rfl zeros frame_zero ?_
  intro q W0 n0
  have hqw : w.heap.size ≤ q := Nat.le_of_eq n0.is_.symm
  have hhq : h < q := by omega
  have HO0 := hid n0.ob
  have R0 := hid (HR.out.below n0.below (Nat.le_refl _))
  have B0 : Hid (Beside2 g h w W0) := Beside2.of_below n0.below
  have hS0 : q < W0.heap.size := n0.ob.lt
  clear n0 HR
  go_wp2_with (go_at_call 65; refine stop ?_)
  unfold Stop
  refine (rkind_calls g h S x HX.out W0 R0.out).mono ?_
  rintro e w1 ⟨v1, rfl, ev1, r1, hb1⟩
  have ev1' : v1 = .int .i64 0 := by rw [ev1, HK.out]
  subst ev1'
  obtain ⟨s1, hs1⟩ : ∃ s, (runP kindP 0 x (.ok 0)).2 = s := ⟨_, rfl⟩
  rw [hs1] at r1
  have HS1 := hid hs1
  have OQ1 := hid (Ob.beside2 HO0.out hb1 (by omega) (by omega))
  have R1 := hid r1
  have B1 := hid (B0.out.trans hb1)
  have hz1 := hb1.size
  clear ev1 r1 hb1 hs1 HO0 R0 B0
  dsimp only
  iterate 4 go_step
  refine wpList_alloc_any rfl _ rfl zeros frame_zero ?_
  intro p V n1
  refine wpList_store_ob rfl _ _ _ rfl p zeros (.int .i64 0 :: zeros.tail) n1.ob rfl rfl rfl frame_info (by decide) ?_
  intro V1 hbV hsV obV
  have hpw : w1.heap.size = p := n1.is_.symm
  have hqp : q < p := by omega
  have hbb : Below p w1 V1 := by
    have h1 := n1.below
    rw [hpw] at h1
    exact h1.trans (hbV.below (Nat.le_refl _) (by rw [n1.size]; omega))
  have RC1 := hid (R1.out.below hbb (by omega))
  have OQC1 := hid (OQ1.out.below hbb hqp)
  have OP1 : Hid (Ob V1 p 26 (.int .i64 0 :: zeros.tail)) := obV
  have BC1 := hid (B1.out.trans (Beside2.of_below (by rw [hpw]; exact hbb)))
  clear n1 hbV hsV obV hbb R1 OQ1 B1 hpw hz1 hS0
  go_wp2_with (go_at_call 66; refine stop ?_)
  unfold Stop
  have RD := RC1
  have OD := OP1
  have OQD := OQC1
  have BD := BC1
  clear RC1 OP1 OQC1 BC1
  refine (rbelow2_calls g h S x s1 6 5 (by decide) (by omega) (by omega) _ RD.out).mono ?_
  rintro e V2 ⟨v2, rfl, ev2, r2, hb2⟩
  have ev2' : v2 = .int .i64 (runP (numP 1 0 5) 0 x s1).1 := ev2
  subst ev2'
  clear ev2
  obtain ⟨y2, hy2⟩ : ∃ y, (runP (numP 1 0 5) 0 x s1).1 = y := ⟨_, rfl⟩
  rw [hy2]
  have HY2 := hid hy2
  clear hy2
  obtain ⟨s2, hs2⟩ : ∃ s, (runP (numP 1 0 5) 0 x s1).2 = s := ⟨_, rfl⟩
  rw [hs2] at r2
  have HS2 := hid hs2
  clear hs2
  have hszU := (RD.out.size).2
  have RC2 := hid r2
  have OP2 := hid (Ob.beside2 OD.out hb2 (by omega) (by omega))
  have OQC2 := hid (Ob.beside2 OQD.out hb2 (by omega) (by omega))
  have BC2 := hid (BD.out.trans hb2)
  clear r2 hb2 RD OD OQD BD hszU
  have kj := OP2.out.cell (i := 1) (v := .int .i64 0) rfl
  have fj := OP2.out.frozen 1
  go_wp2_with (go_at_call 66; refine stop ?_)
  unfold Stop
  have hset : Beside p V2 (V2.setCell ⟨p, 1, none⟩ (.int .i64 y2)) := (Beside.refl _ _).setCell _ _
  have RD := hid (RC2.out.set (by omega) OP2.out (by decide) hset)
  have OD := hid (OP2.out.set 1 (.int .i64 y2))
  have OQD := hid (OQC2.out.beside hset (Nat.ne_of_lt hqp))
  have BD := hid (BC2.out.set3 hset (by omega))
  clear hset RC2 OP2 OQC2 BC2 kj fj
  generalize V2.setCell ⟨p, 1, none⟩ (.int .i64 y2) = U2 at *
  refine (rbelow2_calls g h S x s2 12 11 (by decide) (by omega) (by omega) _ RD.out).mono ?_
  rintro e V3 ⟨v2, rfl, ev2, r2, hb2⟩
  have ev2' : v2 = .int .i64 (runP (numP 1 0 11) 0 x s2).1 := ev2
  subst ev2'
  clear ev2
  obtain ⟨y3, hy3⟩ : ∃ y, (runP (numP 1 0 11) 0 x s2).1 = y := ⟨_, rfl⟩
  rw [hy3]
  have HY3 := hid hy3
  clear hy3
  obtain ⟨s3, hs3⟩ : ∃ s, (runP (numP 1 0 11) 0 x s2).2 = s := ⟨_, rfl⟩
  rw [hs3] at r2
  have HS3 := hid hs3
  clear hs3
  have hszU := (RD.out.size).2
  have RC3 := hid r2
  have OP3 := hid (Ob.beside2 OD.out hb2 (by omega) (by omega))
  have OQC3 := hid (Ob.beside2 OQD.out hb2 (by omega) (by omega))
  have BC3 := hid (BD.out.trans hb2)
  clear r2 hb2 RD OD OQD BD hszU
  have kj := OP3.out.cell (i := 2) (v := .int .i64 0) rfl
  have fj := OP3.out.frozen 2
  have k0 := OP3.out.cell (i := 0) (v := .int .i64 0) rfl
  go_wp2_with (go_at_call 56; refine stop ?_)
  unfold Stop
  have hset : Beside p V3 (V3.setCell ⟨p, 2, none⟩ (.int .i64 y3)) := (Beside.refl _ _).setCell _ _
  have RD := hid (RC3.out.set (by omega) OP3.out (by decide) hset)
  have OD := hid (OP3.out.set 2 (.int .i64 y3))
  have OQD := hid (OQC3.out.beside hset (Nat.ne_of_lt hqp))
  have BD := hid (BC3.out.set3 hset (by omega))
  clear hset RC3 OP3 OQC3 BC3 kj fj
  generalize V3.setCell ⟨p, 2, none⟩ (.int .i64 y3) = U3 at *
  refine (linked_calls _ _).mono ?_
  rw [show decide ((0 : Int) = 3 ∨ (0 : Int) = 4 ∨ (0 : Int) = 5) = false by decide]
  rintro e w' ⟨rfl, rfl⟩
  clear k0
  have k0 := OD.out.cell (i := 0) (v := .int .i64 0) rfl
  dsimp only
  iterate 116 go_step
  have ODc : Hid (Ob U3 p 26 [.int .i64 0, .int .i64 y2, .int .i64 y3, .int .i64 0, .int .i64 0, .int .i64 0, .bool false, .int .i64 0, .int .i64 0, .slice none 0 0, .int .i64 0, .int .i64 0, .int .i64 0, .slice none 0 0]) := OD
  clear OD
  refine wpList_load_ob rfl _ _ rfl p _ ODc.out rfl Tryz.underlying26 rfl frame_info ?_
  refine wpList_store_ob rfl _ _ _ rfl q zeros [.int .i64 0, .int .i64 y2, .int .i64 y3, .int .i64 0, .int .i64 0, .int .i64 0, .bool false, .int .i64 0, .int .i64 0, .slice none 0 0, .int .i64 0, .int .i64 0, .int .i64 0, .slice none 0 0] OQD.out rfl rfl rfl frame_info (by intro v hv; simp at hv; rcases hv with rfl | rfl | rfl | rfl | rfl | rfl | rfl | rfl | rfl | rfl | rfl | rfl | rfl | rfl <;> rfl) ?_
  intro Z hbZ hsZ obZ
  have OZ := hid obZ
  have BZ := hid hbZ
  clear obZ hbZ
  go_wp2
  (try simp only [Exit.inBlock, Exit.then])
  refine bodyPost_ret (results_cell_ob Tryz.results39 _ _ q _ rfl OZ.out Tryz.underlying26 rfl frame_info) rfl ?_
  have hE : runP frameX (bare 0 0 0) x (.ok 0) = (bare 0 0 0, .error (5, 0)) := by
    unfold frameX
    rw [runP_bind kindP 0, kind_zero HK.out]
    rfl
  have hs3 : s3 = .error (5, 0) := by
    rw [← HS3.out, ← HS2.out, ← HS1.out, kind_zero HK.out]
    rfl
  refine ⟨[.int .i64 0, .int .i64 y2, .int .i64 y3, .int .i64 0, .int .i64 0, .int .i64 0, .bool false, .int .i64 0, .int .i64 0, .slice none 0 0, .int .i64 0, .int .i64 0, .int .i64 0, .slice none 0 0], rfl, rfl, (by intro v hv; simp at hv; rcases hv with rfl | rfl | rfl | rfl | rfl | rfl | rfl | rfl | rfl | rfl | rfl | rfl | rfl | rfl <;> rfl), ?_, ?_, BD.out.set3 BZ.out (by omega)⟩
  · intro f pos hf
    rw [hE] at hf
    cases hf
  · rw [hE]
    have := RD.out.set (by omega) OQD.out (by decide) BZ.out
    rw [hs3] at this
    exact this
theorem frame_calls (g h : Nat) (S : Sn) (x : List UInt8) (hx : 1 ≤ x.length) (w : World) (r : FR w g h S x (.ok 0)) :
    Calls Tryz.prog 39 #[.pointer (some ⟨h, 0, none⟩)] w fun e w' => RetFrame w g h S x e w' := by
  have hv : ∃ k : Nat, k ≤ 5 ∧ (runP kindP 0 x (.ok 0)).1 = (k : Int) := by
    cases hk : kindP x 0 with
    | error z => exact ⟨0, by omega, by rw [runP_error hk]; rfl⟩
    | ok r =>
      rw [runP_ok hk]
      unfold kindP at hk
      split at hk
      · rename_i hr
        injection hk with hk
        exact ⟨num (x.take 1), hr.2, by rw [← hk]⟩
      · cases hk
  obtain ⟨k, h5, hk⟩ := hv
  have h6 : k = 0 ∨ k = 1 ∨ k = 2 ∨ k = 3 ∨ k = 4 ∨ k = 5 := by omega
  rcases h6 with rfl | rfl | rfl | rfl | rfl | rfl
  · exact frame_no g h S x hx w r hk
  · exact frame_1 g h S x hx w r hk
  · exact frame_2 g h S x hx w r hk
  · exact frame_3 g h S x hx w r hk
  · exact frame_4 g h S x hx w r hk
  · exact frame_5 g h S x hx w r hk
end Go.Proofs.YtfpgdimgffamoaaGreatDoor.Fr
