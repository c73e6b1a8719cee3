/- A reader of fields, by what it is to read: numbers, ages, bytes. -/
import Derived.Test.YtfpgdimgffamoaaGreatDoorFrStep
import Derived.Test.YtfpgdimgffamoaaGreatDoorSmA
namespace Go.Proofs.YtfpgdimgffamoaaGreatDoor.Fr
open Go.ChangeShapes Go.WideShapes Go.ChangeAt Go.RowKit Go.Proofs.YtfpgdimgffamoaaGreatDoor.Sm Go.Proofs.YtfpgdimgffamoaaGreatDoor.Wr
set_option maxHeartbeats 400000
set_option maxRecDepth 100000

/-- what is read from a place on; nothing behind an error. -/
def runP {α : Type} (p : Par α) (d : α) (x : List UInt8) (st : Except (Int × Nat) Nat) : α × Except (Int × Nat) Nat := match st with
  | .error z => (d, .error z)
  | .ok pos => match p x pos with
    | .error z => (d, .error z)
    | .ok r => (r.1, .ok r.2)
theorem runP_error {α : Type} {p : Par α} {d : α} {x : List UInt8} {pos : Nat} {z : Int × Nat} (h : p x pos = .error z) : runP p d x (.ok pos) = (d, .error z) := by simp [runP, h]
theorem runP_ok {α : Type} {p : Par α} {d : α} {x : List UInt8} {pos : Nat} {r : α × Nat} (h : p x pos = .ok r) : runP p d x (.ok pos) = (r.1, .ok r.2) := by simp [runP, h]
/-- a reader of fields: its place, or its first error. -/
def FR (w : World) (g h : Nat) (S : Sn) (x : List UInt8) : Except (Int × Nat) Nat → Prop
  | .ok pos => FRm w g h S x pos false none
  | .error z => ∃ p b, FRm w g h S x p b (some z)
theorem FR.some_ {w : World} {g h : Nat} {S : Sn} {x : List UInt8} {st : Except (Int × Nat) Nat} (r : FR w g h S x st) : ∃ p b o, FRm w g h S x p b o := by
  cases st with
  | ok pos => exact ⟨_, _, _, r⟩
  | error z => obtain ⟨p, b, r⟩ := r; exact ⟨_, _, _, r⟩
theorem FR.below {w w' : World} {g h B : Nat} {S : Sn} {x : List UInt8} {st : Except (Int × Nat) Nat} (r : FR w g h S x st) (hb : Below B w w') (hB : w.heap.size ≤ B) : FR w' g h S x st := by
  cases st with
  | ok pos => exact FRm.below r hb hB
  | error z => obtain ⟨p, b, r⟩ := r; exact ⟨p, b, r.below hb hB⟩
theorem FR.size {w : World} {g h : Nat} {S : Sn} {x : List UInt8} {st : Except (Int × Nat) Nat} (r : FR w g h S x st) : g < h ∧ h < w.heap.size := by
  obtain ⟨p, b, o, r⟩ := r.some_
  exact ⟨r.lt, r.size⟩
/-- a field, read. -/
def RetF {α : Type} (p : Par α) (d : α) (val : World → Value → α → Prop) (w : World) (g h : Nat) (S : Sn) (x : List UInt8) (st : Except (Int × Nat) Nat) (e : Ending) (w' : World) : Prop :=
  ∃ v, e = .returned v ∧ val w' v (runP p d x st).1 ∧ FR w' g h S x (runP p d x st).2 ∧ Beside2 g h w w'
def isI (_ : World) (v : Value) (n : Int) : Prop := v = .int .i64 n

theorem rplain_m (g h : Nat) (S : Sn) (x : List UInt8) (p : Nat) (bad : Bool) (o : Option (Int × Nat)) (k lo hi : Int) (w : World) (r : FRm w g h S x p bad o) :
    Calls Tryz.prog 67 #[.pointer (some ⟨h, 0, none⟩), .int .i64 k, .int .i64 lo, .int .i64 hi] w fun e w' => e = .returned (.int .i64 (valOf (upd o (badN x p bad (wid k)) (numI (gotL x p bad (wid k))) lo hi p) (numI (gotL x p bad (wid k))))) ∧ FRm w' g h S x (atN x p bad (wid k)) (badN x p bad (wid k)) (upd o (badN x p bad (wid k)) (numI (gotL x p bad (wid k))) lo hi p) ∧ Beside2 g h w w' := by
  have HR := hid r
  have hl := r.lt
  obtain ⟨ev, ho, hev⟩ := r.ob
  have c0 := ho.cell (i := 0) rfl
  have HO := hid ho
  clear r ho hev
  obtain ⟨bd, hbd⟩ : ∃ b, badN x p bad (wid k) = b := ⟨_, rfl⟩
  obtain ⟨pn, hpn⟩ : ∃ b, atN x p bad (wid k) = b := ⟨_, rfl⟩
  obtain ⟨N, hN⟩ : ∃ b, numI (gotL x p bad (wid k)) = b := ⟨_, rfl⟩
  rw [hbd, hpn, hN]
  obtain ⟨V, hV⟩ : ∃ b, valOf (upd o bd N lo hi p) N = b := ⟨_, rfl⟩
  rw [hV]
  have HV := hid hV
  have Hbd := hid hbd
  have Hpn := hid hpn
  have HNN := hid hN
  clear hV hbd hpn hN
  go_enter Tryz.func67, Tryz.ntmps67
  go_wp2_with (go_at_call 40; refine stop ?_)
  unfold Stop
  refine (at_calls g x p bad w HR.out.rd).mono ?_
  rintro e w' ⟨rfl, rfl⟩
  go_wp2_with (go_at_call 81; refine stop ?_)
  unfold Stop
  refine (rnumber_calls g x p bad k w HR.out.rd).mono ?_
  rintro e w1 ⟨rfl, hr1, hb1⟩
  have R1 := hid (HR.out.moved hb1 hr1)
  have B1 := hid hb1
  clear hr1 hb1 c0 HO HR
  rw [Hbd.out, Hpn.out] at R1
  rw [HNN.out]
  go_wp2_with (go_at_call 80; refine stop ?_)
  unfold Stop
  refine (check_calls g h S x pn bd o N lo hi p w1 R1.out).mono ?_
  rintro e w2 ⟨rfl, r2, hb2⟩
  have R2 := hid r2
  have B2 := hid hb2
  clear r2 hb2
  rw [HV.out]
  go_wp2
  go_ret
  exact ⟨rfl, R2.out, (Beside2.of_beside B1.out).trans B2.out⟩
theorem got_take {x : List UInt8} {p k : Nat} : (x.take (p + k)).drop p = (x.drop p).take k := by rw [List.drop_take, Nat.add_sub_cancel_left]
/-- a number's field. -/
theorem rplain_calls (g h : Nat) (S : Sn) (x : List UInt8) (st : Except (Int × Nat) Nat) (k : Nat) (h1 : 1 ≤ k) (h7 : k ≤ 7) (lo hi : Int) (w : World) (r : FR w g h S x st) :
    Calls Tryz.prog 67 #[.pointer (some ⟨h, 0, none⟩), .int .i64 k, .int .i64 lo, .int .i64 hi] w fun e w' => RetF (numP k lo hi) 0 isI w g h S x st e w' := by
  have hw : wid (k : Int) = k := by unfold wid; rw [if_pos (by omega)]
  cases st with
  | error z =>
    obtain ⟨p, b, r⟩ := r
    refine (rplain_m g h S x p b (some z) k lo hi w r).mono ?_
    rintro e w' ⟨rfl, r', hb⟩
    exact ⟨_, rfl, rfl, ⟨_, _, r'⟩, hb⟩
  | ok pos =>
    have r0 : FRm w g h S x pos false none := r
    have hat : pos ≤ x.length := by obtain ⟨_, _, _, _, _, q, _⟩ := r0.rd; exact q
    refine (rplain_m g h S x pos false none k lo hi w r0).mono ?_
    rintro e w' ⟨rfl, r', hb⟩
    rw [hw] at r' ⊢
    by_cases hs : x.length < pos + k
    · obtain ⟨g1, g2, g3⟩ := got_no (ok_less x pos false (k := (k : Int)) (by omega))
      rw [g1, g2, g3] at r'
      have e1 : runP (numP k lo hi) 0 x (.ok pos) = (0, .error (2, pos)) := runP_error (by unfold numP; rw [if_pos hs])
      refine ⟨_, rfl, ?_, ?_, hb⟩
      · rw [e1, g1, g3]; rfl
      · rw [e1]; exact ⟨_, _, r'⟩
    · obtain ⟨g1, g2, g3⟩ := got_yes (ok_yes x pos (k := (k : Int)) (by omega) (by omega))
      rw [Int.toNat_natCast] at g1 g2
      rw [got_take] at g1
      have hlen : ((x.drop pos).take k).length ≤ 7 := by rw [List.length_take]; omega
      rw [g1, g2, g3, numI_eq hlen] at r'
      rw [g1, g3, numI_eq hlen]
      by_cases hr : lo ≤ (num ((x.drop pos).take k) : Int) ∧ (num ((x.drop pos).take k) : Int) ≤ hi
      · have e1 : runP (numP k lo hi) 0 x (.ok pos) = ((num ((x.drop pos).take k) : Int), .ok (pos + k)) := runP_ok (p := numP k lo hi) (r := ((num ((x.drop pos).take k) : Int), pos + k)) (by unfold numP; rw [if_neg hs, if_pos hr])
        have e2 : upd none false (num ((x.drop pos).take k) : Int) lo hi pos = none := by
          unfold upd
          rw [if_neg (by decide), if_neg (by omega)]
        rw [e2] at r' ⊢
        exact ⟨_, rfl, by rw [e1]; rfl, by rw [e1]; exact r', hb⟩
      · have e1 : runP (numP k lo hi) 0 x (.ok pos) = (0, .error (6, pos)) := runP_error (by unfold numP; rw [if_neg hs, if_neg hr])
        have e2 : upd none false (num ((x.drop pos).take k) : Int) lo hi pos = some (6, pos) := by
          unfold upd
          rw [if_neg (by decide), if_pos (by omega)]
        rw [e2] at r' ⊢
        exact ⟨_, rfl, by rw [e1]; rfl, by rw [e1]; exact ⟨_, _, r'⟩, hb⟩
theorem rbelow_calls (g h : Nat) (S : Sn) (x : List UInt8) (st : Except (Int × Nat) Nat) (n : Int) (hn : 1 ≤ n) (hn2 : n ≤ 100) (w : World) (r : FR w g h S x st) :
    Calls Tryz.prog 66 #[.pointer (some ⟨h, 0, none⟩), .int .i64 n] w fun e w' => RetF (numP 1 0 (n - 1)) 0 isI w g h S x st e w' := by
  have HR := hid r
  clear r
  go_enter Tryz.func66, Tryz.ntmps66
  go_wp2_with (go_at_call 67; refine stop ?_)
  unfold Stop
  refine (rplain_calls g h S x st 1 (by omega) (by omega) 0 (n - 1) w HR.out).mono ?_
  rintro e w' ⟨v, rfl, rfl, r1, hb1⟩
  have R1 := hid r1
  have B1 := hid hb1
  clear r1 hb1
  obtain ⟨V, hV⟩ : ∃ V, (runP (numP 1 0 (n - 1)) 0 x st).1 = V := ⟨_, rfl⟩
  rw [hV]
  have HV := hid hV
  clear hV
  go_wp2
  go_ret
  exact ⟨_, rfl, by rw [HV.out]; rfl, R1.out, B1.out⟩
/-- an offset's field. -/
theorem roffset_m (g h : Nat) (S : Sn) (x : List UInt8) (p : Nat) (bad : Bool) (o : Option (Int × Nat)) (w : World) (r : FRm w g h S x p bad o) :
    Calls Tryz.prog 69 #[.pointer (some ⟨h, 0, none⟩)] w fun e w' => e = .returned (.int .i64 (valOf (upd o (badN x p bad 6) (offI (gotL x p bad 6)) (-1099511627776) 1099511627776 p) (offI (gotL x p bad 6)))) ∧ FRm w' g h S x (atN x p bad 6) (badN x p bad 6) (upd o (badN x p bad 6) (offI (gotL x p bad 6)) (-1099511627776) 1099511627776 p) ∧ Beside2 g h w w' := by
  have HR := hid r
  have hl := r.lt
  obtain ⟨ev, ho, hev⟩ := r.ob
  have c0 := ho.cell (i := 0) rfl
  have HO := hid ho
  clear r ho hev
  obtain ⟨bd, hbd⟩ : ∃ b, badN x p bad 6 = b := ⟨_, rfl⟩
  obtain ⟨pn, hpn⟩ : ∃ b, atN x p bad 6 = b := ⟨_, rfl⟩
  obtain ⟨N, hN⟩ : ∃ b, offI (gotL x p bad 6) = b := ⟨_, rfl⟩
  rw [hbd, hpn, hN]
  obtain ⟨V, hV⟩ : ∃ b, valOf (upd o bd N (-1099511627776) 1099511627776 p) N = b := ⟨_, rfl⟩
  rw [hV]
  have HV := hid hV
  have Hbd := hid hbd
  have Hpn := hid hpn
  have HNN := hid hN
  clear hV hbd hpn hN
  go_enter Tryz.func69, Tryz.ntmps69
  go_wp2_with (go_at_call 40; refine stop ?_)
  unfold Stop
  refine (at_calls g x p bad w HR.out.rd).mono ?_
  rintro e w' ⟨rfl, rfl⟩
  go_wp2_with (go_at_call 82; refine stop ?_)
  unfold Stop
  refine (roffset_calls g x p bad 6 w HR.out.rd).mono ?_
  rw [show wid 6 = 6 by decide]
  rintro e w1 ⟨rfl, hr1, hb1⟩
  have R1 := hid (HR.out.moved hb1 hr1)
  have B1 := hid hb1
  clear hr1 hb1 c0 HO HR
  rw [Hbd.out, Hpn.out] at R1
  rw [HNN.out]
  go_wp2_with (go_at_call 80; refine stop ?_)
  unfold Stop
  refine (check_calls g h S x pn bd o N (-1099511627776) 1099511627776 p w1 R1.out).mono ?_
  rintro e w2 ⟨rfl, r2, hb2⟩
  have R2 := hid r2
  have B2 := hid hb2
  clear r2 hb2
  rw [HV.out]
  go_wp2
  go_ret
  exact ⟨rfl, R2.out, (Beside2.of_beside B1.out).trans B2.out⟩
theorem rofs_calls (g h : Nat) (S : Sn) (x : List UInt8) (st : Except (Int × Nat) Nat) (w : World) (r : FR w g h S x st) :
    Calls Tryz.prog 69 #[.pointer (some ⟨h, 0, none⟩)] w fun e w' => RetF offP 0 isI w g h S x st e w' := by
  cases st with
  | error z =>
    obtain ⟨p, b, r⟩ := r
    refine (roffset_m g h S x p b (some z) w r).mono ?_
    rintro e w' ⟨rfl, r', hb⟩
    exact ⟨_, rfl, rfl, ⟨_, _, r'⟩, hb⟩
  | ok pos =>
    have r0 : FRm w g h S x pos false none := r
    have hat : pos ≤ x.length := by obtain ⟨_, _, _, _, _, q, _⟩ := r0.rd; exact q
    refine (roffset_m g h S x pos false none w r0).mono ?_
    rintro e w' ⟨rfl, r', hb⟩
    by_cases hs : x.length < pos + 6
    · obtain ⟨g1, g2, g3⟩ := got_no (ok_less x pos false (k := 6) (by omega))
      rw [g1, g2, g3] at r'
      have e1 : runP offP 0 x (.ok pos) = (0, .error (2, pos)) := runP_error (by unfold offP; rw [if_pos hs])
      refine ⟨_, rfl, ?_, ?_, hb⟩
      · rw [e1, g1, g3]; rfl
      · rw [e1]; exact ⟨_, _, r'⟩
    · obtain ⟨g1, g2, g3⟩ := got_yes (ok_yes x pos (k := 6) (by omega) (by omega))
      rw [show (6 : Int).toNat = 6 from rfl] at g1 g2
      rw [got_take] at g1
      rw [g1, g2, g3] at r'
      rw [g1, g3]
      by_cases hr : -1099511627776 ≤ offI ((x.drop pos).take 6) ∧ offI ((x.drop pos).take 6) ≤ 1099511627776
      · have e1 : runP offP 0 x (.ok pos) = (offI ((x.drop pos).take 6), .ok (pos + 6)) := runP_ok (p := offP) (r := (offI ((x.drop pos).take 6), pos + 6)) (by unfold offP; rw [if_neg hs, if_pos hr])
        have e2 : upd none false (offI ((x.drop pos).take 6)) (-1099511627776) 1099511627776 pos = none := by
          unfold upd
          rw [if_neg (by decide), if_neg (by omega)]
        rw [e2] at r' ⊢
        exact ⟨_, rfl, by rw [e1]; rfl, by rw [e1]; exact r', hb⟩
      · have e1 : runP offP 0 x (.ok pos) = (0, .error (6, pos)) := runP_error (by unfold offP; rw [if_neg hs, if_neg hr])
        have e2 : upd none false (offI ((x.drop pos).take 6)) (-1099511627776) 1099511627776 pos = some (6, pos) := by
          unfold upd
          rw [if_neg (by decide), if_pos (by omega)]
        rw [e2] at r' ⊢
        exact ⟨_, rfl, by rw [e1]; rfl, by rw [e1]; exact ⟨_, _, r'⟩, hb⟩
end Go.Proofs.YtfpgdimgffamoaaGreatDoor.Fr
