/- A reader of fields: bytes behind their number, and the kind. -/
import Derived.Test.YtfpgdimgffamoaaGreatDoorFrList
namespace Go.Proofs.YtfpgdimgffamoaaGreatDoor.Fr
open Go.ChangeShapes Go.WideShapes Go.ChangeAt Go.RowKit Go.Proofs.YtfpgdimgffamoaaGreatDoor.Sm Go.Proofs.YtfpgdimgffamoaaGreatDoor.Wr
set_option maxHeartbeats 400000
set_option maxRecDepth 100000

def stOf (o : Option (Int × Nat)) (p : Nat) : Except (Int × Nat) Nat := match o with
  | none => .ok p
  | some z => .error z
/-- bytes, read. -/
def RetBody (w : World) (g h : Nat) (S : Sn) (x : List UInt8) (st : Except (Int × Nat) Nat) (e : Ending) (w' : World) : Prop :=
  ∃ a n c l, e = .returned (.slice a n c) ∧ w'.ownsRow w.heap.size 5 1 (.slice a n c) n (cells8 l) ∧ (∀ pos, (runP bodyP [] x st).2 = .ok pos → l = (runP bodyP [] x st).1) ∧ FR w' g h S x (runP bodyP [] x st).2 ∧ Beside2 g h w w'
theorem body_state (x : List UInt8) (st : Except (Int × Nat) Nat) (p N : Nat) (bad : Bool) (o : Option (Int × Nat)) (h1 : (runP (numP 1 0 24) 0 x st).1 = (N : Int)) (h2 : (runP (numP 1 0 24) 0 x st).2 = stOf o p) (hb : o = none → bad = false) :
    (runP bodyP [] x st).2 = stOf (if badN x p bad N = true then first o (2, p) else o) (atN x p bad N) ∧ (∀ pos, (runP bodyP [] x st).2 = .ok pos → gotL x p bad N = (runP bodyP [] x st).1) := by
  cases st with
  | error z =>
    have e2 : (.error z : Except (Int × Nat) Nat) = stOf o p := h2
    cases o with
    | none => cases e2
    | some y =>
      have e3 : (.error z : Except (Int × Nat) Nat) = .error y := e2
      injection e3 with e3
      subst e3
      refine ⟨?_, fun _ h => by cases h⟩
      cases badN x p bad N <;> rfl
  | ok pos =>
    cases h : numP 1 0 24 x pos with
    | error z =>
      have e : bodyP x pos = .error z := bind_error h
      rw [runP_error h] at h2
      cases o with
      | none => cases h2
      | some y =>
        have e3 : (.error z : Except (Int × Nat) Nat) = .error y := h2
        injection e3 with e3
        subst e3
        rw [runP_error e]
        refine ⟨?_, fun _ h => by cases h⟩
        cases badN x p bad N <;> rfl
    | ok r =>
      rw [runP_ok h] at h1 h2
      cases o with
      | some y => cases h2
      | none =>
        have e3 : (.ok r.2 : Except (Int × Nat) Nat) = .ok p := h2
        injection e3 with e3
        have e1 : r.1 = (N : Int) := h1
        obtain rfl := hb rfl
        have e : bodyP x pos = takeP N x p := by
          rw [← e3]
          have := bind_ok h (q := fun n => takeP n.toNat)
          rw [e1, Int.toNat_natCast] at this
          exact this
        by_cases hs : x.length < p + N
        · obtain ⟨g1, g2, g3⟩ := got_no (ok_less x p false (k := (N : Int)) (by omega))
          have e4 : bodyP x pos = .error (2, p) := by rw [e]; unfold takeP; rw [if_pos hs]
          rw [runP_error e4, g3]
          exact ⟨rfl, fun _ h => by cases h⟩
        · obtain ⟨g1, g2, g3⟩ := got_yes (ok_yes x p (k := (N : Int)) (by omega) (by omega))
          rw [Int.toNat_natCast] at g1 g2
          rw [got_take] at g1
          have e4 : bodyP x pos = .ok ((x.drop p).take N, p + N) := by rw [e]; unfold takeP; rw [if_neg hs]
          rw [runP_ok e4, g1, g2, g3]
          exact ⟨rfl, fun _ _ => rfl⟩
theorem FR.form {w : World} {g h : Nat} {S : Sn} {x : List UInt8} {st : Except (Int × Nat) Nat} (r : FR w g h S x st) : ∃ p b o, FRm w g h S x p b o ∧ st = stOf o p ∧ (o = none → b = false) := by
  cases st with
  | ok pos => exact ⟨pos, false, none, r, rfl, fun _ => rfl⟩
  | error z => obtain ⟨p, b, r⟩ := r; exact ⟨p, b, some z, r, rfl, fun h => by cases h⟩
theorem FR.of_form {w : World} {g h : Nat} {S : Sn} {x : List UInt8} {p : Nat} {b : Bool} {o : Option (Int × Nat)} (r : FRm w g h S x p b o) (hb : o = none → b = false) : FR w g h S x (stOf o p) := by
  cases o with
  | none => obtain rfl := hb rfl; exact r
  | some z => exact ⟨p, b, r⟩
theorem rbody_calls (g h : Nat) (S : Sn) (x : List UInt8) (st : Except (Int × Nat) Nat) (w : World) (r : FR w g h S x st) :
    Calls Tryz.prog 70 #[.pointer (some ⟨h, 0, none⟩)] w fun e w' => RetBody w g h S x st e w' := by
  have HR := hid r
  have HRS := hid r.size
  have hwf := runP_wf (lo := 0) (hi := 24) (k := 1) (x := x) (st := st) (by omega) (by decide)
  clear r
  go_enter Tryz.func70, Tryz.ntmps70
  go_wp2_with (go_at_call 67; refine stop ?_)
  unfold Stop
  refine (rplain_calls g h S x st 1 (by omega) (by omega) 0 24 w HR.out).mono ?_
  rintro e w1 ⟨v, rfl, rfl, r1, hb1⟩
  obtain ⟨n0, hn0⟩ : ∃ n0, (runP (numP 1 0 24) 0 x st).1 = n0 := ⟨_, rfl⟩
  rw [hn0] at hwf ⊢
  obtain ⟨N, rfl⟩ := Int.eq_ofNat_of_zero_le hwf.1
  obtain ⟨p, bad, o, rm, hst, hbad⟩ := r1.form
  have HS := hid (body_state x st p N bad o hn0 hst hbad)
  have hl := rm.lt
  obtain ⟨ev, ho, hev⟩ := rm.ob
  have c0 := ho.cell (i := 0) rfl
  have RM := hid rm
  have B1 := hid hb1
  have HBD := hid hbad
  clear hn0 hwf r1 hst rm ho hev hb1 HR hbad
  go_wp2_with (go_at_call 40; refine stop ?_)
  unfold Stop
  refine (at_calls g x p bad w1 RM.out.rd).mono ?_
  rintro e w' ⟨rfl, rfl⟩
  go_wp2_with (go_at_call 83; refine stop ?_)
  unfold Stop
  refine (take_calls g x p bad N w1 RM.out.rd).mono ?_
  intro e w2 ht
  obtain ⟨a, n, c, rfl, h8, hown, hr2, hb2⟩ := ht.slice
  have R2 := hid (RM.out.moved hb2 hr2)
  have B2 := hid (B1.out.trans (Beside2.of_beside hb2))
  have HW8 := hid (owns_mono hown B1.out.size)
  obtain ⟨ev2, ho2, hev2⟩ := R2.out.ob
  have d0 := ho2.cell (i := 0) rfl
  have gS := R2.out.sents.cShort
  rw [show S.short = S.of 2 from rfl] at gS
  obtain ⟨E2, hE⟩ : ∃ E, S.of 2 = E := ⟨_, rfl⟩
  rw [hE] at gS
  have HE := hid hE
  clear ht h8 hown hr2 hb2 ho2 hev2 c0 hE
  go_wp2_with (go_at_call 84; refine stop ?_)
  unfold Stop
  refine (bad_calls g x _ _ w2 R2.out.rd).mono ?_
  rintro e w' ⟨rfl, rfl⟩
  cases hbd : badN x p bad N with
  | true =>
    have HBN := hid hbd
    clear hbd
    go_wp2_with (go_at_call 41; refine stop ?_)
    unfold Stop
    rw [← HE.out]
    refine (fail_calls g h S x _ _ o 2 p w2 R2.out (by omega)).mono ?_
    rintro e w3 ⟨rfl, r3, hb3⟩
    have R3 := hid r3
    have B3 := hid hb3
    clear r3 hb3
    go_wp2
    go_ret
    obtain ⟨q1, q2⟩ := HS.out
    rw [HBN.out, if_pos rfl] at q1
    have hsz := HRS.out
    refine ⟨a, n, c, _, rfl, owns_beside2 HW8.out B3.out (by omega) (by omega), ?_, ?_, B2.out.trans B3.out⟩
    · intro pos hp
      rw [q1] at hp
      cases o with
      | none => cases hp
      | some z => cases hp
    · rw [q1]
      exact FR.of_form R3.out (fun hh => by cases o <;> cases hh)
  | false =>
    have HBN := hid hbd
    clear hbd
    go_wp2
    go_ret
    obtain ⟨q1, q2⟩ := HS.out
    rw [HBN.out, if_neg (by decide)] at q1
    refine ⟨a, n, c, _, rfl, HW8.out, fun pos hp => q2 pos hp, ?_, B2.out⟩
    rw [q1]
    have := R2.out
    rw [HBN.out] at this
    exact FR.of_form this (fun _ => rfl)
/-- the kind: 1 to 5, or an error of its own. -/
def kindP : Par Int := fun x _ => if 1 ≤ num (x.take 1) ∧ num (x.take 1) ≤ 5 then .ok ((num (x.take 1) : Int), 1) else .error (5, 0)
theorem rkind_calls (g h : Nat) (S : Sn) (x : List UInt8) (hx : 1 ≤ x.length) (w : World) (r : FR w g h S x (.ok 0)) :
    Calls Tryz.prog 65 #[.pointer (some ⟨h, 0, none⟩)] w fun e w' => RetF kindP 0 isI w g h S x (.ok 0) e w' := by
  have HR := hid r
  clear r
  obtain ⟨n, hn⟩ : ∃ n, num (x.take 1) = n := ⟨_, rfl⟩
  have hn256 : n < 256 := by
    have := num_lt (x.take 1)
    rw [List.length_take, Nat.min_eq_left hx, Nat.pow_one] at this
    omega
  have e1 : runP (numP 1 0 255) 0 x (.ok 0) = ((n : Int), .ok 1) := by
    refine runP_ok (p := numP 1 0 255) (r := ((n : Int), 1)) ?_
    unfold numP
    rw [List.drop_zero, hn, if_neg (by omega), if_pos (by omega)]
  have hc := rplain_calls g h S x (.ok 0) 1 (by omega) (by omega) 0 255 w HR.out
  unfold RetF at hc
  rw [e1] at hc
  have HC := hid hc
  have hk : kindP x 0 = if 1 ≤ n ∧ n ≤ 5 then .ok ((n : Int), 1) else .error (5, 0) := by unfold kindP; rw [hn]
  clear hc e1 hn
  by_cases hg : 1 ≤ n ∧ n ≤ 5
  · rw [if_pos hg] at hk
    have HK := hid (runP_ok (d := (0 : Int)) hk)
    clear hk
    have h5 : n = 1 ∨ n = 2 ∨ n = 3 ∨ n = 4 ∨ n = 5 := by omega
    clear hg hn256
    rcases h5 with rfl | rfl | rfl | rfl | rfl
    all_goals
      go_enter Tryz.func65, Tryz.ntmps65
      go_wp2_with (go_at_call 67; refine stop ?_)
      unfold Stop
      refine (HC.out).mono ?_
      rintro e w1 ⟨v, rfl, rfl, r1, hb1⟩
      have R1 := hid r1
      have B1 := hid hb1
      clear r1 hb1
      go_wp2
      go_ret
      exact ⟨_, rfl, by rw [HK.out]; rfl, by rw [HK.out]; exact R1.out, B1.out⟩
  · rw [if_neg hg] at hk
    have HK := hid (runP_error (d := (0 : Int)) hk)
    have n1 : ((n : Int) == 1) = false := by simp; omega
    have n2 : ((n : Int) == 2) = false := by simp; omega
    have n3 : ((n : Int) == 3) = false := by simp; omega
    have n4 : ((n : Int) == 4) = false := by simp; omega
    have n5 : ((n : Int) == 5) = false := by simp; omega
    clear hk hg
    go_enter Tryz.func65, Tryz.ntmps65
    go_wp2_with (go_at_call 67; refine stop ?_)
    unfold Stop
    refine (HC.out).mono ?_
    rintro e w1 ⟨v, rfl, rfl, r1, hb1⟩
    have r1' : FRm w1 g h S x 1 false none := r1
    have gK := r1'.sents.cKind
    rw [show S.kind = S.of 5 from rfl] at gK
    obtain ⟨E5, hE⟩ : ∃ E, S.of 5 = E := ⟨_, rfl⟩
    rw [hE] at gK
    have HE := hid hE
    have R1 := hid r1'
    have B1 := hid hb1
    clear r1 r1' hb1 hE
    go_wp2_with (go_at_call 41; refine stop ?_)
    unfold Stop
    rw [← HE.out]
    refine (fail_calls g h S x 1 false none 5 0 w1 R1.out (by omega)).mono ?_
    rintro e w3 ⟨rfl, r3, hb3⟩
    have R3 := hid r3
    have B3 := hid hb3
    clear r3 hb3
    go_wp2
    go_ret
    exact ⟨_, rfl, by rw [HK.out]; rfl, by rw [HK.out]; exact ⟨_, _, R3.out⟩, B1.out.trans B3.out⟩
end Go.Proofs.YtfpgdimgffamoaaGreatDoor.Fr
