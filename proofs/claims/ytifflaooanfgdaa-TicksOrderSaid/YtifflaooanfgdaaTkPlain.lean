/- Plain facts on whole numbers for chapter 1 (ticks): what the five calls come to, and that what the walks show is that. No condition but the ones that each theorem names. -/
import Derived.WalkKit
import Derived.OpenShut
namespace Go.Proofs.Ytifflaooanfgdaa.Tk
open Go.RowKit

/-- A number of 64 bits. -/
def R64 (a : Int) : Prop := -9223372036854775808 ≤ a ∧ a ≤ 9223372036854775807

theorem R64.of {a : Int} (h : (Lit.int .i64 a).wf = true) : R64 a := bounds_i64 h

def fl (a b : Int) : Int := if b < 1 then 0 else a / b
def ce (a b : Int) : Int := if b < 1 then 0 else -(-a / b)
def inR (x p : Int) : Bool := decide (-1099511627776 ≤ x ∧ x ≤ 1099511627776 ∧ -1000000 ≤ p ∧ p ≤ 1000000)
def sc (x p : Int) : Int := if inR x p then x * p / 1000000 else 0
def cl (v m : Int) : Int := if m < 0 then 0 else if v < -m then -m else if m < v then m else v
def ad (a b : Int) : Int := if 9223372036854775807 < a + b then 9223372036854775807 else if a + b < -9223372036854775808 then -9223372036854775808 else a + b

theorem ediv_is {a b q r : Int} (hb : 0 < b) (h : a = b * q + r) (h0 : 0 ≤ r) (h1 : r < b) : a / b = q :=
  ((Int.ediv_emod_unique (a := a) (b := b) (q := q) (r := r) hb).2 ⟨by omega, h0, h1⟩).1

/-- The quotient of a 64-bit number by a number above 0 is one of 64 bits. -/
theorem tdiv_in {a b : Int} (ha : R64 a) (hb : 1 ≤ b) : -9223372036854775808 ≤ a.tdiv b ∧ a.tdiv b ≤ 9223372036854775807 := by
  have h1 := Int.mul_tdiv_add_tmod a b
  have hb0 : (0 : Int) < b := by omega
  unfold R64 at ha
  by_cases h : 0 ≤ a
  · have h2 := Int.tmod_nonneg b h
    have h3 : 0 ≤ a.tdiv b := Int.tdiv_nonneg h (by omega)
    have h4 : a.tdiv b * 1 ≤ a.tdiv b * b := Int.mul_le_mul_of_nonneg_left hb h3
    rw [Int.mul_comm] at h1
    omega
  · have h2 : (-a).tdiv b = -(a.tdiv b) := Int.neg_tdiv ..
    have h3 : 0 ≤ (-a).tdiv b := Int.tdiv_nonneg (by omega) (by omega)
    have h5 := Int.mul_tdiv_add_tmod (-a) b
    have h6 := Int.tmod_nonneg (a := -a) b (by omega)
    have h4 : (-a).tdiv b * 1 ≤ (-a).tdiv b * b := Int.mul_le_mul_of_nonneg_left hb h3
    rw [Int.mul_comm] at h5
    omega

theorem fl_no {a b : Int} (h : b < 1) : fl a b = 0 := by simp [fl, h]
theorem ce_no {a b : Int} (h : b < 1) : ce a b = 0 := by simp [ce, h]

theorem fl_up {a b : Int} (ha : R64 a) (hb : 1 ≤ b) (hr : 0 ≤ a.tmod b) : wrap64 (a.tdiv b) = fl a b := by
  have h1 := Int.mul_tdiv_add_tmod a b
  have h2 := Int.tmod_lt_of_pos a (show 0 < b by omega)
  have h3 := tdiv_in ha hb
  rw [IntWalk.wrap64_in _ h3]
  simp only [fl, if_neg (show ¬ b < 1 by omega)]
  exact (ediv_is (by omega) h1.symm hr h2).symm

theorem tmod_lo {a b : Int} (hb : 1 ≤ b) : -b < a.tmod b := by
  have h := Int.tmod_lt_of_pos (-a) (show 0 < b by omega)
  rw [Int.neg_tmod] at h
  omega

theorem fl_down {a b : Int} (ha : R64 a) (hb : 1 ≤ b) (hr : a.tmod b < 0) : wrap64 (wrap64 (a.tdiv b) - 1) = fl a b := by
  have h1 := Int.mul_tdiv_add_tmod a b
  have h2 := tmod_lo (a := a) hb
  have h3 := tdiv_in ha hb
  have h4 : a < 0 := by
    apply Int.not_le.1
    intro h0
    have := Int.tmod_nonneg b h0
    omega
  have h5 : 2 ≤ b := by
    apply Int.not_lt.1
    intro hlt
    have : b = 1 := by omega
    subst this
    simp at hr
  have h6 : -9223372036854775808 < a.tdiv b := by
    have h7 : (-a).tdiv b = -(a.tdiv b) := Int.neg_tdiv ..
    have h8 : 0 ≤ (-a).tdiv b := Int.tdiv_nonneg (by omega) (by omega)
    have h9 : (-a).tdiv b * 2 ≤ (-a).tdiv b * b := Int.mul_le_mul_of_nonneg_left h5 h8
    have h10 := Int.mul_tdiv_add_tmod (-a) b
    have h11 := Int.tmod_nonneg (a := -a) b (by omega)
    rw [Int.mul_comm] at h10
    unfold R64 at ha
    omega
  rw [IntWalk.wrap64_in _ h3, IntWalk.wrap64_in _ (by omega)]
  simp only [fl, if_neg (show ¬ b < 1 by omega)]
  refine (ediv_is (q := a.tdiv b - 1) (r := a.tmod b + b) (by omega) ?_ (by omega) (by omega)).symm
  rw [Int.mul_sub, Int.mul_one]
  omega

theorem ce_down {a b : Int} (ha : R64 a) (hb : 1 ≤ b) (hr : a.tmod b ≤ 0) : wrap64 (a.tdiv b) = ce a b := by
  have h1 := Int.mul_tdiv_add_tmod a b
  have h2 := tmod_lo (a := a) hb
  have h3 := tdiv_in ha hb
  rw [IntWalk.wrap64_in _ h3]
  simp only [ce, if_neg (show ¬ b < 1 by omega)]
  have := ediv_is (a := -a) (b := b) (q := -a.tdiv b) (r := -a.tmod b) (by omega) (by rw [Int.mul_neg]; omega) (by omega) (by omega)
  omega

theorem ce_up {a b : Int} (ha : R64 a) (hb : 1 ≤ b) (hr : 0 < a.tmod b) : wrap64 (wrap64 (a.tdiv b) + 1) = ce a b := by
  have h1 := Int.mul_tdiv_add_tmod a b
  have h2 := Int.tmod_lt_of_pos a (show 0 < b by omega)
  have h3 := tdiv_in ha hb
  have h4 : 0 < a := by
    apply Int.not_le.1
    intro h0
    have h := Int.tmod_nonneg (a := -a) b (by omega)
    rw [Int.neg_tmod] at h
    omega
  have h5 : 2 ≤ b := by
    apply Int.not_lt.1
    intro hlt
    have : b = 1 := by omega
    subst this
    simp at hr
  have h6 : a.tdiv b < 9223372036854775807 := by
    have h8 : 0 ≤ a.tdiv b := Int.tdiv_nonneg (by omega) (by omega)
    have h9 : a.tdiv b * 2 ≤ a.tdiv b * b := Int.mul_le_mul_of_nonneg_left h5 h8
    rw [Int.mul_comm] at h1
    unfold R64 at ha
    omega
  rw [IntWalk.wrap64_in _ h3, IntWalk.wrap64_in _ (by omega)]
  simp only [ce, if_neg (show ¬ b < 1 by omega)]
  have := ediv_is (a := -a) (b := b) (q := -(a.tdiv b + 1)) (r := b - a.tmod b) (by omega)
    (by rw [Int.mul_neg, Int.mul_add, Int.mul_one]; omega) (by omega) (by omega)
  omega

/-- The product that Scale makes lies within 64 bits. -/
theorem prod_in {x p : Int} (h1 : -1099511627776 ≤ x) (h2 : x ≤ 1099511627776) (h3 : -1000000 ≤ p) (h4 : p ≤ 1000000) :
    -1099511627776000000 ≤ x * p ∧ x * p ≤ 1099511627776000000 := by
  have hx : x.natAbs ≤ 1099511627776 := by omega
  have hp : p.natAbs ≤ 1000000 := by omega
  have hm := Nat.mul_le_mul hx hp
  rw [← Int.natAbs_mul] at hm
  omega

theorem sc_in {x p : Int} (h1 : -1099511627776 ≤ x) (h2 : x ≤ 1099511627776) (h3 : -1000000 ≤ p) (h4 : p ≤ 1000000) : fl (wrap64 (x * p)) 1000000 = sc x p := by
  have h := prod_in h1 h2 h3 h4
  rw [IntWalk.wrap64_in _ (by omega)]
  simp [fl, sc, inR, h1, h2, h3, h4]

theorem inR_yes {x p : Int} (h1 : -1099511627776 ≤ x) (h2 : x ≤ 1099511627776) (h3 : -1000000 ≤ p) (h4 : p ≤ 1000000) : inR x p = true := by
  simp [inR, h1, h2, h3, h4]
theorem inR_no {x p : Int} (h : x < -1099511627776 ∨ 1099511627776 < x ∨ p < -1000000 ∨ 1000000 < p) : inR x p = false := by
  simp only [inR, decide_eq_false_iff_not]
  omega
theorem sc_no {x p : Int} (h : x < -1099511627776 ∨ 1099511627776 < x ∨ p < -1000000 ∨ 1000000 < p) : sc x p = 0 := by
  simp [sc, inR_no h]

theorem R64.wrap (a : Int) : R64 (wrap64 a) := by unfold R64 wrap64; omega
theorem R64.fl {a b : Int} (ha : R64 a) : R64 (fl a b) := by
  unfold Tk.fl R64
  split
  · omega
  · rename_i hb
    have h1 := Int.mul_ediv_add_emod a b
    have h2 := Int.emod_nonneg a (show b ≠ 0 by omega)
    have h3 := Int.emod_lt_of_pos a (show 0 < b by omega)
    by_cases hs : 0 ≤ a
    · have := Int.ediv_le_self b hs
      have := Int.ediv_nonneg hs (show 0 ≤ b by omega)
      unfold R64 at ha
      omega
    · have h4 : a / b < 0 := Int.ediv_neg_of_neg_of_pos (by omega) (by omega)
      have h5 : a ≤ a / b := by
        by_cases h6 : b = 1
        · subst h6; simp
        · refine (Int.le_ediv_iff_mul_le (show 0 < b by omega)).2 ?_
          have : a * b ≤ a * 1 := Int.mul_le_mul_of_nonpos_left (by omega) (by omega)
          omega
      unfold R64 at ha
      omega
end Go.Proofs.Ytifflaooanfgdaa.Tk
