/- Plain facts on whole numbers that the laws of chapter 1 lean on: bounds keep order, sums keep order, quotients lie between, what two scaled numbers are apart. No condition but the ones that each theorem names. -/
import Derived.Test.YtifflaooanfgdaaTkPlain
namespace Go.Proofs.Ytifflaooanfgdaa.Tk
open Go.RowKit

theorem hid {p : Prop} (h : p) : Hid p := h

theorem cl_mono {v w m : Int} (h : v ≤ w) : cl v m ≤ cl w m := by
  unfold cl
  (repeat' split) <;> omega
theorem ad_mono {v w a : Int} (h : v ≤ w) : ad v a ≤ ad w a := by
  unfold ad
  (repeat' split) <;> omega
theorem ad_comm (a b : Int) : ad a b = ad b a := by
  unfold ad
  rw [Int.add_comm]

/-- What TicksBetween asks of the two quotients. -/
theorem between {a n : Int} (h1 : -1152921504606846976 ≤ a) (h2 : a ≤ 1152921504606846976) (h3 : 1 ≤ n) (h4 : n ≤ 65536) :
    wrap64 (fl a n * n) ≤ a ∧ wrap64 (a - wrap64 (fl a n * n)) < n ∧ a ≤ wrap64 (ce a n * n) ∧ wrap64 (wrap64 (ce a n * n) - a) < n ∧
    (fl a n == ce a n) = (a.tmod n == 0) ∧ wrap64 (ce a n - fl a n) ≤ 1 := by
  have f1 := Int.mul_ediv_add_emod a n
  have f2 := Int.emod_nonneg a (show n ≠ 0 by omega)
  have f3 := Int.emod_lt_of_pos a (show 0 < n by omega)
  have g1 := Int.mul_ediv_add_emod (-a) n
  have g2 := Int.emod_nonneg (-a) (show n ≠ 0 by omega)
  have g3 := Int.emod_lt_of_pos (-a) (show 0 < n by omega)
  have e1 : fl a n = a / n := by simp [fl, show ¬ n < 1 by omega]
  have e2 : ce a n = -(-a / n) := by simp [ce, show ¬ n < 1 by omega]
  rw [e1, e2]
  have e3 : -(-a / n) * n = -(n * (-a / n)) := by rw [Int.neg_mul, Int.mul_comm]
  rw [e3, Int.mul_comm (a / n) n]
  generalize hp : a / n = p at *
  generalize hq : -a / n = q at *
  have hpn : n * p + n * q = n * (p + q) := by rw [Int.mul_add]
  have hd : -1 ≤ p + q ∧ p + q ≤ 0 := by
    constructor
    · apply Int.not_lt.1
      intro h
      have : n * (p + q) ≤ n * (-2) := Int.mul_le_mul_of_nonneg_left (by omega) (by omega)
      omega
    · apply Int.not_lt.1
      intro h
      have : n * 1 ≤ n * (p + q) := Int.mul_le_mul_of_nonneg_left (by omega) (by omega)
      omega
  have w1 : wrap64 (n * p) = n * p := IntWalk.wrap64_in _ (by omega)
  have w2 : wrap64 (-(n * q)) = -(n * q) := IntWalk.wrap64_in _ (by omega)
  rw [w1, w2, IntWalk.wrap64_in (a - n * p) (by omega), IntWalk.wrap64_in (-(n * q) - a) (by omega), IntWalk.wrap64_in (-q - p) (by omega)]
  refine ⟨by omega, by omega, by omega, by omega, ?_, by omega⟩
  have t : a.tmod n = 0 ↔ a % n = 0 := by
    rw [← Int.dvd_iff_tmod_eq_zero, Int.dvd_iff_emod_eq_zero]
  rw [Bool.eq_iff_iff, beq_iff_eq, beq_iff_eq, t]
  constructor
  · intro h
    have : p + q = 0 := by omega
    rw [this, Int.mul_zero] at hpn
    omega
  · intro h
    have h0 : n * (p + q) = -((-a) % n) := by omega
    have h5 : p + q = 0 := by
      by_cases h6 : p + q = 0
      · exact h6
      · have h7 : p + q = -1 := by omega
        rw [h7] at h0
        omega
    omega

theorem tmod_million (a : Int) : -1000000 < a.tmod 1000000 ∧ a.tmod 1000000 < 1000000 :=
  ⟨by have := tmod_lo (a := a) (b := 1000000) (by omega); omega, Int.tmod_lt_of_pos a (by omega)⟩

/-- What two scaled numbers are apart. -/
theorem apart {x a b : Int} (hx : 0 ≤ x) (hx2 : x ≤ 1099511627776) (hab : b ≤ a) (ha : a < 1000000) (hb : -1000000 < b) :
    wrap64 (sc x a - sc x b) ≥ 0 ∧ (a - b ≤ 1000000 → wrap64 (sc x a - sc x b) ≤ wrap64 (sc x (a - b) + 1)) ∧ wrap64 (sc x a - sc x b) ≤ wrap64 (2 * x) := by
  have e1 : sc x a = x * a / 1000000 := by simp [sc, inR_yes (x := x) (p := a) (by omega) (by omega) (by omega) (by omega)]
  have e2 : sc x b = x * b / 1000000 := by simp [sc, inR_yes (x := x) (p := b) (by omega) (by omega) (by omega) (by omega)]
  have p1 := prod_in (x := x) (p := a) (by omega) (by omega) (by omega) (by omega)
  have p2 := prod_in (x := x) (p := b) (by omega) (by omega) (by omega) (by omega)
  have m1 : x * b ≤ x * a := Int.mul_le_mul_of_nonneg_left hab hx
  have m2 : x * a ≤ x * 1000000 := Int.mul_le_mul_of_nonneg_left (by omega) hx
  have m3 : x * (-1000000) ≤ x * b := Int.mul_le_mul_of_nonneg_left (by omega) hx
  have md : x * (a - b) = x * a - x * b := Int.mul_sub ..
  rw [e1, e2]
  have w1 : wrap64 (x * a / 1000000 - x * b / 1000000) = x * a / 1000000 - x * b / 1000000 := IntWalk.wrap64_in _ (by omega)
  rw [w1, IntWalk.wrap64_in (2 * x) (by omega)]
  refine ⟨by omega, ?_, by omega⟩
  intro hd
  have e3 : sc x (a - b) = x * (a - b) / 1000000 := by simp [sc, inR_yes (x := x) (p := a - b) (by omega) (by omega) (by omega) (by omega)]
  rw [e3, md, IntWalk.wrap64_in _ (by omega)]
  omega
end Go.Proofs.Ytifflaooanfgdaa.Tk
