/- The document's own answers: may these be ages? and a flag as a number. -/
import Derived.Test.YtliejllegabdnaaDoorFrVal
import Derived.Test.YtliejllegabdnaaDoorSmA
namespace Go.Proofs.YtliejllegabdnaaDoor.Fr
open Go.ChangeShapes Go.WideShapes Go.ChangeAt Go.RowKit Go.Proofs.YtliejllegabdnaaDoor.Sm Go.Proofs.YtliejllegabdnaaDoor.Wr
set_option maxHeartbeats 4000000
set_option maxRecDepth 100000

theorem flagR_calls (b : Bool) (w : World) : Calls Tryd.prog 24 #[.bool b] w fun e w' => e = .returned (.int .i64 (if b = true then 1 else 0)) ∧ w = w' := by
  cases b with
  | true =>
    go_enter Tryd.func24, Tryd.ntmps24
    go_wp2
    go_ret
    exact ⟨rfl, rfl⟩
  | false =>
    go_enter Tryd.func24, Tryd.ntmps24
    go_wp2
    go_ret
    exact ⟨rfl, rfl⟩
theorem agesR_calls (a : Option Addr) (n c : Nat) (l : List Int) (B : Nat) (w : World) (hr : RowI w B a n c l) :
    Calls Tryd.prog 27 #[.slice a n c] w fun e w' => e = .returned (.bool (agesOk l)) ∧ w = w' := by
  have hn := hr.row.small
  have HR := hid hr
  have HN := hid hr.len
  clear hr
  by_cases h1 : n < 1
  · have hz : agesOk l = false := by rw [Bool.eq_false_iff]; intro ho; have := (agesOk_iff.1 ho).1; rw [HN.out] at this; omega
    rw [hz]
    clear hz
    go_enter Tryd.func27, Tryd.ntmps27
    go_wp2
    go_ret
    exact ⟨rfl, rfl⟩
  by_cases h6 : 6 < n
  · have hz : agesOk l = false := by rw [Bool.eq_false_iff]; intro ho; have := (agesOk_iff.1 ho).1; rw [HN.out] at this; omega
    rw [hz]
    clear hz
    go_enter Tryd.func27, Tryd.ntmps27
    go_wp2
    go_ret
    exact ⟨by first | rfl | (congr 2; simp; omega) | (congr 1; simp; omega) | (simp; omega), rfl⟩
  · go_enter Tryd.func27, Tryd.ntmps27
    go_wp2
    go_loopw [3] (fun i wr => ∃ k : Nat, k ≤ n ∧ i = .int .i64 k ∧ Hid (∀ d ∈ l.take k, 0 ≤ d ∧ d ≤ 201) ∧ wr = w) (fun i _ => n - (intOf i).toNat)
    case atStart => exact ⟨0, by omega, rfl, fun d hd => by simp at hd, rfl⟩
    case round =>
      obtain ⟨k, hk, rfl, HT, rfl⟩ := hrel
      by_cases hlt : k < n
      · obtain ⟨b, off, d, rfl, _, hl1, hc, hd, hd'⟩ := HR.out.at_ hlt
        have HL1 := hid hl1
        clear hl1
        by_cases hd0 : d < 0
        · have hz : agesOk l = false := by
            rw [Bool.eq_false_iff]; intro ho
            have := (agesOk_iff.1 ho).2 d (List.mem_of_getElem? HL1.out); omega
          have HZ := hid hz
          clear hz
          go_wp2
          go_ret
          exact ⟨by rw [HZ.out]; first | rfl | (congr 2; simp; omega) | (congr 1; simp; omega), rfl⟩
        by_cases hd1 : 201 < d
        · have hz : agesOk l = false := by
            rw [Bool.eq_false_iff]; intro ho
            have := (agesOk_iff.1 ho).2 d (List.mem_of_getElem? HL1.out); omega
          have HZ := hid hz
          clear hz
          go_wp2
          go_ret
          exact ⟨by rw [HZ.out]; first | rfl | (congr 2; simp; omega) | (congr 1; simp; omega), rfl⟩
        · go_wp2
          go_roundw
          case rel =>
            refine ⟨k + 1, by omega, by go_num, ?_, by first | trivial | rfl⟩
            refine hid ?_
            intro y hy
            rw [List.take_add_one, HL1.out] at hy
            rcases List.mem_append.1 hy with h | h
            · exact HT.out y h
            · obtain rfl : y = d := by simpa using h
              omega
          case measure => simp [intOf]; omega
      · obtain rfl : k = n := by omega
        have hz : agesOk l = true := by
          refine agesOk_iff.2 ⟨by rw [HN.out]; omega, ?_⟩
          have := HT.out
          rwa [List.take_of_length_le (by rw [HN.out]; exact Nat.le_refl _)] at this
        have HZ := hid hz
        clear hz
        go_wp2
        go_ret
        exact ⟨by rw [HZ.out]; first | rfl | (congr 2; simp; omega) | (congr 1; simp; omega), rfl⟩
end Go.Proofs.YtliejllegabdnaaDoor.Fr
