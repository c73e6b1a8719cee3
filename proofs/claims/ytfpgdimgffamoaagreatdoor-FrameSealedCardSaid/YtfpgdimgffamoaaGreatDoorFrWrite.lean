/- A writer of fields (frame.writer): what each of its calls adds, and whether all has fitted so far; nothing that lies ahead of the writer is turned. -/
import Derived.Test.YtfpgdimgffamoaaGreatDoorWrMade
import Derived.Test.YtfpgdimgffamoaaGreatDoorSmE
import Derived.Test.YtfpgdimgffamoaaGreatDoorFrVal
namespace Go.Proofs.YtfpgdimgffamoaaGreatDoor.Fr
open Go.ChangeShapes Go.WideShapes Go.ChangeAt Go.RowKit Go.Proofs.YtfpgdimgffamoaaGreatDoor.Sm Go.Proofs.YtfpgdimgffamoaaGreatDoor.Wr
set_option maxHeartbeats 400000
set_option maxRecDepth 100000

/-- Block h holds a writer that has written l; u: something did not fit. -/
def Wt (w : World) (h : Nat) (l : List UInt8) (u : Bool) : Prop :=
  ∃ v, Ob w h 103 [v, .bool u] ∧ w.ownsRow (h + 1) 5 1 v l.length (cells8 l)
theorem Wt.lt {w : World} {h : Nat} {l : List UInt8} {u : Bool} (hw : Wt w h l u) : h < w.heap.size := by
  obtain ⟨v, h1, _⟩ := hw
  exact h1.lt
theorem owns_below {w w' : World} {base : Nat} {e : TypeId} {z : Nat} {v : Value} {n : Nat} {xs : List Value} (h : w.ownsRow base e z v n xs) (hb : Below w.heap.size w w') : w'.ownsRow base e z v n xs := by
  refine ⟨h.1, ?_⟩
  rcases h.2 with h2 | ⟨k, cap, cur, hv, hk, hh, r⟩
  · exact Or.inl h2
  · exact Or.inr ⟨k, cap, cur, hv, hk, (hb.block k (Array.getElem?_eq_some_iff.1 hh).1).trans hh, r⟩
theorem Wt.later {w w' : World} {h : Nat} {l : List UInt8} {u : Bool} (hw : Wt w h l u) (hb : Below w.heap.size w w') : Wt w' h l u := by
  obtain ⟨v, h1, h2⟩ := hw
  exact ⟨v, h1.below hb h1.lt, owns_below h2 hb⟩
/-- a call of a writer returns nothing; what it did. -/
def RetW (w : World) (h : Nat) (l : List UInt8) (u : Bool) (e : Ending) (w' : World) : Prop := e = .returned (.tuple #[]) ∧ Wt w' h l u ∧ Below h w w'

theorem put_calls (h : Nat) (l : List UInt8) (u : Bool) (a : Option Addr) (n c : Nat) (k : List UInt8) (ok : Bool) (w : World) (hw : Wt w h l u) (hr : Row8 w w.heap.size a n c k) (hn : n ≤ 4000) (hl : l.length ≤ 4000) :
    Calls Tryz.prog 59 #[.pointer (some ⟨h, 0, none⟩), .slice a n c, .bool ok] w fun e w' => RetW w h (l ++ k) (u || !ok) e w' := by
  obtain ⟨i0, hi0, hz0, hz1, hz2⟩ := info_parts byte_info
  obtain ⟨v, ho, hown⟩ := hw
  have hlt := ho.lt
  have HO := hid ho
  have HW := hid hown
  have HR := hid hr
  have c0 := ho.cell (i := 0) rfl
  clear ho hown hr
  go_enter Tryz.func59, Tryz.ntmps59
  go_wp2_with (at_builtin; refine stop ?_)
  unfold Stop
  refine wpList_append_row _ rfl _ _ _ rfl (h + 1) 5 i0 _ Tryz.underlying22 hi0 hz0 hz1 hz2 rfl _ l rfl HW.out _ _ n c k rfl HR.out (by omega) (by omega) ?_
  intro v' w' hown' hgrow hltb
  obtain ⟨a', c', rfl, _⟩ := owns_slice hown'
  obtain ⟨N, hN⟩ : ∃ N, (l ++ k).length = N := ⟨_, rfl⟩
  rw [hN] at hown' ⊢
  have HNN := hid hN
  clear hN
  have hb1 : Below (h + 1) w w' := (Below.refl _ _).grown hgrow (by omega) hltb
  have ho1 : Ob w' h _ _ := HO.out.below hb1 (by omega)
  have HO1 := hid ho1
  have HW1 := hid hown'
  have c1 := ho1.cell (i := 1) rfl
  have c0' := ho1.cell (i := 0) rfl
  have f0 := ho1.frozen 0
  have f1 := ho1.frozen 1
  clear ho1 hown' hgrow hltb HO HW HR c0
  cases u with
  | true =>
    go_wp2
    go_end0
    refine ⟨rfl, ⟨_, ?_, by rw [HNN.out]; exact ownsRow_setCell_below (ownsRow_setCell_below HW1.out (by show h < h + 1; omega) _) (by show h < h + 1; omega) _⟩, ((hb1.mono (Nat.le_succ h)).setCell (Nat.le_refl _) _).setCell (Nat.le_refl _) _⟩
    exact (HO1.out.set 0 _).set 1 _
  | false =>
    go_wp2
    go_end0
    refine ⟨rfl, ⟨_, ?_, by rw [HNN.out]; exact ownsRow_setCell_below (ownsRow_setCell_below HW1.out (by show h < h + 1; omega) _) (by show h < h + 1; omega) _⟩, ((hb1.mono (Nat.le_succ h)).setCell (Nat.le_refl _) _).setCell (Nat.le_refl _) _⟩
    exact (HO1.out.set 0 _).set 1 _
theorem plainL_le (n k : Int) (hk : k ≤ 7) : (plainL n k).length ≤ 7 := by
  unfold plainL
  split
  · rw [be_length]; omega
  · simp
theorem wplain_calls (h : Nat) (l : List UInt8) (u : Bool) (n k : Int) (hk : k ≤ 7) (w : World) (hw : Wt w h l u) (hl : l.length ≤ 4000) :
    Calls Tryz.prog 55 #[.pointer (some ⟨h, 0, none⟩), .int .i64 n, .int .i64 k] w fun e w' => RetW w h (l ++ plainL n k) (u || !plainB n k) e w' := by
  have HW := hid hw
  clear hw
  go_enter Tryz.func55, Tryz.ntmps55
  go_wp2_with (go_at_call 76; refine stop ?_)
  unfold Stop
  refine (plain_calls n k w).mono ?_
  rintro e w1 ⟨v, rfl, hm⟩
  obtain ⟨a, c, rfl, hr, hb⟩ := hm.slice
  have HR := hid hr
  have HB := hid hb
  clear hm hr hb
  go_wp2_with (go_at_call 59; refine stop ?_)
  unfold Stop
  refine (put_calls h l u a _ c (plainL n k) (plainB n k) w1 (HW.out.later HB.out) HR.out (Nat.le_trans (plainL_le n k hk) (by decide)) hl).mono ?_
  rintro e w2 ⟨rfl, hw2, hb2⟩
  go_wp2
  go_end0
  exact ⟨rfl, hw2, (HB.out.mono (Nat.le_of_lt HW.out.lt)).trans hb2⟩
theorem wflag_calls (h : Nat) (l : List UInt8) (u : Bool) (v : Bool) (w : World) (hw : Wt w h l u) (hl : l.length ≤ 4000) :
    Calls Tryz.prog 58 #[.pointer (some ⟨h, 0, none⟩), .bool v] w fun e w' => RetW w h (l ++ be v.toNat 1) u e w' := by
  cases v with
  | true =>
    have hc := wplain_calls h l u 1 1 (by omega) w hw hl
    rw [show plainL 1 1 = be 1 1 by decide, show plainB 1 1 = true by decide, Bool.not_true, Bool.or_false] at hc
    have HC := hid hc
    clear hc hw
    go_enter Tryz.func58, Tryz.ntmps58
    go_wp2_with (go_at_call 55; refine stop ?_)
    unfold Stop
    refine (HC.out).mono ?_
    rintro e w2 ⟨rfl, hw2, hb2⟩
    go_wp2
    go_end0
    exact ⟨rfl, hw2, hb2⟩
  | false =>
    have hc := wplain_calls h l u 0 1 (by omega) w hw hl
    rw [show plainL 0 1 = be 0 1 by decide, show plainB 0 1 = true by decide, Bool.not_true, Bool.or_false] at hc
    have HC := hid hc
    clear hc hw
    go_enter Tryz.func58, Tryz.ntmps58
    go_wp2_with (go_at_call 55; refine stop ?_)
    unfold Stop
    refine (HC.out).mono ?_
    rintro e w2 ⟨rfl, hw2, hb2⟩
    go_wp2
    go_end0
    exact ⟨rfl, hw2, hb2⟩
theorem linked_calls (k : Int) (w : World) : Calls Tryz.prog 56 #[.int .i64 k] w fun e w' => e = .returned (.bool (decide (k = 3 ∨ k = 4 ∨ k = 5))) ∧ w = w' := by
  by_cases h3 : k = 3
  · subst h3
    go_enter Tryz.func56, Tryz.ntmps56
    go_wp2
    go_ret
    exact ⟨rfl, rfl⟩
  by_cases h4 : k = 4
  · subst h4
    go_enter Tryz.func56, Tryz.ntmps56
    go_wp2
    go_ret
    exact ⟨rfl, rfl⟩
  by_cases h5 : k = 5
  · subst h5
    go_enter Tryz.func56, Tryz.ntmps56
    go_wp2
    go_ret
    exact ⟨rfl, rfl⟩
  have e3 : (k == 3) = false := by simpa using h3
  have e4 : (k == 4) = false := by simpa using h4
  have e5 : (k == 5) = false := by simpa using h5
  rw [decide_eq_false (by omega)]
  clear h3 h4 h5
  go_enter Tryz.func56, Tryz.ntmps56
  go_wp2
  go_ret
  exact ⟨rfl, rfl⟩
/-- ages: as many as told, and each. -/
def agesW (l : List Int) : Bool := plainB l.length 1 && l.all fun a => plainB a 1
def agesL (l : List Int) : List UInt8 := l.flatMap fun a => plainL a 1
/-- what a call wrote, if all did fit. -/
def RetV (w : World) (h : Nat) (l : List UInt8) (u : Bool) (k : List UInt8) (ok : Bool) (e : Ending) (w' : World) : Prop :=
  e = .returned (.tuple #[]) ∧ (∃ l' u', Wt w' h l' u' ∧ u' = (u || !ok) ∧ (u' = false → l' = l ++ k) ∧ l'.length ≤ l.length + 2000) ∧ Below h w w'
theorem wages_calls (h : Nat) (l : List UInt8) (u : Bool) (a : Option Addr) (n c : Nat) (g : List Int) (B : Nat) (w : World) (hw : Wt w h l u) (hr : RowI w B a n c g) (hB : B ≤ h) (hl : l.length ≤ 1000) :
    Calls Tryz.prog 57 #[.pointer (some ⟨h, 0, none⟩), .slice a n c] w fun e w' => RetV w h l u (be g.length 1 ++ agesL g) (agesW g) e w' := by
  have hlen := hr.len
  have hsm := hr.row.small
  have HR := hid hr
  have HW := hid hw
  have HN := hid hlen
  clear hr hw hlen
  go_enter Tryz.func57, Tryz.ntmps57
  go_wp2_with (go_at_call 55; refine stop ?_)
  unfold Stop
  refine (wplain_calls h l u n 1 (by omega) w HW.out (by omega)).mono ?_
  rintro e w1 ⟨rfl, hw1, hb1⟩
  have hl1 := plainL_le (n : Int) 1 (by omega)
  have HL1 := hid hl1
  obtain ⟨v1, ho1, hown1⟩ := id hw1
  have c1 := ho1.cell (i := 1) rfl
  have HW1 := hid hw1
  have HB1 := hid hb1
  clear hw1 hb1 hl1 ho1 hown1 HW
  cases hu : (u || !plainB n 1) with
  | true =>
    rw [hu] at c1
    have HU := hid hu
    clear hu
    go_wp2
    (try simp only [Exit.inBlock, Exit.then])
    refine bodyPost_ret (results_none rfl _ _ _) rfl ?_
    refine ⟨rfl, ⟨_, _, HW1.out, ?_, fun hf => ?_, ?_⟩, HB1.out⟩
    · rw [HU.out]
      unfold agesW
      have := HU.out
      rw [HN.out]
      cases u with
      | true => rfl
      | false =>
        have h2 : plainB n 1 = false := by simpa using this
        rw [h2]; rfl
    · rw [HU.out] at hf; cases hf
    · rw [List.length_append]; have := HL1.out; omega
  | false =>
    rw [hu] at c1
    have hu2 : u = false ∧ plainB n 1 = true := by simpa using hu
    obtain ⟨rfl, hp⟩ := hu2
    have hn255 : n ≤ 255 := by
      have := of_decide_eq_true (show decide _ = true from hp)
      have h2 : (256 : Int) ^ (1 : Int).toNat = 256 := by decide
      rw [h2] at this
      omega
    have HP := hid hp
    have HU := hid hu
    clear hu hp
    go_wp2
    go_loopw [16] (fun i wr => ∃ k : Nat, k ≤ n ∧ i = .int .i64 k ∧ Hid (Wt wr h (l ++ (plainL n 1 ++ agesL (g.take k))) (!(g.take k).all fun a => plainB a 1)) ∧ Hid ((agesL (g.take k)).length ≤ 7 * k) ∧ Hid (Below h w wr)) (fun i _ => n - (intOf i).toNat)
    case atStart =>
      refine ⟨0, by omega, rfl, ?_, by simp [agesL, hid], HB1⟩
      have := HW1.out
      rw [HU.out] at this
      exact hid (by simpa [agesL] using this)
    case round =>
      clear HW1 c1
      obtain ⟨k, hk, rfl, HK, HLn, Hb⟩ := hrel
      by_cases hlt : k < n
      · obtain ⟨b, off, d, rfl, _, hd1, hd2, _, _⟩ := (HR.out.below (Hb.out.mono hB)).at_ hlt
        have HD := hid hd1
        clear hd1
        go_wp2_with (go_at_call 55; refine stop ?_)
        unfold Stop
        refine (wplain_calls h _ _ d 1 (by omega) wr HK.out (by have h1 := HLn.out; have h2 := HL1.out; simp only [List.length_append]; omega)).mono ?_
        rintro e w3 ⟨rfl, hw3, hb3⟩
        have hl3 := plainL_le d 1 (by omega)
        have HW3 := hid hw3
        have HL3 := hid hl3
        have HB3 := hid hb3
        clear hw3 hb3 hl3
        go_wp2
        go_roundw
        case rel =>
          have ht : g.take (k + 1) = g.take k ++ [d] := by rw [List.take_add_one, HD.out]; rfl
          refine ⟨k + 1, by omega, by go_num, ?_, ?_, Hb.out.trans HB3.out⟩
          · have := HW3.out
            rw [ht]
            exact hid (by simpa [agesL, List.append_assoc] using this)
          · rw [ht]
            have h1 := HLn.out
            have h2 := HL3.out
            show (agesL (g.take k ++ [d])).length ≤ 7 * (k + 1)
            simp only [agesL, List.flatMap_append, List.length_append, List.flatMap_cons, List.flatMap_nil, List.append_nil] at h1 ⊢
            omega
        case measure => simp [intOf]; omega
      · obtain rfl : k = n := by omega
        have hg : g.take k = g := List.take_of_length_le (by rw [HN.out]; omega)
        have HG := hid hg
        clear hg
        go_wp2
        (try simp only [Exit.inBlock, Exit.then])
        refine bodyPost_end (results_none rfl _ _ _) rfl ?_
        have hW := HK.out
        have hLn := HLn.out
        rw [HG.out] at hW hLn
        have hp1 : plainL k 1 = be g.length 1 := by
          unfold plainL
          rw [if_pos HP.out, HN.out]
          rfl
        have hl1 := HL1.out
        rw [hp1] at hW hl1
        refine ⟨rfl, ⟨_, _, hW, ?_, fun _ => rfl, ?_⟩, Hb.out⟩
        · unfold agesW
          rw [HN.out, HP.out]
          rfl
        · simp only [List.length_append]
          omega
/-- bytes behind their number. -/
theorem wbody_calls (h : Nat) (l : List UInt8) (u : Bool) (a : Option Addr) (n c : Nat) (k : List UInt8) (B : Nat) (w : World) (hw : Wt w h l u) (hr : Row8 w B a n c k) (hB : B ≤ h) (hl : l.length ≤ 1000) :
    Calls Tryz.prog 61 #[.pointer (some ⟨h, 0, none⟩), .slice a n c] w fun e w' => RetV w h l u (be k.length 1 ++ k) (plainB k.length 1) e w' := by
  obtain ⟨i0, hi0, hz0, hz1, hz2⟩ := info_parts byte_info
  have hlen := hr.len
  have hsm : n ≤ 9223372036854775807 := by have h1 := hr.room; have h2 := hr.cap; unfold maxLen at h2; omega
  have HR := hid hr
  have HW := hid hw
  have HN := hid hlen
  have hlt := hw.lt
  clear hr hw hlen
  go_enter Tryz.func61, Tryz.ntmps61
  go_wp2_with (go_at_call 55; refine stop ?_)
  unfold Stop
  refine (wplain_calls h l u n 1 (by omega) w HW.out (by omega)).mono ?_
  rintro e w1 ⟨rfl, hw1, hb1⟩
  have hl1 := plainL_le (n : Int) 1 (by omega)
  have HL1 := hid hl1
  have HB1 := hid hb1
  have HW1 := hid hw1
  obtain ⟨v1, ho1, hown1⟩ := hw1
  have c1 := ho1.cell (i := 1) rfl
  have c0 := ho1.cell (i := 0) rfl
  cases hu : (u || !plainB n 1) with
  | true =>
    rw [hu] at c1
    have HU := hid hu
    clear hu hb1 hl1 ho1 hown1 HW c0
    go_wp2
    (try simp only [Exit.inBlock, Exit.then])
    refine bodyPost_ret (results_none rfl _ _ _) rfl ?_
    refine ⟨rfl, ⟨_, _, HW1.out, ?_, fun hf => ?_, ?_⟩, HB1.out⟩
    · rw [HN.out]
    · rw [HU.out] at hf; cases hf
    · rw [List.length_append]; have := HL1.out; omega
  | false =>
    rw [hu] at c1
    have hu2 : u = false ∧ plainB n 1 = true := by simpa using hu
    obtain ⟨rfl, hp⟩ := hu2
    have hn255 : n ≤ 255 := by
      have := of_decide_eq_true (show decide _ = true from hp)
      have h2 : (256 : Int) ^ (1 : Int).toNat = 256 := by decide
      rw [h2] at this
      omega
    have HP := hid hp
    have HU := hid hu
    have HO1 := hid ho1
    have HWn := hid hown1
    have hlt1 := ho1.lt
    clear hu hp hb1 hl1 ho1 hown1 HW HW1
    go_wp2_with (at_builtin; refine stop ?_)
    unfold Stop
    refine wpList_append_row _ rfl _ _ _ rfl (h + 1) 5 i0 _ Tryz.underlying22 hi0 hz0 hz1 hz2 rfl _ (l ++ plainL n 1) rfl HWn.out _ _ n c k rfl (HR.out.below (HB1.out.mono hB)) (by have := HL1.out; rw [List.length_append]; omega) (by omega) ?_
    intro v' w' hown' hgrow hltb
    obtain ⟨a', c', rfl, _⟩ := owns_slice hown'
    obtain ⟨N, hN⟩ : ∃ N, (l ++ plainL n 1 ++ k).length = N := ⟨_, rfl⟩
    rw [hN] at hown' ⊢
    have HNN := hid hN
    clear hN
    have hb2 : Below (h + 1) w1 w' := (Below.refl _ _).grown hgrow (by omega) hltb
    have ho2 : Ob w' h _ _ := HO1.out.below hb2 (by omega)
    have HO2 := hid ho2
    have HW2 := hid hown'
    have d0 := ho2.cell (i := 0) rfl
    have f0 := ho2.frozen 0
    clear ho2 hown' hgrow hltb HO1 HWn c0 c1
    go_wp2
    (try simp only [Exit.inBlock, Exit.then])
    refine bodyPost_end (results_none rfl _ _ _) rfl ?_
    have hp1 : plainL n 1 = be k.length 1 := by
      unfold plainL
      rw [if_pos HP.out, HN.out]
      rfl
    refine ⟨rfl, ⟨_, _, ⟨_, HO2.out.set 0 _, by rw [HNN.out]; exact ownsRow_setCell_below HW2.out (by show h < h + 1; omega) _⟩, ?_, fun _ => ?_, ?_⟩, HB1.out.trans ((hb2.mono (Nat.le_succ h)).setCell (Nat.le_refl _) _)⟩
    · rw [HU.out, HN.out, HP.out]; rfl
    · rw [hp1, List.append_assoc]
    · have := HL1.out
      have := HN.out
      simp only [List.length_append]
      omega
end Go.Proofs.YtfpgdimgffamoaaGreatDoor.Fr
