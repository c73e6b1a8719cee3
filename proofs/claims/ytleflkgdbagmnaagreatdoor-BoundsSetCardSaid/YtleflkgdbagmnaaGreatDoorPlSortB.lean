/- The insertion sort of ports. -/
import Derived.Test.YtleflkgdbagmnaaGreatDoorPlSort
import Derived.Test.YtleflkgdbagmnaaGreatDoorDpNext
namespace Go.Proofs.YtleflkgdbagmnaaGreatDoor.Pl
open Go.RowKit Go.Proofs.YtleflkgdbagmnaaGreatDoor.Sm Go.Proofs.YtleflkgdbagmnaaGreatDoor.Dp
set_option maxHeartbeats 4000000
set_option maxRecDepth 100000
set_option linter.unusedVariables false
set_option linter.unusedSimpArgs false
/-- the first k stand by rising nodes. -/
def Srt (ys : List Port) (k : Nat) : Prop := ∀ a b, a < b → b < k → (ys.getD a default).node ≤ (ys.getD b default).node
/-- but for the one at j, which is less than all behind it. -/
def But (ys : List Port) (i j : Nat) : Prop := (∀ a b, a < b → b ≤ i → a ≠ j → b ≠ j → (ys.getD a default).node ≤ (ys.getD b default).node) ∧ ∀ b, j < b → b ≤ i → (ys.getD j default).node ≤ (ys.getD b default).node
theorem but_first {ys : List Port} {i : Nat} (h : Srt ys i) : But ys i i := ⟨fun a b hab hb ha hbi => h a b hab (by omega), fun b h1 h2 => by omega⟩
theorem but_last {ys : List Port} {i j : Nat} (h : But ys i j) (hj : ¬ (0 < j ∧ (ys.getD j default).node < (ys.getD (j - 1) default).node)) : Srt ys (i + 1) := by
  intro a b hab hb
  by_cases h1 : a = j
  · subst h1; exact h.2 b hab (by omega)
  · by_cases h2 : b = j
    · subst h2
      have h3 : ¬ (ys.getD b default).node < (ys.getD (b - 1) default).node := fun h => hj ⟨by omega, h⟩
      by_cases h4 : a = b - 1
      · subst h4; omega
      · have := h.1 a (b - 1) (by omega) (by omega) h1 (by omega)
        omega
    · exact h.1 a b hab (by omega) h1 h2
theorem but_step {ys : List Port} {i j : Nat} (hj : 0 < j) (hji : j ≤ i) (hi : i < ys.length) (h : But ys i j) (hlt : (ys.getD j default).node < (ys.getD (j - 1) default).node) : But ((ys.set j (ys.getD (j - 1) default)).set (j - 1) (ys.getD j default)) i (j - 1) := by
  have g : ∀ k, ((ys.set j (ys.getD (j - 1) default)).set (j - 1) (ys.getD j default)).getD k default = if k = j - 1 then ys.getD j default else if k = j then ys.getD (j - 1) default else ys.getD k default := fun k => by
    rw [getD_set (hi := by rw [List.length_set]; omega), getD_set (hi := by omega)]
  refine ⟨fun a b hab hb ha hbj => ?_, fun b h1 h2 => ?_⟩
  · rw [g, g, if_neg ha, if_neg hbj]
    by_cases h1 : a = j
    · rw [if_pos h1, if_neg (by omega)]; exact h.1 _ b (by omega) hb (by omega) (by omega)
    · rw [if_neg h1]
      by_cases h2 : b = j
      · rw [if_pos h2]; exact h.1 a _ (by omega) (by omega) h1 (by omega)
      · rw [if_neg h2]; exact h.1 a b hab hb h1 h2
  · rw [g, g, if_pos rfl, if_neg (by omega)]
    by_cases h3 : b = j
    · rw [if_pos h3]; omega
    · rw [if_neg h3]; exact h.2 b (by omega) h2
theorem swap_perm {ys : List Port} {j : Nat} (hj : 0 < j) (hi : j < ys.length) : ((ys.set j (ys.getD (j - 1) default)).set (j - 1) (ys.getD j default)).Perm ys := by
  have e1 : ys.getD (j - 1) default = ys[j - 1]'(by omega) := by simp [List.getD_eq_getElem?_getD, List.getElem?_eq_getElem (show j - 1 < ys.length by omega)]
  have e2 : ys.getD j default = ys[j]'hi := by simp [List.getD_eq_getElem?_getD, List.getElem?_eq_getElem hi]
  rw [e1, e2]
  exact List.set_set_perm hi (by omega)
theorem wrapm (j : Nat) (h : 0 < j) (hb : j < 4611686018427387904) : IntKind.i64.wrap ((j : Int) - 1) = ((j - 1 : Nat) : Int) := by rw [Ev.wrap_i64 (by omega) (by omega)]; omega
theorem but_exit {zs : List Port} {q : Nat} (hz : ¬ ((q : Int) > 0) ∨ ¬ (zs.getD q default).node < (zs.getD (IntKind.i64.wrap ((q : Int) - 1)).toNat default).node) (hj : 0 < q → IntKind.i64.wrap ((q : Int) - 1) = ((q - 1 : Nat) : Int)) : ¬ (0 < q ∧ (zs.getD q default).node < (zs.getD (q - 1) default).node) := by
  rintro ⟨h1, h2⟩
  rcases hz with h | h
  · omega
  · rw [hj h1] at h; exact h h2
theorem insertionSort_pm (xs : List Port) (n : Nat) (hx : xs.length = n) (hn : n ≤ 12) : PM Tryz.prog [] 93 [D.h 0 n, I 0, I (n : Int), D.v (.func (.func 87) #[] #[])] (Obj.row 117 4 n (fun j => [I ((xs.getD j default).node), I ((xs.getD j default).link), I ((xs.getD j default).gate), I ((xs.getD j default).side)])) (fun d ob => d = D.t [] ∧ ∃ ys : List Port, ob = Obj.row 117 4 n (fun j => [I ((ys.getD j default).node), I ((ys.getD j default).link), I ((ys.getD j default).gate), I ((ys.getD j default).side)]) ∧ ys.Perm xs ∧ Srt ys n) := by
 refine PM.of (N := 53) Tryz.func93 rfl rfl (Nat.le_of_ble_eq_true rfl) ?_
 refine PW.sr [0, 1, 2, 3, 8] 1 trivial ?_
 refine PW.block ?_
 refine PW.lp (α := Nat × List Port) (fun (i, ys) => { tab := [⟨0, [], D.h 0 n⟩, ⟨1, [], I 0⟩, ⟨2, [], I (n : Int)⟩, ⟨3, [], D.v (.func (.func 87) #[] #[])⟩, ⟨8, [], I (i : Int)⟩], mem := [Obj.row 117 4 n (fun j => [I ((ys.getD j default).node), I ((ys.getD j default).link), I ((ys.getD j default).gate), I ((ys.getD j default).side)])], fx := 1 }) (fun (i, ys) => 1 ≤ i ∧ i ≤ n + 1 ∧ ys.Perm xs ∧ Srt ys i) (fun (i, ys) => n + 1 - i) [0, 1, 2, 3, 8] 1 (1, xs) ?_ ?_
 ·dsimp only
  exact ⟨Nat.le_refl _, by omega, .refl _, fun a b h1 h2 => by omega⟩
 rintro ⟨i, ys⟩ hinv
 dsimp only at hinv
 have hyl : ys.length = n := hinv.2.2.1.length_eq.trans hx
 show PW _ _ _ _ _
 refine PW.seq ?_
 refine PW.sr [0, 1, 2, 3, 8, 14] 1 trivial ?_
 refine PW.cd (decide ((i : Int) < (n : Int))) (fun hz0 => ?_) (fun hz0 => ?_)
 ·try simp only [boolS, cmpI_lt] at hz0
  refine PW.skip ?_
  show PW _ _ _ _ _
  refine PW.seq ?_
  refine PW.block ?_
  refine PW.sr [0, 1, 2, 3, 8, 9] 1 trivial ?_
  refine PW.block ?_
  refine PW.lp (α := Nat × List Port) (fun (q, zs) => { tab := [⟨0, [], D.h 0 n⟩, ⟨1, [], I 0⟩, ⟨2, [], I (n : Int)⟩, ⟨3, [], D.v (.func (.func 87) #[] #[])⟩, ⟨8, [], I (i : Int)⟩, ⟨9, [], I (q : Int)⟩], mem := [Obj.row 117 4 n (fun j => [I ((zs.getD j default).node), I ((zs.getD j default).link), I ((zs.getD j default).gate), I ((zs.getD j default).side)])], fx := 1 }) (fun (q, zs) => q ≤ i ∧ zs.Perm ys ∧ But zs i q) (fun (q, zs) => q) [0, 1, 2, 3, 8, 9] 1 (i, ys) ?_ ?_
  ·dsimp only
   exact ⟨Nat.le_refl _, .refl _, but_first hinv.2.2.2⟩
  rintro ⟨q, zs⟩ hk
  dsimp only at hk
  have hzl : zs.length = n := hk.2.1.length_eq.trans hyl
  have hj : 0 < q → IntKind.i64.wrap ((q : Int) - 1) = ((q - 1 : Nat) : Int) := fun h => wrapm q h (by omega)
  show PW _ _ _ _ _
  refine PW.seq ?_
  refine PW.seq ?_
  refine PW.open [] (by kernel_rfl) ?_
  refine PO.tk [0, 1, 2, 3, 4, 5, 6, 7, 8, 9, 10, 11, 12, 13] 17 [0, 1, 2, 3, 8, 9, 21, 22, 26, 31] 3 (p := (((decide ((q : Int) > (0 : Int))) = true ∧ True → 0 ≤ (q : Int) ∧ (q : Int) < (n : Int))) ∧ (((decide ((q : Int) > (0 : Int))) = true ∧ True → q < n)) ∧ (((decide ((q : Int) > (0 : Int))) = true ∧ True → 0 ≤ (IntKind.i64.wrap ((q : Int) - 1)) ∧ (IntKind.i64.wrap ((q : Int) - 1)) < (n : Int))) ∧ (((decide ((q : Int) > (0 : Int))) = true ∧ True → (IntKind.i64.wrap ((q : Int) - 1)).toNat < n))) (by ((repeat' (first | intro _ | refine And.intro ?_ ?_)) <;> first | omega | trivial | assumption | (rename_i hgd; simp only [Bool.and_eq_true, decide_eq_true_eq, and_true] at hgd; omega))) (fun _ _ h => h) ?_
  refine PO.one (n := 2) 14 (by kernel_rfl) ?_
  refine PO1.gc _ (A := [(21, true)]) (fun _ => portCmp_pc (zs.getD q default) (zs.getD ((IntKind.i64.wrap ((q : Int) - 1)).toNat) default)) ?_ rfl
  refine PO.tk [15, 16] 2 [0, 1, 2, 3, 8, 9, 34] 0 trivial (fun _ _ h => h) ?_
  refine PO.done (by kernel_rfl) ?_
  show PW _ _ _ _ _
  refine PW.cd ((decide ((q : Int) > (0 : Int))) && (decide ((cmpI (zs.getD q default).node (zs.getD ((IntKind.i64.wrap ((q : Int) - 1)).toNat) default).node) < (0 : Int)))) (fun hz1 => ?_) (fun hz1 => ?_)
  ·try simp only [boolS, cmpI_lt] at hz1
   refine PW.skip ?_
   show PW _ _ _ _ _
   refine PW.seq ?_
   refine PW.block ?_
   refine PW.open [0] (by kernel_rfl) ?_
   refine PO.tk [0, 1, 2, 3, 4, 5, 6, 7, 8, 10, 11, 12] 18 [0, 1, 2, 3, 8, 9, 37, 38, 39, 41, 45, 49] 6 (p := (0 ≤ (IntKind.i64.wrap ((q : Int) - 1)) ∧ (IntKind.i64.wrap ((q : Int) - 1)) < (n : Int)) ∧ (0 ≤ (q : Int) ∧ (q : Int) < (n : Int))) (by omega) (fun _ _ h => h) ?_
   refine PO.next (n := 5) [9, 13] (by kernel_rfl) (by simp) ?_
   intro i hi
   simp only [List.mem_cons, List.not_mem_nil, or_false] at hi
   rcases hi with rfl | rfl
   ·skip
    refine PO1.val [0, 1, 2, 3, 8, 9, 37, 38, 39, 41, 46, 49] 1 (s' := { tab := [⟨0, [], D.h 0 n⟩, ⟨1, [], I 0⟩, ⟨2, [], I (n : Int)⟩, ⟨3, [], D.v (.func (.func 87) #[] #[])⟩, ⟨8, [], I (i : Int)⟩, ⟨9, [], I (q : Int)⟩, ⟨37, [], D.h 0 n⟩, ⟨38, [], I (q : Int)⟩, ⟨39, [], D.h 0 n⟩, ⟨41, [], I (IntKind.i64.wrap ((q : Int) - 1))⟩, ⟨46, [], D.r [I ((zs.getD ((IntKind.i64.wrap ((q : Int) - 1)).toNat) default).node), I ((zs.getD ((IntKind.i64.wrap ((q : Int) - 1)).toNat) default).link), I ((zs.getD ((IntKind.i64.wrap ((q : Int) - 1)).toNat) default).gate), I ((zs.getD ((IntKind.i64.wrap ((q : Int) - 1)).toNat) default).side)]⟩, ⟨49, [], D.p 0 4 q 0⟩], mem := [Obj.row 117 4 n (fun j => [I ((zs.getD j default).node), I ((zs.getD j default).link), I ((zs.getD j default).gate), I ((zs.getD j default).side)])], fx := 1 }) (p := ((IntKind.i64.wrap ((q : Int) - 1)).toNat < n)) rfl (by kernel_rfl) (by kernel_rfl) (by kernel_rfl) (by kernel_rfl) (by kernel_rfl) (by kernel_rfl) (by kernel_rfl) (by kernel_rfl) (by ((repeat' (first | intro _ | refine And.intro ?_ ?_)) <;> first | omega | trivial | assumption | (rename_i hgd; simp only [Bool.and_eq_true, decide_eq_true_eq, and_true] at hgd; omega))) ?_
    refine PO.one (n := 4) 13 (by kernel_rfl) ?_
    refine PO1.val [0, 1, 2, 3, 8, 9, 37, 38, 39, 41, 46, 50] 1 (s' := { tab := [⟨0, [], D.h 0 n⟩, ⟨1, [], I 0⟩, ⟨2, [], I (n : Int)⟩, ⟨3, [], D.v (.func (.func 87) #[] #[])⟩, ⟨8, [], I (i : Int)⟩, ⟨9, [], I (q : Int)⟩, ⟨37, [], D.h 0 n⟩, ⟨38, [], I (q : Int)⟩, ⟨39, [], D.h 0 n⟩, ⟨41, [], I (IntKind.i64.wrap ((q : Int) - 1))⟩, ⟨46, [], D.r [I ((zs.getD ((IntKind.i64.wrap ((q : Int) - 1)).toNat) default).node), I ((zs.getD ((IntKind.i64.wrap ((q : Int) - 1)).toNat) default).link), I ((zs.getD ((IntKind.i64.wrap ((q : Int) - 1)).toNat) default).gate), I ((zs.getD ((IntKind.i64.wrap ((q : Int) - 1)).toNat) default).side)]⟩, ⟨50, [], D.r [I ((zs.getD q default).node), I ((zs.getD q default).link), I ((zs.getD q default).gate), I ((zs.getD q default).side)]⟩], mem := [Obj.row 117 4 n (fun j => [I ((zs.getD j default).node), I ((zs.getD j default).link), I ((zs.getD j default).gate), I ((zs.getD j default).side)])], fx := 1 }) (p := (q < n)) rfl (by kernel_rfl) (by kernel_rfl) (by kernel_rfl) (by kernel_rfl) (by kernel_rfl) (by kernel_rfl) (by kernel_rfl) (by kernel_rfl) (by ((repeat' (first | intro _ | refine And.intro ?_ ?_)) <;> first | omega | trivial | assumption | (rename_i hgd; simp only [Bool.and_eq_true, decide_eq_true_eq, and_true] at hgd; omega))) ?_
    refine PO.tk [14] 4 [0, 1, 2, 3, 8, 9, 39, 41, 46, 50, 51] 3 (p := (0 ≤ (q : Int) ∧ (q : Int) < (n : Int))) (by omega) (fun _ _ h => h) ?_
    refine PO.one (n := 2) 15 (by kernel_rfl) ?_
    refine PO1.mm rfl [0, 1, 2, 3, 8, 9, 39, 41, 50] 1 (p := (q < n)) (by omega) ?_
    refine PO.rm 0 (t := 117) (z := 4) (n := n) (fun j => if j = q then [I ((zs.getD ((IntKind.i64.wrap ((q : Int) - 1)).toNat) default).node), I ((zs.getD ((IntKind.i64.wrap ((q : Int) - 1)).toNat) default).link), I ((zs.getD ((IntKind.i64.wrap ((q : Int) - 1)).toNat) default).gate), I ((zs.getD ((IntKind.i64.wrap ((q : Int) - 1)).toNat) default).side)] else (fun j => [I ((zs.getD j default).node), I ((zs.getD j default).link), I ((zs.getD j default).gate), I ((zs.getD j default).side)]) j) (fun j => [I (((zs.set q (zs.getD ((IntKind.i64.wrap ((q : Int) - 1)).toNat) default)).getD j default).node), I (((zs.set q (zs.getD ((IntKind.i64.wrap ((q : Int) - 1)).toNat) default)).getD j default).link), I (((zs.set q (zs.getD ((IntKind.i64.wrap ((q : Int) - 1)).toNat) default)).getD j default).gate), I (((zs.set q (zs.getD ((IntKind.i64.wrap ((q : Int) - 1)).toNat) default)).getD j default).side)]) (fun j hj => by (try dsimp only); rw [getD_set (l := zs) (i := q) (v := (zs.getD ((IntKind.i64.wrap ((q : Int) - 1)).toNat) default)) (hi := (by (try simp only [List.length_set, List.length_replicate, List.length_append, List.length_cons, List.length_nil]) <;> omega))]; split <;> rfl) ?_
    refine PO.tk [16] 2 [0, 1, 2, 3, 8, 9, 50, 52] 1 (p := (0 ≤ (IntKind.i64.wrap ((q : Int) - 1)) ∧ (IntKind.i64.wrap ((q : Int) - 1)) < (n : Int))) (by omega) (fun _ _ h => h) ?_
    refine PO.one (n := 0) 17 (by kernel_rfl) ?_
    refine PO1.mm rfl [0, 1, 2, 3, 8, 9] 1 (p := ((IntKind.i64.wrap ((q : Int) - 1)).toNat < n)) (by omega) ?_
    refine PO.rm 0 (t := 117) (z := 4) (n := n) (fun j => if j = (IntKind.i64.wrap ((q : Int) - 1)).toNat then [I ((zs.getD q default).node), I ((zs.getD q default).link), I ((zs.getD q default).gate), I ((zs.getD q default).side)] else (fun j => [I (((zs.set q (zs.getD ((IntKind.i64.wrap ((q : Int) - 1)).toNat) default)).getD j default).node), I (((zs.set q (zs.getD ((IntKind.i64.wrap ((q : Int) - 1)).toNat) default)).getD j default).link), I (((zs.set q (zs.getD ((IntKind.i64.wrap ((q : Int) - 1)).toNat) default)).getD j default).gate), I (((zs.set q (zs.getD ((IntKind.i64.wrap ((q : Int) - 1)).toNat) default)).getD j default).side)]) j) (fun j => [I ((((zs.set q (zs.getD ((IntKind.i64.wrap ((q : Int) - 1)).toNat) default)).set ((IntKind.i64.wrap ((q : Int) - 1)).toNat) (zs.getD q default)).getD j default).node), I ((((zs.set q (zs.getD ((IntKind.i64.wrap ((q : Int) - 1)).toNat) default)).set ((IntKind.i64.wrap ((q : Int) - 1)).toNat) (zs.getD q default)).getD j default).link), I ((((zs.set q (zs.getD ((IntKind.i64.wrap ((q : Int) - 1)).toNat) default)).set ((IntKind.i64.wrap ((q : Int) - 1)).toNat) (zs.getD q default)).getD j default).gate), I ((((zs.set q (zs.getD ((IntKind.i64.wrap ((q : Int) - 1)).toNat) default)).set ((IntKind.i64.wrap ((q : Int) - 1)).toNat) (zs.getD q default)).getD j default).side)]) (fun j hj => by (try dsimp only); rw [getD_set (l := zs.set q (zs.getD ((IntKind.i64.wrap ((q : Int) - 1)).toNat) default)) (i := (IntKind.i64.wrap ((q : Int) - 1)).toNat) (v := (zs.getD q default)) (hi := (by (try simp only [List.length_set, List.length_replicate, List.length_append, List.length_cons, List.length_nil]) <;> omega))]; split <;> rfl) ?_
    refine PO.done (by kernel_rfl) ?_
    show PW _ _ _ _ _
    refine PW.rr [0, 1, 2, 3, 8, 9] 1 trivial ?_
    refine BackR.of (s1 := { tab := [⟨0, [], D.h 0 n⟩, ⟨1, [], I 0⟩, ⟨2, [], I (n : Int)⟩, ⟨3, [], D.v (.func (.func 87) #[] #[])⟩, ⟨8, [], I (i : Int)⟩, ⟨9, [], I (IntKind.i64.wrap ((q : Int) - 1))⟩], mem := [Obj.row 117 4 n (fun j => [I ((((zs.set q (zs.getD ((IntKind.i64.wrap ((q : Int) - 1)).toNat) default)).set ((IntKind.i64.wrap ((q : Int) - 1)).toNat) (zs.getD q default)).getD j default).node), I ((((zs.set q (zs.getD ((IntKind.i64.wrap ((q : Int) - 1)).toNat) default)).set ((IntKind.i64.wrap ((q : Int) - 1)).toNat) (zs.getD q default)).getD j default).link), I ((((zs.set q (zs.getD ((IntKind.i64.wrap ((q : Int) - 1)).toNat) default)).set ((IntKind.i64.wrap ((q : Int) - 1)).toNat) (zs.getD q default)).getD j default).gate), I ((((zs.set q (zs.getD ((IntKind.i64.wrap ((q : Int) - 1)).toNat) default)).set ((IntKind.i64.wrap ((q : Int) - 1)).toNat) (zs.getD q default)).getD j default).side)])], fx := 1 }) (q - 1, (zs.set q (zs.getD (q - 1) default)).set (q - 1) (zs.getD q default)) (by kernel_rfl) (by kernel_rfl) ?_ ?_ ?_
    ·dsimp only
     rw [hj (by omega)]
     exact Rem.refl _
    ·dsimp only
     have hq0 : 0 < q := by omega
     have hz2 := hz1.2
     rw [hj hq0] at hz2
     exact ⟨by omega, (swap_perm hq0 (by omega)).trans hk.2.1, but_step hq0 hk.1 (by omega) hk.2.2 hz2⟩
    ·dsimp only
     ((repeat' (first | intro _ | refine And.intro ?_ ?_)) <;> first | omega | trivial | assumption | (rename_i hgd; simp only [Bool.and_eq_true, decide_eq_true_eq, and_true] at hgd; omega))
   ·skip
    refine PO1.val [0, 1, 2, 3, 8, 9, 37, 38, 39, 41, 45, 50] 1 (s' := { tab := [⟨0, [], D.h 0 n⟩, ⟨1, [], I 0⟩, ⟨2, [], I (n : Int)⟩, ⟨3, [], D.v (.func (.func 87) #[] #[])⟩, ⟨8, [], I (i : Int)⟩, ⟨9, [], I (q : Int)⟩, ⟨37, [], D.h 0 n⟩, ⟨38, [], I (q : Int)⟩, ⟨39, [], D.h 0 n⟩, ⟨41, [], I (IntKind.i64.wrap ((q : Int) - 1))⟩, ⟨45, [], D.p 0 4 ((IntKind.i64.wrap ((q : Int) - 1)).toNat) 0⟩, ⟨50, [], D.r [I ((zs.getD q default).node), I ((zs.getD q default).link), I ((zs.getD q default).gate), I ((zs.getD q default).side)]⟩], mem := [Obj.row 117 4 n (fun j => [I ((zs.getD j default).node), I ((zs.getD j default).link), I ((zs.getD j default).gate), I ((zs.getD j default).side)])], fx := 1 }) (p := (q < n)) rfl (by kernel_rfl) (by kernel_rfl) (by kernel_rfl) (by kernel_rfl) (by kernel_rfl) (by kernel_rfl) (by kernel_rfl) (by kernel_rfl) (by ((repeat' (first | intro _ | refine And.intro ?_ ?_)) <;> first | omega | trivial | assumption | (rename_i hgd; simp only [Bool.and_eq_true, decide_eq_true_eq, and_true] at hgd; omega))) ?_
    refine PO.one (n := 4) 9 (by kernel_rfl) ?_
    refine PO1.val [0, 1, 2, 3, 8, 9, 37, 38, 39, 41, 46, 50] 1 (s' := { tab := [⟨0, [], D.h 0 n⟩, ⟨1, [], I 0⟩, ⟨2, [], I (n : Int)⟩, ⟨3, [], D.v (.func (.func 87) #[] #[])⟩, ⟨8, [], I (i : Int)⟩, ⟨9, [], I (q : Int)⟩, ⟨37, [], D.h 0 n⟩, ⟨38, [], I (q : Int)⟩, ⟨39, [], D.h 0 n⟩, ⟨41, [], I (IntKind.i64.wrap ((q : Int) - 1))⟩, ⟨46, [], D.r [I ((zs.getD ((IntKind.i64.wrap ((q : Int) - 1)).toNat) default).node), I ((zs.getD ((IntKind.i64.wrap ((q : Int) - 1)).toNat) default).link), I ((zs.getD ((IntKind.i64.wrap ((q : Int) - 1)).toNat) default).gate), I ((zs.getD ((IntKind.i64.wrap ((q : Int) - 1)).toNat) default).side)]⟩, ⟨50, [], D.r [I ((zs.getD q default).node), I ((zs.getD q default).link), I ((zs.getD q default).gate), I ((zs.getD q default).side)]⟩], mem := [Obj.row 117 4 n (fun j => [I ((zs.getD j default).node), I ((zs.getD j default).link), I ((zs.getD j default).gate), I ((zs.getD j default).side)])], fx := 1 }) (p := ((IntKind.i64.wrap ((q : Int) - 1)).toNat < n)) rfl (by kernel_rfl) (by kernel_rfl) (by kernel_rfl) (by kernel_rfl) (by kernel_rfl) (by kernel_rfl) (by kernel_rfl) (by kernel_rfl) (by ((repeat' (first | intro _ | refine And.intro ?_ ?_)) <;> first | omega | trivial | assumption | (rename_i hgd; simp only [Bool.and_eq_true, decide_eq_true_eq, and_true] at hgd; omega))) ?_
    refine PO.tk [14] 4 [0, 1, 2, 3, 8, 9, 39, 41, 46, 50, 51] 3 (p := (0 ≤ (q : Int) ∧ (q : Int) < (n : Int))) (by omega) (fun _ _ h => h) ?_
    refine PO.one (n := 2) 15 (by kernel_rfl) ?_
    refine PO1.mm rfl [0, 1, 2, 3, 8, 9, 39, 41, 50] 1 (p := (q < n)) (by omega) ?_
    refine PO.rm 0 (t := 117) (z := 4) (n := n) (fun j => if j = q then [I ((zs.getD ((IntKind.i64.wrap ((q : Int) - 1)).toNat) default).node), I ((zs.getD ((IntKind.i64.wrap ((q : Int) - 1)).toNat) default).link), I ((zs.getD ((IntKind.i64.wrap ((q : Int) - 1)).toNat) default).gate), I ((zs.getD ((IntKind.i64.wrap ((q : Int) - 1)).toNat) default).side)] else (fun j => [I ((zs.getD j default).node), I ((zs.getD j default).link), I ((zs.getD j default).gate), I ((zs.getD j default).side)]) j) (fun j => [I (((zs.set q (zs.getD ((IntKind.i64.wrap ((q : Int) - 1)).toNat) default)).getD j default).node), I (((zs.set q (zs.getD ((IntKind.i64.wrap ((q : Int) - 1)).toNat) default)).getD j default).link), I (((zs.set q (zs.getD ((IntKind.i64.wrap ((q : Int) - 1)).toNat) default)).getD j default).gate), I (((zs.set q (zs.getD ((IntKind.i64.wrap ((q : Int) - 1)).toNat) default)).getD j default).side)]) (fun j hj => by (try dsimp only); rw [getD_set (l := zs) (i := q) (v := (zs.getD ((IntKind.i64.wrap ((q : Int) - 1)).toNat) default)) (hi := (by (try simp only [List.length_set, List.length_replicate, List.length_append, List.length_cons, List.length_nil]) <;> omega))]; split <;> rfl) ?_
    refine PO.tk [16] 2 [0, 1, 2, 3, 8, 9, 50, 52] 1 (p := (0 ≤ (IntKind.i64.wrap ((q : Int) - 1)) ∧ (IntKind.i64.wrap ((q : Int) - 1)) < (n : Int))) (by omega) (fun _ _ h => h) ?_
    refine PO.one (n := 0) 17 (by kernel_rfl) ?_
    refine PO1.mm rfl [0, 1, 2, 3, 8, 9] 1 (p := ((IntKind.i64.wrap ((q : Int) - 1)).toNat < n)) (by omega) ?_
    refine PO.rm 0 (t := 117) (z := 4) (n := n) (fun j => if j = (IntKind.i64.wrap ((q : Int) - 1)).toNat then [I ((zs.getD q default).node), I ((zs.getD q default).link), I ((zs.getD q default).gate), I ((zs.getD q default).side)] else (fun j => [I (((zs.set q (zs.getD ((IntKind.i64.wrap ((q : Int) - 1)).toNat) default)).getD j default).node), I (((zs.set q (zs.getD ((IntKind.i64.wrap ((q : Int) - 1)).toNat) default)).getD j default).link), I (((zs.set q (zs.getD ((IntKind.i64.wrap ((q : Int) - 1)).toNat) default)).getD j default).gate), I (((zs.set q (zs.getD ((IntKind.i64.wrap ((q : Int) - 1)).toNat) default)).getD j default).side)]) j) (fun j => [I ((((zs.set q (zs.getD ((IntKind.i64.wrap ((q : Int) - 1)).toNat) default)).set ((IntKind.i64.wrap ((q : Int) - 1)).toNat) (zs.getD q default)).getD j default).node), I ((((zs.set q (zs.getD ((IntKind.i64.wrap ((q : Int) - 1)).toNat) default)).set ((IntKind.i64.wrap ((q : Int) - 1)).toNat) (zs.getD q default)).getD j default).link), I ((((zs.set q (zs.getD ((IntKind.i64.wrap ((q : Int) - 1)).toNat) default)).set ((IntKind.i64.wrap ((q : Int) - 1)).toNat) (zs.getD q default)).getD j default).gate), I ((((zs.set q (zs.getD ((IntKind.i64.wrap ((q : Int) - 1)).toNat) default)).set ((IntKind.i64.wrap ((q : Int) - 1)).toNat) (zs.getD q default)).getD j default).side)]) (fun j hj => by (try dsimp only); rw [getD_set (l := zs.set q (zs.getD ((IntKind.i64.wrap ((q : Int) - 1)).toNat) default)) (i := (IntKind.i64.wrap ((q : Int) - 1)).toNat) (v := (zs.getD q default)) (hi := (by (try simp only [List.length_set, List.length_replicate, List.length_append, List.length_cons, List.length_nil]) <;> omega))]; split <;> rfl) ?_
    refine PO.done (by kernel_rfl) ?_
    show PW _ _ _ _ _
    refine PW.rr [0, 1, 2, 3, 8, 9] 1 trivial ?_
    refine BackR.of (s1 := { tab := [⟨0, [], D.h 0 n⟩, ⟨1, [], I 0⟩, ⟨2, [], I (n : Int)⟩, ⟨3, [], D.v (.func (.func 87) #[] #[])⟩, ⟨8, [], I (i : Int)⟩, ⟨9, [], I (IntKind.i64.wrap ((q : Int) - 1))⟩], mem := [Obj.row 117 4 n (fun j => [I ((((zs.set q (zs.getD ((IntKind.i64.wrap ((q : Int) - 1)).toNat) default)).set ((IntKind.i64.wrap ((q : Int) - 1)).toNat) (zs.getD q default)).getD j default).node), I ((((zs.set q (zs.getD ((IntKind.i64.wrap ((q : Int) - 1)).toNat) default)).set ((IntKind.i64.wrap ((q : Int) - 1)).toNat) (zs.getD q default)).getD j default).link), I ((((zs.set q (zs.getD ((IntKind.i64.wrap ((q : Int) - 1)).toNat) default)).set ((IntKind.i64.wrap ((q : Int) - 1)).toNat) (zs.getD q default)).getD j default).gate), I ((((zs.set q (zs.getD ((IntKind.i64.wrap ((q : Int) - 1)).toNat) default)).set ((IntKind.i64.wrap ((q : Int) - 1)).toNat) (zs.getD q default)).getD j default).side)])], fx := 1 }) (q - 1, (zs.set q (zs.getD (q - 1) default)).set (q - 1) (zs.getD q default)) (by kernel_rfl) (by kernel_rfl) ?_ ?_ ?_
    ·dsimp only
     rw [hj (by omega)]
     exact Rem.refl _
    ·dsimp only
     have hq0 : 0 < q := by omega
     have hz2 := hz1.2
     rw [hj hq0] at hz2
     exact ⟨by omega, (swap_perm hq0 (by omega)).trans hk.2.1, but_step hq0 hk.1 (by omega) hk.2.2 hz2⟩
    ·dsimp only
     ((repeat' (first | intro _ | refine And.intro ?_ ?_)) <;> first | omega | trivial | assumption | (rename_i hgd; simp only [Bool.and_eq_true, decide_eq_true_eq, and_true] at hgd; omega))
  ·try simp only [boolS, cmpI_lt] at hz1
   refine PW.exit ?_
   show PW _ _ _ _ _
   refine PW.rr [0, 1, 2, 3, 8] 1 trivial ?_
   refine BackR.of (s1 := { tab := [⟨0, [], D.h 0 n⟩, ⟨1, [], I 0⟩, ⟨2, [], I (n : Int)⟩, ⟨3, [], D.v (.func (.func 87) #[] #[])⟩, ⟨8, [], I (IntKind.i64.wrap ((i : Int) + 1))⟩], mem := [Obj.row 117 4 n (fun j => [I ((zs.getD j default).node), I ((zs.getD j default).link), I ((zs.getD j default).gate), I ((zs.getD j default).side)])], fx := 1 }) (i + 1, zs) (by kernel_rfl) (by kernel_rfl) ?_ ?_ ?_
   ·dsimp only
    rw [wrap1 i (by omega)]
    exact Rem.refl _
   ·dsimp only
    exact ⟨by omega, by omega, hk.2.1.trans hinv.2.2.1, but_last hk.2.2 (but_exit hz1 hj)⟩
   ·dsimp only
    ((repeat' (first | intro _ | refine And.intro ?_ ?_)) <;> first | omega | trivial | assumption | (rename_i hgd; simp only [Bool.and_eq_true, decide_eq_true_eq, and_true] at hgd; omega))
 ·try simp only [boolS, cmpI_lt] at hz0
  refine PW.exit ?_
  refine retM_normal (d := D.t []) (ps := []) (ob := Obj.row 117 4 n (fun j => [I ((ys.getD j default).node), I ((ys.getD j default).link), I ((ys.getD j default).gate), I ((ys.getD j default).side)])) (by kernel_rfl) trivial (by kernel_rfl) (by kernel_rfl) ?_
  exact ⟨rfl, ys, rfl, hinv.2.2.1, fun a b h1 h2 => hinv.2.2.2 a b h1 (by omega)⟩
end Go.Proofs.YtleflkgdbagmnaaGreatDoor.Pl
