/- The document's own Dist, Next, Way, Width; lists of numbers compared. -/
import Derived.Test.YtleflkgdbagmnaaDoorHpSix
import Derived.Test.YtleflkgdbagmnaaDoorPlTwo
namespace Go.Proofs.YtleflkgdbagmnaaDoor.Pl
open Go.RowKit Go.Proofs.YtleflkgdbagmnaaDoor.Sm Go.Proofs.YtleflkgdbagmnaaDoor.Dp
set_option maxHeartbeats 4000000
set_option maxRecDepth 100000
set_option linter.unusedVariables false
set_option linter.unusedSimpArgs false
theorem good_of {c : Config} {a b : Int} : (goodB c a && goodB c b) = knownB c a b := by
  unfold goodB knownB rightB isB
  rw [check_same]
  cases (checkR c).1 == (0 : Int) <;> simp only [Bool.false_and, Bool.and_false, Bool.true_and, Bool.and_true]
  cases decide (a ≥ 0) <;> cases decide (a < (c.parts.length : Int)) <;> simp
theorem RightF.next {c : Config} (h : RightF c) {b : Nat} (hb : b < c.parts.length) {a : Int} (ha : 0 ≤ a ∧ a < (c.parts.length : Int)) : nextI c.links (distsL c b) a ≥ 0 ↔ a ≠ (b : Int) := by
  constructor
  · intro hz e
    have hs := step_of h hb hz
    subst e
    have h1 := hs.less
    have h2 := hs.nn
    have h3 := (h.dist hb).orig
    try dsimp only at h3
    rw [Int.toNat_natCast] at h1
    omega
  · intro hne
    refine Classical.byContradiction fun hn => ?_
    have h0 : 0 < (distsL c b).getD a.toNat default := by
      have h1 := (h.dist hb).nn a.toNat (by omega)
      have h2 := (h.dist hb).zo a.toNat (by omega)
      try dsimp only at h1 h2
      rcases Int.lt_or_le 0 ((distsL c b).getD a.toNat default) with h3 | h3
      · exact h3
      · exact absurd (h2 (by omega)) (by omega)
    obtain ⟨i, hi, q⟩ := (h.dist hb).step a.toNat (by omega) h0
    have hf := idxF_none (p := fun i => nextB (c.links.getD i default) a (distsL c b)) c.links.length 0 hn i (Nat.zero_le _) (by omega)
    have he := h.ends i hi
    have hlt := h.lt i hi
    try dsimp only at hf q
    have hb2 : nextB (c.links.getD i default) a (distsL c b) = true := by
      unfold nextB acrossI
      rcases q with ⟨q1, q2⟩ | ⟨q1, q2⟩
      · have e : (c.links.getD i default).a = a := by omega
        rw [if_pos e, e, beq_self_eq_true, Bool.true_or, Bool.true_and, decide_eq_true_eq]
        omega
      · have e : (c.links.getD i default).b = a := by omega
        rw [if_neg (by omega), e, beq_self_eq_true, Bool.or_true, Bool.true_and, decide_eq_true_eq]
        omega
    rw [hb2] at hf
    cases hf
def nextRB (l : Link) (a : Int) (xs : List Int) : Bool := decide (otherI l a ≥ 0) && decide (xs.getD (otherI l a).toNat default < xs.getD a.toNat default)
theorem next_same {l : Link} {n : Nat} (h1 : 0 ≤ l.a ∧ l.a < n) (h2 : 0 ≤ l.b ∧ l.b < n) (h3 : l.a < l.b) (a : Int) (xs : List Int) : nextRB l a xs = nextB l a xs := by
  unfold nextRB nextB otherI acrossI
  by_cases e1 : l.a = a
  · rw [if_pos e1, if_pos e1, e1, beq_self_eq_true, decide_eq_true (by omega)]
    rfl
  · rw [if_neg e1, if_neg e1]
    by_cases e2 : l.b = a
    · rw [if_pos e2, e2, beq_self_eq_true, Bool.or_true, decide_eq_true (by omega)]
    · rw [if_neg e2, decide_eq_false (by decide), show (l.a == a) = false from beq_false_of_ne e1, show (l.b == a) = false from beq_false_of_ne e2]
      rfl
theorem idxF_congr {p q : Nat → Bool} : ∀ (k i : Nat), (∀ j, i ≤ j → j < i + k → p j = q j) → idxF p k i = idxF q k i
  | 0, _, _ => rfl
  | k + 1, i, h => by rw [idxF, idxF, h i (Nat.le_refl _) (by omega), idxF_congr k (i + 1) fun j h1 h2 => h j (by omega) (by omega)]
theorem other_across {l : Link} {a : Int} (h : l.a = a ∨ l.b = a) : otherI l a = acrossI l a := by
  unfold otherI acrossI
  by_cases e : l.a = a
  · rw [if_pos e, if_pos e]
  · rw [if_neg e, if_neg e, if_pos (h.resolve_left e)]
theorem step_end {c : Config} {b : Nat} {a : Int} (hz : nextI c.links (distsL c b) a ≥ 0) : (c.links.getD (nextI c.links (distsL c b) a).toNat default).a = a ∨ (c.links.getD (nextI c.links (distsL c b) a).toNat default).b = a := by
  have hp := (idxF_facts (p := fun i => nextB (c.links.getD i default) a (distsL c b)) c.links.length 0 hz).2
  unfold nextB at hp
  simp only [Bool.and_eq_true, Bool.or_eq_true, beq_iff_eq] at hp
  exact hp.1
theorem dists_pcI (c : Config) (a : Int) (h : RightF c) (ha : 0 ≤ a ∧ a < (c.parts.length : Int)) : PC Tryd.prog [] 22 [D.r (Config.d c), I a] (· = sl' 1 (fun x => [I x]) (distsL c a.toNat)) := by
  obtain ⟨n, rfl⟩ := Int.eq_ofNat_of_zero_le ha.1
  have h6 := h.len6
  have h10 := h.links
  exact drumlineref5_dists_pc c n (by omega) h.inL (by omega) (by omega)
theorem known_mk {c : Config} {a b : Int} (h : KnownF c a b) (hr : rightB c = true) : knownB c a b = true := by
  unfold knownB
  have h1 := h.a
  have h2 := h.b
  simp only [Bool.and_eq_true, decide_eq_true_eq]
  exact ⟨⟨⟨⟨h1.1, h1.2⟩, h2.1⟩, h2.2⟩, hr⟩
theorem known_right {c : Config} {a b : Int} (h : knownB c a b = true) : rightB c = true := by
  unfold knownB at h
  simp only [Bool.and_eq_true] at h
  exact h.2
theorem idxF_neg {p : Nat → Bool} : ∀ (k i : Nat), ¬ idxF p k i ≥ 0 → idxF p k i = -1
  | 0, _, _ => rfl
  | k + 1, i, h => by
    unfold idxF at h ⊢
    by_cases hp : p i = true
    · rw [if_pos hp] at h; omega
    · rw [if_neg hp] at h ⊢; exact idxF_neg k (i + 1) h
theorem nextC_same {c : Config} {a : Int} (h : KnownF c a a) : nextC c a a = -1 := by
  unfold nextC
  split
  · have ha := h.a
    refine idxF_neg _ _ fun hz => ?_
    have := (h.right.next (b := a.toNat) (by omega) ha).1 hz
    omega
  · rfl
theorem nextR_eq {c : Config} {a b : Int} (h : KnownF c a b) : nextI c.links (distsL c b.toNat) a = idxF (fun i => nextRB (c.links.getD i default) a (distsL c b.toNat)) c.links.length 0 :=
  idxF_congr _ _ fun j h1 h2 => (next_same (h.right.ends j (by omega)).1 (h.right.ends j (by omega)).2 (h.right.lt j (by omega)) a _).symm
theorem other_lt {l : Link} {n : Nat} (h : (0 ≤ l.a ∧ l.a < (n : Int)) ∧ (0 ≤ l.b ∧ l.b < (n : Int))) (a : Int) : otherI l a < (n : Int) := by unfold otherI; grind
def maxFrom (w : Int) (xs : List Int) : Nat → Int
  | 0 => w
  | j + 1 => if xs.getD j default > maxFrom w xs j then xs.getD j default else maxFrom w xs j
theorem maxFrom_eq (w : Int) (xs : List Int) : ∀ j, maxFrom w xs (j + 1) = if maxTo xs (j + 1) > w then maxTo xs (j + 1) else w
  | 0 => by simp only [maxFrom, maxTo]; grind
  | j + 1 => by
    rw [maxFrom, maxFrom_eq w xs j]
    rw [show maxTo xs (j + 1 + 1) = if xs.getD (j + 1) default > maxTo xs (j + 1) then xs.getD (j + 1) default else maxTo xs (j + 1) from rfl]
    grind
theorem good0 (c : Config) : goodB c 0 = rightB c := by
  cases h : rightB c with
  | true =>
    have h1 := (right_of ((rightB_iff c).1 h)).len1
    unfold goodB isB
    rw [(rightB_iff c).1 h, decide_eq_true (show (0 : Int) ≥ 0 by decide), decide_eq_true (show (0 : Int) < (c.parts.length : Int) by omega)]
    rfl
  | false =>
    unfold rightB at h
    rw [check_same] at h
    unfold goodB
    rw [h]
    rfl
theorem drumlineref5_Dist_pc (c : Config) (a b : Int) (hp0 : c.parts.length < 1000000) (hl0 : c.links.length < 1000000) : PC Tryd.prog [] 9 [D.r (Config.d c), I a, I b] (· = I (distI c a b)) := by
 refine PC.of (N := 23) Tryd.func9 rfl rfl (Nat.le_of_ble_eq_true rfl) ?_
 refine PW.sr [1, 2, 3] 1 trivial ?_
 refine PW.seq ?_
 refine PW.sg ?_
 refine PL.rw 2 [1, 2, 3, 7, 8] 1 trivial ?_
 refine PL.gc (A := []) (fun _ => drumlineref5_Good_pc c a hp0 hl0) ?_
 refine PL.rw 4 [1, 2, 3, 11, 12, 13] 1 trivial ?_
 refine PL.gc (A := [(11, false)]) (fun _ => drumlineref5_Good_pc c b hp0 hl0) ?_
 refine PL.rw 2 [1, 2, 3, 16] 1 trivial ?_
 refine PL.nl ?_
 refine PW.cd ((!(goodB c a)) || (!(goodB c b))) (fun hz0 => ?_) (fun hz0 => ?_)
 ·try simp only [boolS, isB_true, isB_false] at hz0
  try have hkn : knownB c a b = true := by rw [← good_of]; simp [hz0]
  try have hk := known_of hkn
  try have hka := hk.a
  try have hkb := hk.b
  try have hk6 := hk.right.len6
  try have hk10 := hk.right.links
  try have hdl := distsL_len c a.toNat
  try have hdl2 := distsL_len c b.toNat
  refine PW.sr [6] 1 trivial ?_
  refine PW.ret ?_
  refine retQ_ret (d := I (-1)) (ps := []) (by kernel_rfl) trivial ?_
  unfold distI
  rw [if_neg (by rw [← good_of]; rcases hz0 with h | h <;> simp [h])]
 ·try simp only [boolS, isB_true, isB_false] at hz0
  try have hkn : knownB c a b = true := by rw [← good_of]; simp [hz0]
  try have hk := known_of hkn
  try have hka := hk.a
  try have hkb := hk.b
  try have hk6 := hk.right.len6
  try have hk10 := hk.right.links
  try have hdl := distsL_len c a.toNat
  try have hdl2 := distsL_len c b.toNat
  refine PW.skip ?_
  show PW _ _ _ _ _
  refine PW.sg ?_
  refine PL.rw 2 [2, 17, 18] 1 trivial ?_
  refine PL.gc (A := []) (fun _ => dists_pcI c a hk.right (by omega)) ?_
  refine PL.rw 4 [6] 1 (p := (0 ≤ b ∧ b < ((distsL c a.toNat).length : Int))) (by omega) ?_
  refine PL.nl ?_
  refine PW.ret ?_
  refine retQ_ret (d := I ((distsL c a.toNat).getD b.toNat default)) (ps := []) (by kernel_rfl) trivial ?_
  unfold distI
  rw [if_pos hkn]
  exact congrArg I (hk.right.sym (by omega) (by omega))
theorem drumlineref5_Next_pc (c : Config) (a b : Int) (hp0 : c.parts.length < 1000000) (hl0 : c.links.length < 1000000) : PC Tryd.prog [] 11 [D.r (Config.d c), I a, I b] (· = I (nextC c a b)) := by
 refine PC.of (N := 56) Tryd.func11 rfl rfl (Nat.le_of_ble_eq_true rfl) ?_
 refine PW.sr [1, 2, 3] 1 trivial ?_
 refine PW.seq ?_
 refine PW.sg ?_
 refine PL.rw 2 [1, 2, 3, 10, 11] 1 trivial ?_
 refine PL.gc (A := []) (fun _ => drumlineref5_Good_pc c a hp0 hl0) ?_
 refine PL.rw 4 [1, 2, 3, 14, 15, 16] 1 trivial ?_
 refine PL.gc (A := [(14, false)]) (fun _ => drumlineref5_Good_pc c b hp0 hl0) ?_
 refine PL.rw 7 [1, 2, 3, 24] 1 trivial ?_
 refine PL.nl ?_
 refine PW.cd (((!(goodB c a)) || (!(goodB c b))) || (a == b)) (fun hz0 => ?_) (fun hz0 => ?_)
 ·try simp only [boolS, isB_true, isB_false] at hz0
  try have hkn : knownB c a b = true := by rw [← good_of]; simp [hz0]
  try have hk := known_of hkn
  try have hka := hk.a
  try have hkb := hk.b
  try have hk6 := hk.right.len6
  try have hk10 := hk.right.links
  try have hdl := distsL_len c a.toNat
  try have hdl2 := distsL_len c b.toNat
  try have hox := other_lt (hk.right.ends i (by omega)) a
  refine PW.sr [6] 1 trivial ?_
  refine PW.ret ?_
  refine retQ_ret (d := I (-1)) (ps := []) (by kernel_rfl) trivial ?_
  by_cases hkb : knownB c a b = true
  · rcases hz0 with (h | h) | h
    · rw [← good_of, h] at hkb; cases hkb
    · rw [← good_of, h, Bool.and_false] at hkb; cases hkb
    · subst h; rw [nextC_same (known_of hkb)]
  · unfold nextC; rw [if_neg hkb]
 ·try simp only [boolS, isB_true, isB_false] at hz0
  try have hkn : knownB c a b = true := by rw [← good_of]; simp [hz0]
  try have hk := known_of hkn
  try have hka := hk.a
  try have hkb := hk.b
  try have hk6 := hk.right.len6
  try have hk10 := hk.right.links
  try have hdl := distsL_len c a.toNat
  try have hdl2 := distsL_len c b.toNat
  try have hox := other_lt (hk.right.ends i (by omega)) a
  refine PW.skip ?_
  show PW _ _ _ _ _
  refine PW.sg ?_
  refine PL.rw 2 [1, 3, 25, 26] 1 trivial ?_
  refine PL.gc (A := []) (fun _ => dists_pcI c b hk.right (by omega)) ?_
  refine PL.rw 1 [1, 3, 7] 1 trivial ?_
  refine PL.nl ?_
  refine PW.seq ?_
  refine PW.sr [1, 3, 7, 8] 1 trivial ?_
  refine PW.block ?_
  refine PW.lp (α := Nat) (fun i => { tab := [⟨1, [], I a⟩, ⟨3, [], D.p 0 0 0 0⟩, ⟨7, [], sl' 1 (fun x => [I x]) (distsL c b.toNat)⟩, ⟨8, [], I (i : Int)⟩], mem := [Obj.var 25 (Config.d c)] }) (fun i => i ≤ c.links.length ∧ idxF (fun i => nextRB (c.links.getD i default) a (distsL c b.toNat)) c.links.length 0 = idxF (fun i => nextRB (c.links.getD i default) a (distsL c b.toNat)) (c.links.length - i) i) (fun i => c.links.length - i) [1, 3, 7, 8] 1 (0) ?_ ?_
  ·exact ⟨Nat.zero_le _, rfl⟩
  rintro i hinv
  show PW _ _ _ _ _
  refine PW.seq ?_
  refine PW.sr [1, 3, 7, 8, 32] 1 trivial ?_
  refine PW.cd (decide ((i : Int) < (c.links.length : Int))) (fun hz1 => ?_) (fun hz1 => ?_)
  ·try simp only [boolS, isB_true, isB_false] at hz1
   try have hkn : knownB c a b = true := by rw [← good_of]; simp [hz1]
   try have hk := known_of hkn
   try have hka := hk.a
   try have hkb := hk.b
   try have hk6 := hk.right.len6
   try have hk10 := hk.right.links
   try have hdl := distsL_len c a.toNat
   try have hdl2 := distsL_len c b.toNat
   try have hox := other_lt (hk.right.ends i (by omega)) a
   refine PW.skip ?_
   show PW _ _ _ _ _
   refine PW.seq ?_
   refine PW.block ?_
   refine PW.sg ?_
   refine PL.rw 6 [1, 3, 7, 8, 39, 40] 1 (p := (0 ≤ (i : Int) ∧ (i : Int) < (c.links.length : Int))) (by omega) ?_
   refine PL.gc (A := []) (fun _ => drumlineref5_other_pc (c.links.getD i default) a) ?_
   refine PL.rw 1 [1, 3, 7, 8, 9] 1 trivial ?_
   refine PL.nl ?_
   refine PW.seq ?_
   refine PW.open [] (by kernel_rfl) ?_
   refine PO.tk [0, 1, 2, 3, 4, 5, 6, 7, 8, 9, 10, 11, 12] 13 [1, 3, 7, 8, 54] 0 (p := (((decide ((otherI (c.links.getD i default) a) ≥ (0 : Int))) = true ∧ True → 0 ≤ (otherI (c.links.getD i default) a) ∧ (otherI (c.links.getD i default) a) < ((distsL c b.toNat).length : Int))) ∧ (((decide ((otherI (c.links.getD i default) a) ≥ (0 : Int))) = true ∧ True → 0 ≤ a ∧ a < ((distsL c b.toNat).length : Int)))) (by ((repeat' (first | intro _ | refine And.intro ?_ ?_)) <;> first | omega | trivial | assumption | (rename_i hgd; simp only [Bool.and_eq_true, decide_eq_true_eq, and_true] at hgd; omega))) (fun _ _ h => h) ?_
   refine PO.done (by kernel_rfl) ?_
   show PW _ _ _ _ _
   refine PW.cd ((decide ((otherI (c.links.getD i default) a) ≥ (0 : Int))) && (decide (((distsL c b.toNat).getD ((otherI (c.links.getD i default) a).toNat) default) < ((distsL c b.toNat).getD a.toNat default)))) (fun hz2 => ?_) (fun hz2 => ?_)
   ·try simp only [boolS, isB_true, isB_false] at hz2
    try have hkn : knownB c a b = true := by rw [← good_of]; simp [hz2]
    try have hk := known_of hkn
    try have hka := hk.a
    try have hkb := hk.b
    try have hk6 := hk.right.len6
    try have hk10 := hk.right.links
    try have hdl := distsL_len c a.toNat
    try have hdl2 := distsL_len c b.toNat
    try have hox := other_lt (hk.right.ends i (by omega)) a
    refine PW.sr [6] 1 trivial ?_
    refine PW.ret ?_
    refine retQ_ret (d := I (i : Int)) (ps := []) (by kernel_rfl) trivial ?_
    show I _ = I _
    unfold nextC
    rw [if_pos hkn, nextR_eq hk, hinv.2, show c.links.length - i = (c.links.length - i - 1) + 1 by omega, idxF, if_pos (by unfold nextRB; rw [decide_eq_true hz2.1, decide_eq_true hz2.2]; rfl)]
   ·try simp only [boolS, isB_true, isB_false] at hz2
    try have hkn : knownB c a b = true := by rw [← good_of]; simp [hz2]
    try have hk := known_of hkn
    try have hka := hk.a
    try have hkb := hk.b
    try have hk6 := hk.right.len6
    try have hk10 := hk.right.links
    try have hdl := distsL_len c a.toNat
    try have hdl2 := distsL_len c b.toNat
    try have hox := other_lt (hk.right.ends i (by omega)) a
    refine PW.skip ?_
    show PW _ _ _ _ _
    refine PW.rr [1, 3, 7, 8] 1 trivial ?_
    refine BackR.of (s1 := { tab := [⟨1, [], I a⟩, ⟨3, [], D.p 0 0 0 0⟩, ⟨7, [], sl' 1 (fun x => [I x]) (distsL c b.toNat)⟩, ⟨8, [], I (IntKind.i64.wrap ((i : Int) + 1))⟩], mem := [Obj.var 25 (Config.d c)] }) (i + 1) (by kernel_rfl) (by kernel_rfl) ?_ ?_ ?_
    ·rw [wrap1 i (by omega)]
     exact Rem.refl _
    ·refine ⟨by omega, ?_⟩
     rw [hinv.2, show c.links.length - i = (c.links.length - (i + 1)) + 1 by omega, idxF, if_neg (by unfold nextRB; grind)]
    ·((repeat' (first | intro _ | refine And.intro ?_ ?_)) <;> first | omega | trivial | assumption | (rename_i hgd; simp only [Bool.and_eq_true, decide_eq_true_eq, and_true] at hgd; omega))
  ·try simp only [boolS, isB_true, isB_false] at hz1
   try have hkn : knownB c a b = true := by rw [← good_of]; simp [hz1]
   try have hk := known_of hkn
   try have hka := hk.a
   try have hkb := hk.b
   try have hk6 := hk.right.len6
   try have hk10 := hk.right.links
   try have hdl := distsL_len c a.toNat
   try have hdl2 := distsL_len c b.toNat
   try have hox := other_lt (hk.right.ends i (by omega)) a
   refine PW.exit ?_
   show PW _ _ _ _ _
   refine PW.sr [6] 1 trivial ?_
   refine PW.ret ?_
   refine retQ_ret (d := I (-1)) (ps := []) (by kernel_rfl) trivial ?_
   show I _ = I _
   unfold nextC
   rw [if_pos hkn, nextR_eq hk, hinv.2, show c.links.length - i = 0 by omega, idxF]
theorem ref_Way_pc0 (c : Config) (a0 b : Int) (hp0 : c.parts.length < 1000000) (hl0 : c.links.length < 1000000) : PC Tryd.prog [] 14 [D.r (Config.d c), I a0, I b] (fun d => d = sl' 1 (fun x => [I x]) (wayC c a0 b) ∨ (d = D.v (.slice none 0 0) ∧ wayC c a0 b = [])) := by
 refine PC.of (N := 38) Tryd.func14 rfl rfl (Nat.le_of_ble_eq_true rfl) ?_
 refine PW.sr [1, 2, 3] 1 trivial ?_
 refine PW.sr [1, 2, 3, 7] 1 trivial ?_
 refine PW.seq ?_
 refine PW.sg ?_
 refine PL.rw 2 [1, 2, 3, 7, 9, 10] 1 trivial ?_
 refine PL.gc (A := []) (fun _ => drumlineref5_Good_pc c a0 hp0 hl0) ?_
 refine PL.rw 4 [1, 2, 3, 7, 13, 14, 15] 1 trivial ?_
 refine PL.gc (A := [(13, false)]) (fun _ => drumlineref5_Good_pc c b hp0 hl0) ?_
 refine PL.rw 2 [1, 2, 3, 7, 18] 1 trivial ?_
 refine PL.nl ?_
 refine PW.cd ((!(goodB c a0)) || (!(goodB c b))) (fun hz0 => ?_) (fun hz0 => ?_)
 ·try simp only [boolS, isB_true, isB_false] at hz0
  try have hkn : knownB c a0 b = true := by rw [← good_of]; simp [hz0]
  try have hk0 := known_of hkn
  try have hka := hk0.a
  try have hkb := hk0.b
  try have hk6 := hk0.right.len6
  try have hk10 := hk0.right.links
  try have hk : KnownF c a b := ⟨hk0.right, hinv.1, hkb⟩
  try have hq : nextC c a b = nextI c.links (distsL c b.toNat) a := if_pos (known_mk hk (known_right hkn))
  try have hz : nextI c.links (distsL c b.toNat) a ≥ 0 := (hk0.right.next (by omega) hinv.1).2 (by omega)
  try have hst := step_of hk0.right (b := b.toNat) (by omega) hz
  try have hs1 := hst.lt
  try have hs2 := hst.into
  try have hs3 := hst.less
  try have hs4 := hst.nn
  try have hk1 : 1 ≤ k := by omega
  refine PW.sr [6] 1 trivial ?_
  refine PW.ret ?_
  refine retQ_ret (d := D.v (.slice none 0 0)) (ps := []) (by kernel_rfl) trivial ?_
  exact .inr ⟨rfl, by unfold wayC; rw [if_neg (by rw [← good_of]; rcases hz0 with h | h <;> simp [h])]⟩
 ·try simp only [boolS, isB_true, isB_false] at hz0
  try have hkn : knownB c a0 b = true := by rw [← good_of]; simp [hz0]
  try have hk0 := known_of hkn
  try have hka := hk0.a
  try have hkb := hk0.b
  try have hk6 := hk0.right.len6
  try have hk10 := hk0.right.links
  try have hk : KnownF c a b := ⟨hk0.right, hinv.1, hkb⟩
  try have hq : nextC c a b = nextI c.links (distsL c b.toNat) a := if_pos (known_mk hk (known_right hkn))
  try have hz : nextI c.links (distsL c b.toNat) a ≥ 0 := (hk0.right.next (by omega) hinv.1).2 (by omega)
  try have hst := step_of hk0.right (b := b.toNat) (by omega) hz
  try have hs1 := hst.lt
  try have hs2 := hst.into
  try have hs3 := hst.less
  try have hs4 := hst.nn
  try have hk1 : 1 ≤ k := by omega
  refine PW.skip ?_
  show PW _ _ _ _ _
  refine PW.seq ?_
  refine PW.block ?_
  refine PW.born 7 3 1 (by kernel_rfl) ?_
  refine PW.loopR (α := Nat × Int × List Int) (fun (k, a, w) => { tab := [⟨1, [], I a⟩, ⟨2, [], I b⟩, ⟨3, [], D.p 0 0 0 0⟩, ⟨7, [], D.h 1 w.length⟩], mem := [Obj.var 25 (Config.d c), Obj.row 3 1 w.length (fun j => [I (w.getD j default)])] }) (fun (k, a, w) => (0 ≤ a ∧ a < (c.parts.length : Int)) ∧ ((distsL c b.toNat).getD a.toNat default < (k : Int) ∧ w.length + k ≤ c.parts.length) ∧ wayN c.links (distsL c b.toNat) c.parts.length a0 = w ++ wayN c.links (distsL c b.toNat) k a) (fun (k, a, w) => k) [1, 2, 3, 7] 2 (c.parts.length, a0, []) (s1 := { tab := [⟨1, [], I a0⟩, ⟨2, [], I b⟩, ⟨3, [], D.p 0 0 0 0⟩, ⟨7, [], D.h 1 0⟩], mem := [Obj.var 25 (Config.d c), Obj.row 3 1 0 (fun _ => [])] }) (by kernel_rfl) (by kernel_rfl) ?_ ?_ ?_
  ·dsimp only
   exact ⟨rfl, rfl, rfl, .same (.row rfl (fun j hj => absurd hj (Nat.not_lt_zero _)) .nil)⟩
  ·dsimp only
   exact ⟨by omega, ⟨hk0.right.low (by omega) _ (by omega), by simp⟩, rfl⟩
  rintro ⟨k, a, w⟩ hinv
  dsimp only at hinv
  show PW _ _ _ _ _
  refine PW.seq ?_
  refine PW.sr [1, 2, 3, 7, 21] 2 trivial ?_
  refine PW.cd (a != b) (fun hz1 => ?_) (fun hz1 => ?_)
  ·try simp only [boolS, isB_true, isB_false] at hz1
   try have hkn : knownB c a0 b = true := by rw [← good_of]; simp [hz1]
   try have hk0 := known_of hkn
   try have hka := hk0.a
   try have hkb := hk0.b
   try have hk6 := hk0.right.len6
   try have hk10 := hk0.right.links
   try have hk : KnownF c a b := ⟨hk0.right, hinv.1, hkb⟩
   try have hq : nextC c a b = nextI c.links (distsL c b.toNat) a := if_pos (known_mk hk (known_right hkn))
   try have hz : nextI c.links (distsL c b.toNat) a ≥ 0 := (hk0.right.next (by omega) hinv.1).2 (by omega)
   try have hst := step_of hk0.right (b := b.toNat) (by omega) hz
   try have hs1 := hst.lt
   try have hs2 := hst.into
   try have hs3 := hst.less
   try have hs4 := hst.nn
   try have hk1 : 1 ≤ k := by omega
   refine PW.skip ?_
   show PW _ _ _ _ _
   refine PW.block ?_
   refine PW.sg ?_
   refine PL.rw 3 [1, 2, 3, 7, 22, 23, 24] 2 trivial ?_
   refine PL.gc (A := []) (fun _ => drumlineref5_Next_pc c a b hp0 hl0) ?_
   refine PL.rw 1 [1, 2, 3, 7, 8] 2 trivial ?_
   refine PL.nl ?_
   refine PW.sg ?_
   refine PL.rw 4 [1, 2, 3, 8, 29] 3 (p := ((w.length = w.length ∧ 1 ≤ 1) ∧ (w.length + 1) * 8 ≤ 140737488355328 ∧ w.length + 1 ≤ 9223372036854775807)) (by omega) ?_
   refine PL.rm 1 (t := 3) (z := 1) (n := (w.length + 1)) (fun j => if j < w.length then (fun j => [I (w.getD j default)]) j else (fun k => ([[I (nextC c a b)]][k]?).getD []) (j - w.length)) (fun j => [I ((w ++ [nextC c a b]).getD j default)]) (fun j hj => by (try dsimp only); rw [getD_app w [nextC c a b] j default, show w.length = w.length from (by (try simp only [List.length_set, List.length_replicate, List.length_append, List.length_cons, List.length_nil]) <;> omega)]; split <;> first | rfl | (rename_i hjn; rw [show j - w.length = 0 by omega]; rfl)) ?_
   refine PL.rw 1 [1, 2, 3, 7, 8] 3 trivial ?_
   refine PL.nl ?_
   refine PW.region ?_
   refine PL.rw 6 [2, 3, 7, 34, 35] 3 (p := (0 ≤ (nextC c a b) ∧ (nextC c a b) < (c.links.length : Int))) (by omega) ?_
   refine PL.gc (A := []) (fun _ => drumlineref5_other_pc (c.links.getD ((nextC c a b).toNat) default) a) ?_
   refine PL.rw 1 [1, 2, 3, 7] 3 trivial ?_
   refine PL.nil ?_
   refine BackR.of (s1 := { tab := [⟨1, [], I (otherI (c.links.getD ((nextC c a b).toNat) default) a)⟩, ⟨2, [], I b⟩, ⟨3, [], D.p 0 0 0 0⟩, ⟨7, [], D.h 1 (w.length + 1)⟩], mem := [Obj.var 25 (Config.d c), Obj.row 3 1 (w.length + 1) (fun j => [I ((w ++ [nextC c a b]).getD j default)])] }) (k - 1, otherI (c.links.getD ((nextC c a b).toNat) default) a, w ++ [nextC c a b]) (by kernel_rfl) (by kernel_rfl) ?_ ?_ ?_
   ·dsimp only
    simp only [List.length_append, List.length_singleton]
    exact Rem.refl _
   ·dsimp only
    rw [hq, other_across (step_end hz)]
    refine ⟨hs2, ⟨by omega, by simp; omega⟩, ?_⟩
    rw [hinv.2.2]
    obtain ⟨k', rfl⟩ : ∃ k', k = k' + 1 := ⟨k - 1, by omega⟩
    rw [wayN, if_pos hz, List.append_assoc, Nat.add_sub_cancel]
    rfl
   ·dsimp only
    omega
  ·try simp only [boolS, isB_true, isB_false] at hz1
   try have hkn : knownB c a0 b = true := by rw [← good_of]; simp [hz1]
   try have hk0 := known_of hkn
   try have hka := hk0.a
   try have hkb := hk0.b
   try have hk6 := hk0.right.len6
   try have hk10 := hk0.right.links
   try have hk : KnownF c a b := ⟨hk0.right, hinv.1, hkb⟩
   try have hq : nextC c a b = nextI c.links (distsL c b.toNat) a := if_pos (known_mk hk (known_right hkn))
   try have hz : nextI c.links (distsL c b.toNat) a ≥ 0 := (hk0.right.next (by omega) hinv.1).2 (by omega)
   try have hst := step_of hk0.right (b := b.toNat) (by omega) hz
   try have hs1 := hst.lt
   try have hs2 := hst.into
   try have hs3 := hst.less
   try have hs4 := hst.nn
   try have hk1 : 1 ≤ k := by omega
   refine PW.exit ?_
   show PW _ _ _ _ _
   refine PW.sr [6] 2 trivial ?_
   refine PW.ret ?_
   refine retQ_ret (d := D.s w.length 1 (fun j => [I (w.getD j default)])) (ps := [w.length ≤ w.length]) (by kernel_rfl) (show (w.length ≤ w.length) from by ((repeat' (first | intro _ | refine And.intro ?_ ?_)) <;> first | omega | trivial | assumption | (rename_i hgd; simp only [Bool.and_eq_true, decide_eq_true_eq, and_true] at hgd; omega))) ?_
   have hw : wayC c a0 b = w := by
     unfold wayC
     rw [if_pos hkn, hinv.2.2, way_end (fun hz => (hk0.right.next (b := b.toNat) (by omega) hinv.1).1 hz (by omega)), List.append_nil]
   rw [hw]
   exact .inl rfl
theorem drumlineref5_Way_pc (c : Config) (a b : Int) (hp0 : c.parts.length < 1000000) (hl0 : c.links.length < 1000000) : PC Tryd.prog [] 14 [D.r (Config.d c), I a, I b] (· = sl' 1 (fun x => [I x]) (wayC c a b)) := PC.list (ref_Way_pc0 c a b hp0 hl0)
theorem drumlineref5_Width_pc (c : Config) (hp0 : c.parts.length < 1000000) (hl0 : c.links.length < 1000000) : PC Tryd.prog [] 16 [D.r (Config.d c)] (· = I (widthC c)) := by
 refine PC.of (N := 33) Tryd.func16 rfl rfl (Nat.le_of_ble_eq_true rfl) ?_
 refine PW.sr [1] 1 trivial ?_
 refine PW.seq ?_
 refine PW.sg ?_
 refine PL.rw 1 [1, 7] 1 trivial ?_
 refine PL.gc (A := []) (fun _ => drumlineref5_Good_pc c 0 hp0 hl0) ?_
 refine PL.rw 1 [1, 9] 1 trivial ?_
 refine PL.nl ?_
 refine PW.cd (!(goodB c 0)) (fun hz0 => ?_) (fun hz0 => ?_)
 ·try simp only [boolS, isB_true, isB_false] at hz0
  try have hr := right_of ((rightB_iff c).1 ((good0 c).symm.trans hz0))
  try have hk6 := hr.len6
  try have hk1 := hr.len1
  try have hdl := distsL_len c i
  refine PW.sr [2] 1 trivial ?_
  refine PW.ret ?_
  refine retQ_ret (d := I (-1)) (ps := []) (by kernel_rfl) trivial ?_
  unfold widthC
  rw [← good0, if_neg (by rw [hz0]; decide)]
 ·try simp only [boolS, isB_true, isB_false] at hz0
  try have hr := right_of ((rightB_iff c).1 ((good0 c).symm.trans hz0))
  try have hk6 := hr.len6
  try have hk1 := hr.len1
  try have hdl := distsL_len c i
  refine PW.skip ?_
  show PW _ _ _ _ _
  refine PW.sr [1, 3] 1 trivial ?_
  refine PW.seq ?_
  refine PW.sr [1, 3, 4] 1 trivial ?_
  refine PW.block ?_
  refine PW.lp (α := Nat × Int) (fun (i, w) => { tab := [⟨1, [], D.p 0 0 0 0⟩, ⟨3, [], I w⟩, ⟨4, [], I (i : Int)⟩], mem := [Obj.var 25 (Config.d c)] }) (fun (i, w) => i ≤ c.parts.length ∧ w = widthN c i) (fun (i, w) => c.parts.length - i) [1, 3, 4] 1 (0, 0) ?_ ?_
  ·dsimp only
   exact ⟨Nat.zero_le _, rfl⟩
  rintro ⟨i, w⟩ hinv
  dsimp only at hinv
  show PW _ _ _ _ _
  refine PW.seq ?_
  refine PW.sr [1, 3, 4, 14] 1 trivial ?_
  refine PW.cd (decide ((i : Int) < (c.parts.length : Int))) (fun hz1 => ?_) (fun hz1 => ?_)
  ·try simp only [boolS, isB_true, isB_false] at hz1
   try have hr := right_of ((rightB_iff c).1 ((good0 c).symm.trans hz1))
   try have hk6 := hr.len6
   try have hk1 := hr.len1
   try have hdl := distsL_len c i
   refine PW.skip ?_
   show PW _ _ _ _ _
   refine PW.seq ?_
   refine PW.block ?_
   refine PW.sg ?_
   refine PL.rw 2 [1, 3, 4, 17, 18] 1 trivial ?_
   refine PL.gc (A := []) (fun _ => drumlineref5_dists_pc c i (by omega) hr.inL (by omega) (by omega)) ?_
   refine PL.rw 1 [1, 3, 4, 5] 1 trivial ?_
   refine PL.nl ?_
   refine PW.sr [1, 3, 4, 5, 6] 1 trivial ?_
   refine PW.block ?_
   refine PW.lp (α := Nat × Int) (fun (j1, v) => { tab := [⟨1, [], D.p 0 0 0 0⟩, ⟨3, [], I v⟩, ⟨4, [], I (i : Int)⟩, ⟨5, [], sl' 1 (fun x => [I x]) (distsL c i)⟩, ⟨6, [], I (j1 : Int)⟩], mem := [Obj.var 25 (Config.d c)] }) (fun (j1, v) => j1 ≤ c.parts.length ∧ v = maxFrom w (distsL c i) j1) (fun (j1, v) => c.parts.length - j1) [1, 3, 4, 5, 6] 1 (0, w) ?_ ?_
   ·dsimp only
    exact ⟨Nat.zero_le _, rfl⟩
   rintro ⟨j1, v⟩ hj
   dsimp only at hj
   show PW _ _ _ _ _
   refine PW.seq ?_
   refine PW.sr [1, 3, 4, 5, 6, 23] 1 trivial ?_
   refine PW.cd (decide ((j1 : Int) < ((distsL c i).length : Int))) (fun hz2 => ?_) (fun hz2 => ?_)
   ·try simp only [boolS, isB_true, isB_false] at hz2
    try have hr := right_of ((rightB_iff c).1 ((good0 c).symm.trans hz2))
    try have hk6 := hr.len6
    try have hk1 := hr.len1
    try have hdl := distsL_len c i
    refine PW.skip ?_
    show PW _ _ _ _ _
    refine PW.seq ?_
    refine PW.block ?_
    refine PW.rr [1, 3, 4, 5, 6] 1 (p := (0 ≤ (j1 : Int) ∧ (j1 : Int) < ((distsL c i).length : Int))) (by omega) ?_
    show PW _ _ _ _ _
    refine PW.rr [1, 3, 4, 5, 6] 1 trivial ?_
    refine BackR.of (s1 := { tab := [⟨1, [], D.p 0 0 0 0⟩, ⟨3, [], I (if ((distsL c i).getD j1 default) > v then ((distsL c i).getD j1 default) else v)⟩, ⟨4, [], I (i : Int)⟩, ⟨5, [], sl' 1 (fun x => [I x]) (distsL c i)⟩, ⟨6, [], I (IntKind.i64.wrap ((j1 : Int) + 1))⟩], mem := [Obj.var 25 (Config.d c)] }) (j1 + 1, if ((distsL c i).getD j1 default) > v then ((distsL c i).getD j1 default) else v) (by kernel_rfl) (by kernel_rfl) ?_ ?_ ?_
    ·dsimp only
     rw [wrap1 j1 (by omega)]
     exact Rem.refl _
    ·dsimp only
     exact ⟨by omega, by rw [maxFrom, ← hj.2]⟩
    ·dsimp only
     ((repeat' (first | intro _ | refine And.intro ?_ ?_)) <;> first | omega | trivial | assumption | (rename_i hgd; simp only [Bool.and_eq_true, decide_eq_true_eq, and_true] at hgd; omega))
   ·try simp only [boolS, isB_true, isB_false] at hz2
    try have hr := right_of ((rightB_iff c).1 ((good0 c).symm.trans hz2))
    try have hk6 := hr.len6
    try have hk1 := hr.len1
    try have hdl := distsL_len c i
    refine PW.exit ?_
    show PW _ _ _ _ _
    refine PW.rr [1, 3, 4] 1 trivial ?_
    refine BackR.of (s1 := { tab := [⟨1, [], D.p 0 0 0 0⟩, ⟨3, [], I v⟩, ⟨4, [], I (IntKind.i64.wrap ((i : Int) + 1))⟩], mem := [Obj.var 25 (Config.d c)] }) (i + 1, v) (by kernel_rfl) (by kernel_rfl) ?_ ?_ ?_
    ·dsimp only
     rw [wrap1 i (by omega)]
     exact Rem.refl _
    ·dsimp only
     refine ⟨by omega, ?_⟩
     have hv := hj.2
     rw [show j1 = (c.parts.length - 1) + 1 by omega, maxFrom_eq, show c.parts.length - 1 + 1 = c.parts.length by omega] at hv
     rw [widthN, hv, ← hinv.2]
    ·dsimp only
     ((repeat' (first | intro _ | refine And.intro ?_ ?_)) <;> first | omega | trivial | assumption | (rename_i hgd; simp only [Bool.and_eq_true, decide_eq_true_eq, and_true] at hgd; omega))
  ·try simp only [boolS, isB_true, isB_false] at hz1
   try have hr := right_of ((rightB_iff c).1 ((good0 c).symm.trans hz1))
   try have hk6 := hr.len6
   try have hk1 := hr.len1
   try have hdl := distsL_len c i
   refine PW.exit ?_
   show PW _ _ _ _ _
   refine PW.sr [2] 1 trivial ?_
   refine PW.ret ?_
   refine retQ_ret (d := I w) (ps := []) (by kernel_rfl) trivial ?_
   unfold widthC
   rw [← good0, if_pos hz0, hinv.2, show i = c.parts.length by omega]
theorem drumlineref1_SameInts_pc (xs ys : List Int) (hx : xs.length < 1000000) (hy : ys.length < 1000000) : PC Tryd.prog [] 12 [sl' 1 (fun x => [I x]) xs, sl' 1 (fun x => [I x]) ys] (· = D.v (.bool (decide (xs = ys)))) := by
 refine PC.of (N := 26) Tryd.func12 rfl rfl (Nat.le_of_ble_eq_true rfl) ?_
 refine PW.sr [0, 1] 0 trivial ?_
 refine PW.seq ?_
 refine PW.sr [0, 1, 10] 0 trivial ?_
 refine PW.cd ((xs.length : Int) != (ys.length : Int)) (fun hz0 => ?_) (fun hz0 => ?_)
 ·try simp only [boolS, isB_true, isB_false] at hz0
  refine PW.sr [4] 0 trivial ?_
  refine PW.ret ?_
  refine retQ_ret (d := D.v (.bool false)) (ps := []) (by kernel_rfl) trivial ?_
  rw [decide_eq_false (fun h => hz0 (by rw [h]))]
 ·try simp only [boolS, isB_true, isB_false] at hz0
  refine PW.skip ?_
  show PW _ _ _ _ _
  refine PW.seq ?_
  refine PW.sr [0, 1, 5] 0 trivial ?_
  refine PW.block ?_
  refine PW.lp (α := Nat) (fun i => { tab := [⟨0, [], sl' 1 (fun x => [I x]) xs⟩, ⟨1, [], sl' 1 (fun x => [I x]) ys⟩, ⟨5, [], I (i : Int)⟩], mem := [] }) (fun i => i ≤ xs.length ∧ ∀ j, j < i → xs.getD j default = ys.getD j default) (fun i => xs.length - i) [0, 1, 5] 0 (0) ?_ ?_
  ·exact ⟨Nat.zero_le _, fun j hj => absurd hj (Nat.not_lt_zero _)⟩
  rintro i hinv
  have hle : xs.length = ys.length := by omega
  show PW _ _ _ _ _
  refine PW.seq ?_
  refine PW.sr [0, 1, 5, 14] 0 trivial ?_
  refine PW.cd (decide ((i : Int) < (xs.length : Int))) (fun hz1 => ?_) (fun hz1 => ?_)
  ·try simp only [boolS, isB_true, isB_false] at hz1
   refine PW.skip ?_
   show PW _ _ _ _ _
   refine PW.seq ?_
   refine PW.block ?_
   refine PW.seq ?_
   refine PW.open [] (by kernel_rfl) ?_
   refine PO.tk [0, 1, 2, 3, 4, 5, 6, 7, 8] 9 [0, 1, 5, 25] 0 (p := (0 ≤ (i : Int) ∧ (i : Int) < (xs.length : Int)) ∧ (0 ≤ (i : Int) ∧ (i : Int) < (ys.length : Int))) (by omega) (fun _ _ h => h) ?_
   refine PO.done (by kernel_rfl) ?_
   show PW _ _ _ _ _
   refine PW.cd ((xs.getD i default) != (ys.getD i default)) (fun hz2 => ?_) (fun hz2 => ?_)
   ·try simp only [boolS, isB_true, isB_false] at hz2
    refine PW.sr [4] 0 trivial ?_
    refine PW.ret ?_
    refine retQ_ret (d := D.v (.bool false)) (ps := []) (by kernel_rfl) trivial ?_
    rw [decide_eq_false (fun h => hz2 (by rw [h]))]
   ·try simp only [boolS, isB_true, isB_false] at hz2
    refine PW.skip ?_
    show PW _ _ _ _ _
    refine PW.rr [0, 1, 5] 0 trivial ?_
    refine BackR.of (s1 := { tab := [⟨0, [], sl' 1 (fun x => [I x]) xs⟩, ⟨1, [], sl' 1 (fun x => [I x]) ys⟩, ⟨5, [], I (IntKind.i64.wrap ((i : Int) + 1))⟩], mem := [] }) (i + 1) (by kernel_rfl) (by kernel_rfl) ?_ ?_ ?_
    ·rw [wrap1 i (by omega)]
     exact Rem.refl _
    ·refine ⟨by omega, fun j hj => ?_⟩
     rcases Nat.lt_or_ge j i with h | h
     · exact hinv.2 j h
     · rw [show j = i by omega]; omega
    ·((repeat' (first | intro _ | refine And.intro ?_ ?_)) <;> first | omega | trivial | assumption | (rename_i hgd; simp only [Bool.and_eq_true, decide_eq_true_eq, and_true] at hgd; omega))
  ·try simp only [boolS, isB_true, isB_false] at hz1
   refine PW.exit ?_
   show PW _ _ _ _ _
   refine PW.sr [4] 0 trivial ?_
   refine PW.ret ?_
   refine retQ_ret (d := D.v (.bool true)) (ps := []) (by kernel_rfl) trivial ?_
   rw [decide_eq_true]
   apply List.ext_getElem?
   intro j
   rcases Nat.lt_or_ge j xs.length with hj | hj
   · have := hinv.2 j (by omega)
     rw [List.getD_eq_getElem?_getD, List.getD_eq_getElem?_getD, List.getElem?_eq_getElem hj, List.getElem?_eq_getElem (by omega)] at this
     rw [List.getElem?_eq_getElem hj, List.getElem?_eq_getElem (by omega)]
     simpa using this
   · rw [List.getElem?_eq_none hj, List.getElem?_eq_none (by omega)]
end Go.Proofs.YtleflkgdbagmnaaDoor.Pl
