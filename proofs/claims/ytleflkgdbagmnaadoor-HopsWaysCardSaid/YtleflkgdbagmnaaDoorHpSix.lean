/- Package hops' Dist, Next, Way, Width. -/
import Derived.Test.YtleflkgdbagmnaaDoorHpFive
namespace Go.Proofs.YtleflkgdbagmnaaDoor.Pl
open Go.RowKit Go.Proofs.YtleflkgdbagmnaaDoor.Sm Go.Proofs.YtleflkgdbagmnaaDoor.Dp
set_option maxHeartbeats 4000000
set_option maxRecDepth 100000
set_option linter.unusedVariables false
set_option linter.unusedSimpArgs false
/-- what package hops knows of two parts. -/
structure KnownF (c : Config) (a b : Int) : Prop where
  right : RightF c
  a : 0 ≤ a ∧ a < (c.parts.length : Int)
  b : 0 ≤ b ∧ b < (c.parts.length : Int)
theorem rightB_iff (c : Config) : rightB c = true ↔ (checkR c).1 = 0 := by unfold rightB; rw [check_same]; simp
theorem known_of {c : Config} {a b : Int} (h : knownB c a b = true) : KnownF c a b := by
  unfold knownB at h
  simp only [Bool.and_eq_true, decide_eq_true_eq] at h
  exact ⟨right_of ((rightB_iff c).1 h.2), ⟨h.1.1.1.1, h.1.1.1.2⟩, ⟨h.1.1.2, h.1.2⟩⟩
theorem RightF.ends {c : Config} (h : RightF c) : EndsIn c.links c.parts.length := fun i hi => by
  have := h.inL i hi
  omega
theorem dists_pi (c : Config) (b : Int) (h : RightF c) (hb : 0 ≤ b ∧ b < (c.parts.length : Int)) : PI Tryd.prog [] 20 [D.r (Config.d c), I b] [Obj.var 25 (Config.d c)] (fun d obs => d = D.h 3 c.parts.length ∧ obs = [Obj.var 25 (Config.d c), Obj.var 25 (Config.d c), Obj.row 3 1 1 (fun k => ([[I (c.parts.length : Int)]][k]?).getD []), Obj.row 3 1 c.parts.length (fun j => [I ((distsL c b.toNat).getD j default)])]) := by
  obtain ⟨n, rfl⟩ := Int.eq_ofNat_of_zero_le hb.1
  have h1 := h.len1
  have h6 := h.len6
  have h10 := h.links
  have := hops_distances_pi c n (by omega) h.inL (by omega) (by omega) (by omega)
  rw [h.distM (by omega)] at this
  exact this
theorem next_pc (c : Config) (b : Nat) (a : Int) (h : RightF c) (ha : 0 ≤ a ∧ a < (c.parts.length : Int)) : PC Tryd.prog [] 23 [sl' 6 Link.d c.links, D.s c.parts.length 1 (fun j => [I ((distsL c b).getD j default)]), I a] (· = I (nextI c.links (distsL c b) a)) := by
  have h10 := h.links
  have := hops_next_pc c.links (distsL c b) a (by omega) (by rw [distsL_len]; exact h.ends) (by rw [distsL_len]; exact ha)
  rw [show sl' 1 (fun x => [I x]) (distsL c b) = D.s c.parts.length 1 (fun j => [I ((distsL c b).getD j default)]) by unfold sl'; rw [distsL_len]] at this
  exact this
theorem max_pc (c : Config) (b : Nat) (h : RightF c) : PC Tryd.prog [] 27 [D.s c.parts.length 1 (fun j => [I ((distsL c b).getD j default)])] (· = I (maxTo (distsL c b) c.parts.length)) := by
  have h1 := h.len1
  have h6 := h.len6
  have := slices_Max_pc (distsL c b) (by rw [distsL_len]; omega) (by rw [distsL_len]; omega)
  rw [show sl' 1 (fun x => [I x]) (distsL c b) = D.s c.parts.length 1 (fun j => [I ((distsL c b).getD j default)]) by unfold sl'; rw [distsL_len], distsL_len] at this
  exact this
theorem idxF_facts {p : Nat → Bool} : ∀ (k i : Nat), idxF p k i ≥ 0 → (i ≤ (idxF p k i).toNat ∧ (idxF p k i).toNat < i + k) ∧ p (idxF p k i).toNat = true
  | 0, i, h => by simp [idxF] at h
  | k + 1, i, h => by
    unfold idxF at h ⊢
    by_cases hp : p i = true
    · simp only [hp, if_true] at h ⊢
      exact ⟨by omega, by simpa using hp⟩
    · rw [if_neg hp] at h ⊢
      have := idxF_facts (k) (i + 1) h
      exact ⟨by omega, this.2⟩
theorem idxF_none {p : Nat → Bool} : ∀ (k i : Nat), ¬ idxF p k i ≥ 0 → ∀ j, i ≤ j → j < i + k → p j = false
  | 0, i, h, j, h1, h2 => by omega
  | k + 1, i, h, j, h1, h2 => by
    unfold idxF at h
    by_cases hp : p i = true
    · rw [if_pos hp] at h; omega
    · rw [if_neg hp] at h
      rcases Nat.eq_or_lt_of_le h1 with e | e
      · subst e; simpa using hp
      · exact idxF_none k (i + 1) h j (by omega) (by omega)
def wayN (ls : List Link) (xs : List Int) : Nat → Int → List Int
  | 0, _ => []
  | k + 1, a => if nextI ls xs a ≥ 0 then nextI ls xs a :: wayN ls xs k (acrossI (ls.getD (nextI ls xs a).toNat default) a) else []
theorem way_end {ls : List Link} {xs : List Int} {a : Int} (h : ¬ nextI ls xs a ≥ 0) : ∀ k, wayN ls xs k a = []
  | 0 => rfl
  | k + 1 => by rw [wayN, if_neg h]
/-- a step of a way. -/
structure Step (c : Config) (b : Nat) (a : Int) : Prop where
  lt : (nextI c.links (distsL c b) a).toNat < c.links.length
  into : 0 ≤ acrossI (c.links.getD (nextI c.links (distsL c b) a).toNat default) a ∧ acrossI (c.links.getD (nextI c.links (distsL c b) a).toNat default) a < (c.parts.length : Int)
  less : (distsL c b).getD (acrossI (c.links.getD (nextI c.links (distsL c b) a).toNat default) a).toNat default < (distsL c b).getD a.toNat default
  nn : 0 ≤ (distsL c b).getD (acrossI (c.links.getD (nextI c.links (distsL c b) a).toNat default) a).toNat default
theorem step_of {c : Config} {b : Nat} {a : Int} (h : RightF c) (hb : b < c.parts.length) (hz : nextI c.links (distsL c b) a ≥ 0) : Step c b a := by
  have hf := idxF_facts (p := fun i => nextB (c.links.getD i default) a (distsL c b)) c.links.length 0 hz
  have hlt : (nextI c.links (distsL c b) a).toNat < c.links.length := by have := hf.1.2; unfold nextI; omega
  have he := h.ends _ hlt
  have ha := across_in (a := a) he.1 he.2
  have hp := hf.2
  unfold nextB at hp
  simp only [Bool.and_eq_true, decide_eq_true_eq] at hp
  exact ⟨hlt, ha, hp.2, (h.dist hb).nn _ (by omega)⟩
def distI (c : Config) (a b : Int) : Int := if knownB c a b = true then (distsL c b.toNat).getD a.toNat default else -1
def nextC (c : Config) (a b : Int) : Int := if knownB c a b = true then nextI c.links (distsL c b.toNat) a else -1
def wayC (c : Config) (a b : Int) : List Int := if knownB c a b = true then wayN c.links (distsL c b.toNat) c.parts.length a else []
def widthN (c : Config) : Nat → Int
  | 0 => 0
  | i + 1 => if maxTo (distsL c i) c.parts.length > widthN c i then maxTo (distsL c i) c.parts.length else widthN c i
def widthC (c : Config) : Int := if rightB c = true then widthN c c.parts.length else -1
theorem hops_Dist_pc (e : Nat → Addr) (hA : Apart e) (c : Config) (a b : Int) (hp0 : c.parts.length < 1000000) (hl0 : c.links.length < 1000000) : PC Tryd.prog (errG2 e) 8 [D.r (Config.d c), I a, I b] (· = I (distI c a b)) := by
 refine PC.of (N := 18) Tryd.func8 rfl rfl (Nat.le_of_ble_eq_true rfl) ?_
 refine PW.sr [1, 2, 3] 1 trivial ?_
 refine PW.seq ?_
 refine PW.sg ?_
 refine PL.rw 3 [1, 2, 3, 7, 8, 9] 1 trivial ?_
 refine PL.gc (A := []) (fun _ => hops_known_pc e hA c a b hp0 hl0) ?_
 refine PL.rw 1 [1, 2, 3, 11] 1 trivial ?_
 refine PL.nl ?_
 refine PW.cd (!(knownB c a b)) (fun hz0 => ?_) (fun hz0 => ?_)
 ·try simp only [boolS, isB_true, isB_false] at hz0
  try have hk := known_of hz0
  try have hka := hk.a
  try have hkb := hk.b
  try have hk6 := hk.right.len6
  refine PW.sr [6] 1 trivial ?_
  refine PW.ret ?_
  refine retQ_ret (d := I (-1)) (ps := []) (by kernel_rfl) trivial ?_
  unfold distI
  rw [if_neg (by rw [hz0]; decide)]
 ·try simp only [boolS, isB_true, isB_false] at hz0
  try have hk := known_of hz0
  try have hka := hk.a
  try have hkb := hk.b
  try have hk6 := hk.right.len6
  refine PW.skip ?_
  show PW _ _ _ _ _
  refine PW.sg ?_
  refine PL.rw 2 [1, 12, 13] 1 trivial ?_
  refine PL.ci (G := (errG2 e)) (PI.more (dists_pi c b hk.right hk.b)) ?_
  rintro _ _ ⟨rfl, rfl⟩
  refine PL.sl [1, 14] 4 ?_
  refine PL.rw 4 [6] 4 (p := (0 ≤ a ∧ a < (c.parts.length : Int)) ∧ (a.toNat < c.parts.length)) (by omega) ?_
  refine PL.nl ?_
  refine PW.ret ?_
  refine retQ_ret (d := I ((distsL c b.toNat).getD a.toNat default)) (ps := []) (by kernel_rfl) trivial ?_
  unfold distI
  rw [if_pos hz0]
theorem hops_Next_pc (e : Nat → Addr) (hA : Apart e) (c : Config) (a b : Int) (hp0 : c.parts.length < 1000000) (hl0 : c.links.length < 1000000) : PC Tryd.prog (errG2 e) 10 [D.r (Config.d c), I a, I b] (· = I (nextC c a b)) := by
 refine PC.of (N := 19) Tryd.func10 rfl rfl (Nat.le_of_ble_eq_true rfl) ?_
 refine PW.sr [1, 2, 3] 1 trivial ?_
 refine PW.seq ?_
 refine PW.sg ?_
 refine PL.rw 3 [1, 2, 3, 7, 8, 9] 1 trivial ?_
 refine PL.gc (A := []) (fun _ => hops_known_pc e hA c a b hp0 hl0) ?_
 refine PL.rw 1 [1, 2, 3, 11] 1 trivial ?_
 refine PL.nl ?_
 refine PW.cd (!(knownB c a b)) (fun hz0 => ?_) (fun hz0 => ?_)
 ·try simp only [boolS, isB_true, isB_false] at hz0
  try have hk := known_of hz0
  try have hka := hk.a
  try have hkb := hk.b
  try have hk6 := hk.right.len6
  refine PW.sr [6] 1 trivial ?_
  refine PW.ret ?_
  refine retQ_ret (d := I (-1)) (ps := []) (by kernel_rfl) trivial ?_
  unfold nextC
  rw [if_neg (by rw [hz0]; decide)]
 ·try simp only [boolS, isB_true, isB_false] at hz0
  try have hk := known_of hz0
  try have hka := hk.a
  try have hkb := hk.b
  try have hk6 := hk.right.len6
  refine PW.skip ?_
  show PW _ _ _ _ _
  refine PW.seq ?_
  refine PW.open [0] (by kernel_rfl) ?_
  refine PO.tk [0, 3, 5] 8 [3, 12, 15, 17] 5 trivial (fun _ _ h => h) ?_
  refine PO.next (n := 4) [1, 2] (by kernel_rfl) (by simp) ?_
  intro i hi
  simp only [List.mem_cons, List.not_mem_nil, or_false] at hi
  rcases hi with rfl | rfl
  ·skip
   refine PO1.val [3, 13, 15, 17] 1 (s' := { tab := [⟨3, [], D.p 0 0 0 0⟩, ⟨13, [], sl' 6 Link.d c.links⟩, ⟨15, [], I b⟩, ⟨17, [], I a⟩], mem := [Obj.var 25 (Config.d c)], gl := (errG2 e) }) (p := True) rfl (by kernel_rfl) (by kernel_rfl) (by kernel_rfl) (by kernel_rfl) (by kernel_rfl) (by kernel_rfl) (by kernel_rfl) (by kernel_rfl) (by trivial) ?_
   refine PO.one (n := 3) 2 (by kernel_rfl) ?_
   refine PO1.val [13, 14, 15, 17] 1 (s' := { tab := [⟨13, [], sl' 6 Link.d c.links⟩, ⟨14, [], D.r (Config.d c)⟩, ⟨15, [], I b⟩, ⟨17, [], I a⟩], mem := [Obj.var 25 (Config.d c)], gl := (errG2 e) }) (p := True) rfl (by kernel_rfl) (by kernel_rfl) (by kernel_rfl) (by kernel_rfl) (by kernel_rfl) (by kernel_rfl) (by kernel_rfl) (by kernel_rfl) (by trivial) ?_
   refine PO.one (n := 2) 4 (by kernel_rfl) ?_
   refine PO1.ci _ (G := (errG2 e)) (PI.more (dists_pi c b hk.right hk.b)) ?_ rfl
   rintro _ _ ⟨rfl, rfl⟩
   refine PO.sel [13, 16, 17] 4 rfl (by kernel_rfl) ?_
   refine PO.one (n := 1) 6 (by kernel_rfl) ?_
   refine PO1.bo (G := (errG2 e)) (ps := [c.parts.length ≤ c.parts.length]) _ (show (c.parts.length ≤ c.parts.length) from by ((repeat' (first | intro _ | refine And.intro ?_ ?_)) <;> first | omega | trivial | assumption | (rename_i hgd; simp only [Bool.and_eq_true, decide_eq_true_eq, and_true] at hgd; omega))) (PC.more (next_pc c b.toNat a hk.right (by omega))) ?_ rfl
   refine PO.tk [7] 1 [6] 0 trivial (fun _ _ h => h) ?_
   refine PO.done (by kernel_rfl) ?_
   show PW _ _ _ _ _
   refine PW.ret ?_
   refine retQ_ret (d := I (nextI c.links (distsL c b.toNat) a)) (ps := []) (by kernel_rfl) trivial ?_
   unfold nextC
   rw [if_pos hz0]
  ·skip
   refine PO1.val [12, 14, 15, 17] 1 (s' := { tab := [⟨12, [], D.p 0 0 0 1⟩, ⟨14, [], D.r (Config.d c)⟩, ⟨15, [], I b⟩, ⟨17, [], I a⟩], mem := [Obj.var 25 (Config.d c)], gl := (errG2 e) }) (p := True) rfl (by kernel_rfl) (by kernel_rfl) (by kernel_rfl) (by kernel_rfl) (by kernel_rfl) (by kernel_rfl) (by kernel_rfl) (by kernel_rfl) (by trivial) ?_
   refine PO.next (n := 3) [1, 4] (by kernel_rfl) (by simp) ?_
   intro i hi
   simp only [List.mem_cons, List.not_mem_nil, or_false] at hi
   rcases hi with rfl | rfl
   ·skip
    refine PO1.val [13, 14, 15, 17] 1 (s' := { tab := [⟨13, [], sl' 6 Link.d c.links⟩, ⟨14, [], D.r (Config.d c)⟩, ⟨15, [], I b⟩, ⟨17, [], I a⟩], mem := [Obj.var 25 (Config.d c)], gl := (errG2 e) }) (p := True) rfl (by kernel_rfl) (by kernel_rfl) (by kernel_rfl) (by kernel_rfl) (by kernel_rfl) (by kernel_rfl) (by kernel_rfl) (by kernel_rfl) (by trivial) ?_
    refine PO.one (n := 2) 4 (by kernel_rfl) ?_
    refine PO1.ci _ (G := (errG2 e)) (PI.more (dists_pi c b hk.right hk.b)) ?_ rfl
    rintro _ _ ⟨rfl, rfl⟩
    refine PO.sel [13, 16, 17] 4 rfl (by kernel_rfl) ?_
    refine PO.one (n := 1) 6 (by kernel_rfl) ?_
    refine PO1.bo (G := (errG2 e)) (ps := [c.parts.length ≤ c.parts.length]) _ (show (c.parts.length ≤ c.parts.length) from by ((repeat' (first | intro _ | refine And.intro ?_ ?_)) <;> first | omega | trivial | assumption | (rename_i hgd; simp only [Bool.and_eq_true, decide_eq_true_eq, and_true] at hgd; omega))) (PC.more (next_pc c b.toNat a hk.right (by omega))) ?_ rfl
    refine PO.tk [7] 1 [6] 0 trivial (fun _ _ h => h) ?_
    refine PO.done (by kernel_rfl) ?_
    show PW _ _ _ _ _
    refine PW.ret ?_
    refine retQ_ret (d := I (nextI c.links (distsL c b.toNat) a)) (ps := []) (by kernel_rfl) trivial ?_
    unfold nextC
    rw [if_pos hz0]
   ·skip
    refine PO1.ci _ (G := (errG2 e)) (PI.more (dists_pi c b hk.right hk.b)) ?_ rfl
    rintro _ _ ⟨rfl, rfl⟩
    refine PO.sel [12, 16, 17] 4 rfl (by kernel_rfl) ?_
    refine PO.one (n := 2) 1 (by kernel_rfl) ?_
    refine PO1.val [13, 16, 17] 4 (s' := { tab := [⟨13, [], sl' 6 Link.d c.links⟩, ⟨16, [], D.h 3 c.parts.length⟩, ⟨17, [], I a⟩], mem := [Obj.var 25 (Config.d c), Obj.var 25 (Config.d c), Obj.row 3 1 1 (fun k => ([[I (c.parts.length : Int)]][k]?).getD []), Obj.row 3 1 c.parts.length (fun j => [I ((distsL c b.toNat).getD j default)])], gl := (errG2 e) }) (p := True) rfl (by kernel_rfl) (by kernel_rfl) (by kernel_rfl) (by kernel_rfl) (by kernel_rfl) (by kernel_rfl) (by kernel_rfl) (by kernel_rfl) (by trivial) ?_
    refine PO.one (n := 1) 6 (by kernel_rfl) ?_
    refine PO1.bo (G := (errG2 e)) (ps := [c.parts.length ≤ c.parts.length]) _ (show (c.parts.length ≤ c.parts.length) from by ((repeat' (first | intro _ | refine And.intro ?_ ?_)) <;> first | omega | trivial | assumption | (rename_i hgd; simp only [Bool.and_eq_true, decide_eq_true_eq, and_true] at hgd; omega))) (PC.more (next_pc c b.toNat a hk.right (by omega))) ?_ rfl
    refine PO.tk [7] 1 [6] 0 trivial (fun _ _ h => h) ?_
    refine PO.done (by kernel_rfl) ?_
    show PW _ _ _ _ _
    refine PW.ret ?_
    refine retQ_ret (d := I (nextI c.links (distsL c b.toNat) a)) (ps := []) (by kernel_rfl) trivial ?_
    unfold nextC
    rw [if_pos hz0]
theorem hops_Way_pc0 (e : Nat → Addr) (hA : Apart e) (c : Config) (a0 b : Int) (hp0 : c.parts.length < 1000000) (hl0 : c.links.length < 1000000) : PC Tryd.prog (errG2 e) 13 [D.r (Config.d c), I a0, I b] (fun d => d = sl' 1 (fun x => [I x]) (wayC c a0 b) ∨ (d = D.v (.slice none 0 0) ∧ wayC c a0 b = [])) := by
 refine PC.of (N := 42) Tryd.func13 rfl rfl (Nat.le_of_ble_eq_true rfl) ?_
 refine PW.sr [1, 2, 3] 1 trivial ?_
 refine PW.seq ?_
 refine PW.sg ?_
 refine PL.rw 3 [1, 2, 3, 10, 11, 12] 1 trivial ?_
 refine PL.gc (A := []) (fun _ => hops_known_pc e hA c a0 b hp0 hl0) ?_
 refine PL.rw 1 [1, 2, 3, 14] 1 trivial ?_
 refine PL.nl ?_
 refine PW.cd (!(knownB c a0 b)) (fun hz0 => ?_) (fun hz0 => ?_)
 ·try simp only [boolS, isB_true, isB_false] at hz0
  try have hk := known_of hz0
  try have hka := hk.a
  try have hkb := hk.b
  try have hk6 := hk.right.len6
  try have hst := step_of hk.right (b := b.toNat) (by omega) hz0
  try have hs1 := hst.lt
  try have hs2 := hst.into
  try have hs3 := hst.less
  try have hs4 := hst.nn
  try have hk1 : 1 ≤ k := by omega
  refine PW.sr [6] 1 trivial ?_
  refine PW.ret ?_
  refine retQ_ret (d := D.v (.slice none 0 0)) (ps := []) (by kernel_rfl) trivial ?_
  exact .inr ⟨rfl, by unfold wayC; rw [if_neg (by rw [hz0]; decide)]⟩
 ·try simp only [boolS, isB_true, isB_false] at hz0
  try have hk := known_of hz0
  try have hka := hk.a
  try have hkb := hk.b
  try have hk6 := hk.right.len6
  try have hst := step_of hk.right (b := b.toNat) (by omega) hz0
  try have hs1 := hst.lt
  try have hs2 := hst.into
  try have hs3 := hst.less
  try have hs4 := hst.nn
  try have hk1 : 1 ≤ k := by omega
  refine PW.skip ?_
  show PW _ _ _ _ _
  refine PW.sg ?_
  refine PL.rw 2 [1, 3, 15, 16] 1 trivial ?_
  refine PL.ci (G := (errG2 e)) (PI.more (dists_pi c b hk.right hk.b)) ?_
  rintro _ _ ⟨rfl, rfl⟩
  refine PL.sl [1, 3, 17] 4 ?_
  refine PL.rw 1 [1, 3, 7] 4 trivial ?_
  refine PL.nl ?_
  refine PW.sr [1, 3, 7, 8] 4 trivial ?_
  refine PW.seq ?_
  refine PW.sg ?_
  refine PL.rw 4 [1, 3, 7, 8, 19, 20, 21] 4 trivial ?_
  refine PL.bo (G := (errG2 e)) (ps := [c.parts.length ≤ c.parts.length]) (show (c.parts.length ≤ c.parts.length) from by ((repeat' (first | intro _ | refine And.intro ?_ ?_)) <;> first | omega | trivial | assumption | (rename_i hgd; simp only [Bool.and_eq_true, decide_eq_true_eq, and_true] at hgd; omega))) (PC.more (next_pc c b.toNat a0 hk.right (by omega))) ?_
  refine PL.rw 1 [1, 3, 7, 8, 9] 4 trivial ?_
  refine PL.nl ?_
  refine PW.block ?_
  refine PW.born 8 3 1 (by kernel_rfl) ?_
  refine PW.loopR (α := Nat × Int × List Int) (fun (k, a, w) => { tab := [⟨1, [], I a⟩, ⟨3, [], D.p 0 0 0 0⟩, ⟨7, [], D.h 3 c.parts.length⟩, ⟨8, [], D.h 4 w.length⟩, ⟨9, [], I (nextI c.links (distsL c b.toNat) a)⟩], mem := [Obj.var 25 (Config.d c), Obj.var 25 (Config.d c), Obj.row 3 1 1 (fun k => ([[I (c.parts.length : Int)]][k]?).getD []), Obj.row 3 1 c.parts.length (fun j => [I ((distsL c b.toNat).getD j default)]), Obj.row 3 1 w.length (fun j => [I (w.getD j default)])], gl := (errG2 e) }) (fun (k, a, w) => (0 ≤ a ∧ a < (c.parts.length : Int)) ∧ ((distsL c b.toNat).getD a.toNat default < (k : Int) ∧ w.length + k ≤ c.parts.length) ∧ wayN c.links (distsL c b.toNat) c.parts.length a0 = w ++ wayN c.links (distsL c b.toNat) k a) (fun (k, a, w) => k) [1, 3, 7, 8, 9] 5 (c.parts.length, a0, []) (s1 := { tab := [⟨1, [], I a0⟩, ⟨3, [], D.p 0 0 0 0⟩, ⟨7, [], D.h 3 c.parts.length⟩, ⟨8, [], D.h 4 0⟩, ⟨9, [], I (nextI c.links (distsL c b.toNat) a0)⟩], mem := [Obj.var 25 (Config.d c), Obj.var 25 (Config.d c), Obj.row 3 1 1 (fun k => ([[I (c.parts.length : Int)]][k]?).getD []), Obj.row 3 1 c.parts.length (fun j => [I ((distsL c b.toNat).getD j default)]), Obj.row 3 1 0 (fun _ => [])], gl := (errG2 e) }) (by kernel_rfl) (by kernel_rfl) ?_ ?_ ?_
  ·dsimp only
   exact ⟨rfl, rfl, rfl, .same (.same (.same (.same (.row rfl (fun j hj => absurd hj (Nat.not_lt_zero _)) .nil))))⟩
  ·dsimp only
   exact ⟨by omega, ⟨hk.right.low (by omega) _ (by omega), by simp⟩, rfl⟩
  rintro ⟨k, a, w⟩ hinv
  dsimp only at hinv
  show PW _ _ _ _ _
  refine PW.seq ?_
  refine PW.sr [1, 3, 7, 8, 9, 24] 5 trivial ?_
  refine PW.cd (decide ((nextI c.links (distsL c b.toNat) a) ≥ (0 : Int))) (fun hz1 => ?_) (fun hz1 => ?_)
  ·try simp only [boolS, isB_true, isB_false] at hz1
   try have hk := known_of hz1
   try have hka := hk.a
   try have hkb := hk.b
   try have hk6 := hk.right.len6
   try have hst := step_of hk.right (b := b.toNat) (by omega) hz1
   try have hs1 := hst.lt
   try have hs2 := hst.into
   try have hs3 := hst.less
   try have hs4 := hst.nn
   try have hk1 : 1 ≤ k := by omega
   refine PW.skip ?_
   show PW _ _ _ _ _
   refine PW.seq ?_
   refine PW.block ?_
   refine PW.sg ?_
   refine PL.rw 4 [1, 3, 7, 9, 33] 6 (p := ((w.length = w.length ∧ 1 ≤ 1) ∧ (w.length + 1) * 8 ≤ 140737488355328 ∧ w.length + 1 ≤ 9223372036854775807)) (by omega) ?_
   refine PL.rm 4 (t := 3) (z := 1) (n := (w.length + 1)) (fun j => if j < w.length then (fun j => [I (w.getD j default)]) j else (fun k => ([[I (nextI c.links (distsL c b.toNat) a)]][k]?).getD []) (j - w.length)) (fun j => [I ((w ++ [nextI c.links (distsL c b.toNat) a]).getD j default)]) (fun j hj => by (try dsimp only); rw [getD_app w [nextI c.links (distsL c b.toNat) a] j default, show w.length = w.length from (by (try simp only [List.length_set, List.length_replicate, List.length_append, List.length_cons, List.length_nil]) <;> omega)]; split <;> first | rfl | (rename_i hjn; rw [show j - w.length = 0 by omega]; rfl)) ?_
   refine PL.rw 1 [1, 3, 7, 8, 9] 6 trivial ?_
   refine PL.nl ?_
   refine PW.region ?_
   refine PL.rw 6 [3, 7, 8, 38, 39] 6 (p := (0 ≤ (nextI c.links (distsL c b.toNat) a) ∧ (nextI c.links (distsL c b.toNat) a) < (c.links.length : Int))) (by omega) ?_
   refine PL.gc (G := (errG2 e)) (A := []) (fun _ => PC.more (hops_across_pc (c.links.getD ((nextI c.links (distsL c b.toNat) a).toNat) default) a)) ?_
   refine PL.rw 1 [1, 3, 7, 8] 6 trivial ?_
   refine PL.nil ?_
   show PW _ _ _ _ _
   refine PW.region ?_
   refine PL.rw 4 [1, 3, 7, 8, 26, 27, 28] 6 trivial ?_
   refine PL.bo (G := (errG2 e)) (ps := [c.parts.length ≤ c.parts.length]) (show (c.parts.length ≤ c.parts.length) from by ((repeat' (first | intro _ | refine And.intro ?_ ?_)) <;> first | omega | trivial | assumption | (rename_i hgd; simp only [Bool.and_eq_true, decide_eq_true_eq, and_true] at hgd; omega))) (PC.more (next_pc c b.toNat (acrossI (c.links.getD ((nextI c.links (distsL c b.toNat) a).toNat) default) a) hk.right (by omega))) ?_
   refine PL.rw 1 [1, 3, 7, 8, 9] 6 trivial ?_
   refine PL.nil ?_
   refine BackR.of (s1 := { tab := [⟨1, [], I (acrossI (c.links.getD ((nextI c.links (distsL c b.toNat) a).toNat) default) a)⟩, ⟨3, [], D.p 0 0 0 0⟩, ⟨7, [], D.h 3 c.parts.length⟩, ⟨8, [], D.h 4 (w.length + 1)⟩, ⟨9, [], I (nextI c.links (distsL c b.toNat) (acrossI (c.links.getD ((nextI c.links (distsL c b.toNat) a).toNat) default) a))⟩], mem := [Obj.var 25 (Config.d c), Obj.var 25 (Config.d c), Obj.row 3 1 1 (fun k => ([[I (c.parts.length : Int)]][k]?).getD []), Obj.row 3 1 c.parts.length (fun j => [I ((distsL c b.toNat).getD j default)]), Obj.row 3 1 (w.length + 1) (fun j => [I ((w ++ [nextI c.links (distsL c b.toNat) a]).getD j default)])], gl := (errG2 e) }) (k - 1, acrossI (c.links.getD ((nextI c.links (distsL c b.toNat) a).toNat) default) a, w ++ [nextI c.links (distsL c b.toNat) a]) (by kernel_rfl) (by kernel_rfl) ?_ ?_ ?_
   ·dsimp only
    simp only [List.length_append, List.length_singleton]
    exact Rem.refl _
   ·dsimp only
    refine ⟨hs2, ⟨by omega, by simp; omega⟩, ?_⟩
    rw [hinv.2.2]
    obtain ⟨k', rfl⟩ : ∃ k', k = k' + 1 := ⟨k - 1, by omega⟩
    rw [wayN, if_pos hz1, List.append_assoc, Nat.add_sub_cancel]
    rfl
   ·dsimp only
    omega
  ·try simp only [boolS, isB_true, isB_false] at hz1
   try have hk := known_of hz1
   try have hka := hk.a
   try have hkb := hk.b
   try have hk6 := hk.right.len6
   try have hst := step_of hk.right (b := b.toNat) (by omega) hz1
   try have hs1 := hst.lt
   try have hs2 := hst.into
   try have hs3 := hst.less
   try have hs4 := hst.nn
   try have hk1 : 1 ≤ k := by omega
   refine PW.exit ?_
   show PW _ _ _ _ _
   refine PW.sr [6] 5 trivial ?_
   refine PW.ret ?_
   refine retQ_ret (d := D.s w.length 1 (fun j => [I (w.getD j default)])) (ps := [w.length ≤ w.length]) (by kernel_rfl) (show (w.length ≤ w.length) from by ((repeat' (first | intro _ | refine And.intro ?_ ?_)) <;> first | omega | trivial | assumption | (rename_i hgd; simp only [Bool.and_eq_true, decide_eq_true_eq, and_true] at hgd; omega))) ?_
   have hw : wayC c a0 b = w := by
     unfold wayC
     rw [if_pos hz0, hinv.2.2, way_end hz1, List.append_nil]
   rw [hw]
   exact .inl rfl
theorem hops_Way_pc (e : Nat → Addr) (hA : Apart e) (c : Config) (a b : Int) (hp0 : c.parts.length < 1000000) (hl0 : c.links.length < 1000000) : PC Tryd.prog (errG2 e) 13 [D.r (Config.d c), I a, I b] (· = sl' 1 (fun x => [I x]) (wayC c a b)) := PC.list (hops_Way_pc0 e hA c a b hp0 hl0)
theorem hops_Width_pc (e : Nat → Addr) (hA : Apart e) (c : Config) (hp0 : c.parts.length < 1000000) (hl0 : c.links.length < 1000000) : PC Tryd.prog (errG2 e) 15 [D.r (Config.d c)] (· = I (widthC c)) := by
 refine PC.of (N := 22) Tryd.func15 rfl rfl (Nat.le_of_ble_eq_true rfl) ?_
 refine PW.sr [1] 1 trivial ?_
 refine PW.seq ?_
 refine PW.sg ?_
 refine PL.rw 1 [1, 5] 1 trivial ?_
 refine PL.gc (A := []) (fun _ => hops_right_pc e hA c hp0 hl0) ?_
 refine PL.rw 1 [1, 7] 1 trivial ?_
 refine PL.nl ?_
 refine PW.cd (!(rightB c)) (fun hz0 => ?_) (fun hz0 => ?_)
 ·try simp only [boolS, isB_true, isB_false] at hz0
  try have hr := right_of ((rightB_iff c).1 hz0)
  try have hk6 := hr.len6
  refine PW.sr [2] 1 trivial ?_
  refine PW.ret ?_
  refine retQ_ret (d := I (-1)) (ps := []) (by kernel_rfl) trivial ?_
  unfold widthC
  rw [if_neg (by rw [hz0]; decide)]
 ·try simp only [boolS, isB_true, isB_false] at hz0
  try have hr := right_of ((rightB_iff c).1 hz0)
  try have hk6 := hr.len6
  refine PW.skip ?_
  show PW _ _ _ _ _
  refine PW.sr [1, 3] 1 trivial ?_
  refine PW.seq ?_
  refine PW.sr [1, 3, 10, 11] 1 trivial ?_
  refine PW.block ?_
  refine PW.lp (α := Nat × Int) (fun (i, w) => { tab := [⟨1, [], D.p 0 0 0 0⟩, ⟨3, [], I w⟩, ⟨10, [], I (c.parts.length : Int)⟩, ⟨11, [], I (i : Int)⟩], mem := [Obj.var 25 (Config.d c)], gl := (errG2 e) }) (fun (i, w) => i ≤ c.parts.length ∧ w = widthN c i) (fun (i, w) => c.parts.length - i) [1, 3, 10, 11] 1 (0, 0) ?_ ?_
  ·dsimp only
   exact ⟨Nat.zero_le _, rfl⟩
  rintro ⟨i, w⟩ hinv
  dsimp only at hinv
  show PW _ _ _ _ _
  refine PW.sr [1, 3, 10, 11, 12] 1 trivial ?_
  refine PW.seq ?_
  refine PW.cd (decide ((i : Int) < (c.parts.length : Int))) (fun hz1 => ?_) (fun hz1 => ?_)
  ·try simp only [boolS, isB_true, isB_false] at hz1
   try have hr := right_of ((rightB_iff c).1 hz1)
   try have hk6 := hr.len6
   refine PW.skip ?_
   show PW _ _ _ _ _
   refine PW.seq ?_
   refine PW.block ?_
   refine PW.sr [1, 3, 4, 10, 11] 1 trivial ?_
   refine PW.region ?_
   refine PL.rw 3 [1, 10, 11, 14, 15, 16] 1 trivial ?_
   refine PL.ci (G := (errG2 e)) (PI.more (dists_pi c (i : Int) hr (by omega))) ?_
   rintro _ _ ⟨rfl, rfl⟩
   refine PL.sl [1, 10, 11, 14, 17] 4 ?_
   refine PL.bo (G := (errG2 e)) (ps := [c.parts.length ≤ c.parts.length]) (show (c.parts.length ≤ c.parts.length) from by ((repeat' (first | intro _ | refine And.intro ?_ ?_)) <;> first | omega | trivial | assumption | (rename_i hgd; simp only [Bool.and_eq_true, decide_eq_true_eq, and_true] at hgd; omega))) (PC.more (max_pc c i hr)) ?_
   refine PL.rw 2 [1, 3, 10, 11] 4 trivial ?_
   refine PL.nil ?_
   show PW _ _ _ _ _
   refine PW.rr [1, 3, 10, 11] 4 trivial ?_
   refine BackR.of (s1 := { tab := [⟨1, [], D.p 0 0 0 0⟩, ⟨3, [], I (if maxTo (distsL c i) c.parts.length > w then maxTo (distsL c i) c.parts.length else w)⟩, ⟨10, [], I (c.parts.length : Int)⟩, ⟨11, [], I (IntKind.i64.wrap ((i : Int) + 1))⟩], mem := [Obj.var 25 (Config.d c)], gl := (errG2 e) }) (i + 1, if maxTo (distsL c i) c.parts.length > w then maxTo (distsL c i) c.parts.length else w) (by kernel_rfl) (by kernel_rfl) ?_ ?_ ?_
   ·dsimp only
    rw [wrap1 i (by omega)]
    exact Rem.refl _
   ·dsimp only
    exact ⟨by omega, by rw [widthN, ← hinv.2]⟩
   ·dsimp only
    ((repeat' (first | intro _ | refine And.intro ?_ ?_)) <;> first | omega | trivial | assumption | (rename_i hgd; simp only [Bool.and_eq_true, decide_eq_true_eq, and_true] at hgd; omega))
  ·try simp only [boolS, isB_true, isB_false] at hz1
   try have hr := right_of ((rightB_iff c).1 hz1)
   try have hk6 := hr.len6
   refine PW.exit ?_
   show PW _ _ _ _ _
   refine PW.sr [2] 1 trivial ?_
   refine PW.ret ?_
   refine retQ_ret (d := I w) (ps := []) (by kernel_rfl) trivial ?_
   unfold widthC
   rw [if_pos hz0, hinv.2, show i = c.parts.length by omega]
end Go.Proofs.YtleflkgdbagmnaaDoor.Pl
