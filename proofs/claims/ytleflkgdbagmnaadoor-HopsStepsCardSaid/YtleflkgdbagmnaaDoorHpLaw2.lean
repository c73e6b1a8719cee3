/- Chapter 6's laws: HopsWays, HopsSteps. -/
import Derived.Test.YtleflkgdbagmnaaDoorHpLaw
import Derived.Test.YtleflkgdbagmnaaDoorDpX
import Derived.Test.YtleflkgdbagmnaaDoorMdNets
namespace Go.Proofs.YtleflkgdbagmnaaDoor.Pl
open Go.RowKit Go.Proofs.YtleflkgdbagmnaaDoor.Sm Go.Proofs.YtleflkgdbagmnaaDoor.Dp
set_option maxHeartbeats 4000000
set_option maxRecDepth 100000
set_option linter.unusedVariables false
set_option linter.unusedSimpArgs false
theorem maxTo_ge (xs : List Int) : ∀ (m j : Nat), j < m → xs.getD j default ≤ maxTo xs m
  | 0, j, h => by omega
  | m + 1, j, h => by
    rw [maxTo]
    rcases Nat.lt_or_ge j m with h1 | h1
    · have := maxTo_ge xs m j h1
      split <;> omega
    · obtain rfl : j = m := by omega
      split <;> omega
theorem maxTo_lt {xs : List Int} {B : Int} {n : Nat} (hn : 1 ≤ n) (h : ∀ j, j < n → xs.getD j default < B) : ∀ m, m ≤ n → maxTo xs m < B
  | 0, _ => h 0 (by omega)
  | m + 1, hm => by
    rw [maxTo]
    have h1 := h m (by omega)
    have h2 := maxTo_lt hn h m (by omega)
    split <;> omega
theorem widthN_ge (c : Config) : ∀ (m i : Nat), i < m → maxTo (distsL c i) c.parts.length ≤ widthN c m
  | 0, i, h => by omega
  | m + 1, i, h => by
    rw [widthN]
    rcases Nat.lt_or_ge i m with h1 | h1
    · have := widthN_ge c m i h1
      split <;> omega
    · obtain rfl : i = m := by omega
      split <;> omega
theorem widthN_lt {c : Config} {B : Int} (hB : 0 < B) (h : ∀ i, i < c.parts.length → maxTo (distsL c i) c.parts.length < B) : ∀ m, m ≤ c.parts.length → widthN c m < B
  | 0, _ => hB
  | m + 1, hm => by
    rw [widthN]
    have h1 := h m (by omega)
    have h2 := widthN_lt hB h m (by omega)
    split <;> omega
theorem distI_eq {c : Config} {a b : Int} (h : KnownF c a b) (hr : rightB c = true) : distI c a b = (distsL c b.toNat).getD a.toNat default := if_pos (known_mk h hr)
theorem known_all {c : Config} (hr : rightB c = true) {a b : Int} (ha : 0 ≤ a ∧ a < (c.parts.length : Int)) (hb : 0 ≤ b ∧ b < (c.parts.length : Int)) : KnownF c a b := ⟨right_of ((rightB_iff c).1 hr), ha, hb⟩
theorem dist_facts {c : Config} (hr : rightB c = true) {a b : Int} (ha : 0 ≤ a ∧ a < (c.parts.length : Int)) (hb : 0 ≤ b ∧ b < (c.parts.length : Int)) :
    0 ≤ distI c a b ∧ distI c a b < (c.parts.length : Int) ∧ (distI c a b = 0 ↔ a = b) ∧ distI c a b = distI c b a ∧ distI c a b ≤ widthC c := by
  have hk := known_all hr ha hb
  have R := hk.right
  rw [distI_eq hk hr, distI_eq (known_all hr hb ha) hr]
  have D := R.dist (o := b.toNat) (by omega)
  have h1 := D.nn a.toNat (by omega)
  have h2 := R.low (o := b.toNat) (by omega) a.toNat (by omega)
  have h3 := D.zo a.toNat (by omega)
  have h4 := D.orig
  try dsimp only at h1 h3 h4
  refine ⟨h1, h2, ⟨fun h => ?_, fun h => ?_⟩, R.sym (by omega) (by omega), ?_⟩
  · have := h3 h; omega
  · subst h; exact h4
  · unfold widthC
    rw [if_pos hr]
    exact Int.le_trans (maxTo_ge _ _ _ (by omega)) (widthN_ge c c.parts.length b.toNat (by omega))
theorem dist_tri {c : Config} (hr : rightB c = true) {a b d : Int} (ha : 0 ≤ a ∧ a < (c.parts.length : Int)) (hb : 0 ≤ b ∧ b < (c.parts.length : Int)) (hd : 0 ≤ d ∧ d < (c.parts.length : Int)) : distI c a b ≤ distI c a d + distI c d b := by
  have R := (known_all hr ha hb).right
  have D := R.dist (o := b.toNat) (by omega)
  have E := R.dist (o := a.toNat) (by omega)
  have h0 := E.nn d.toNat (by omega)
  try dsimp only at h0
  have := D.tri R.inN E ((distsL c a.toNat).getD d.toNat default).toNat d.toNat (by omega) (by (try dsimp only); omega)
  try dsimp only at this
  rw [(dist_facts hr ha hd).2.2.2.1, distI_eq (known_all hr ha hb) hr, distI_eq (known_all hr hd ha) hr, distI_eq (known_all hr hd hb) hr]
  omega
theorem width_lt {c : Config} (hr : rightB c = true) : widthC c < (c.parts.length : Int) := by
  have R := right_of ((rightB_iff c).1 hr)
  have h1 := R.len1
  unfold widthC
  rw [if_pos hr]
  exact widthN_lt (by omega) (fun i hi => maxTo_lt h1 (fun j hj => R.low hi j hj) _ (Nat.le_refl _)) _ (Nat.le_refl _)
theorem step_one {c : Config} {b : Nat} {a : Int} (h : RightF c) (hb : b < c.parts.length) (ha : 0 ≤ a ∧ a < (c.parts.length : Int)) (hz : nextI c.links (distsL c b) a ≥ 0) : (distsL c b).getD (acrossI (c.links.getD (nextI c.links (distsL c b) a).toNat default) a).toNat default = (distsL c b).getD a.toNat default - 1 := by
  have hs := step_of h hb hz
  have he := step_end hz
  have hl := (h.dist hb).lip _ hs.lt
  have h1 := hs.less
  try dsimp only at hl
  have : (distsL c b).getD a.toNat default ≤ (distsL c b).getD (acrossI (c.links.getD (nextI c.links (distsL c b) a).toNat default) a).toNat default + 1 := by
    unfold acrossI
    rcases he with e | e
    · rw [if_pos e]; rw [e] at hl; omega
    · split
      · rename_i e1; rw [e1] at hl; omega
      · rw [e] at hl; omega
  omega
theorem wayN_dist {c : Config} {b : Nat} (h : RightF c) (hb : b < c.parts.length) : ∀ (k : Nat) (a : Int), 0 ≤ a ∧ a < (c.parts.length : Int) → (distsL c b).getD a.toNat default < k → ((wayN c.links (distsL c b) k a).length : Int) = (distsL c b).getD a.toNat default
  | 0, a, ha, hd => by
    have := (h.dist hb).nn a.toNat (by omega)
    try dsimp only at this
    omega
  | k + 1, a, ha, hd => by
    rw [wayN]
    by_cases hz : nextI c.links (distsL c b) a ≥ 0
    · have hs := step_of h hb hz
      have h1 := step_one h hb ha hz
      have h2 := wayN_dist h hb k _ hs.into (by omega)
      rw [if_pos hz, List.length_cons]
      omega
    · rw [if_neg hz]
      have h1 := fun h2 => hz ((h.next hb ha).2 h2)
      have h3 : a = (b : Int) := Classical.byContradiction h1
      have h4 := (h.dist hb).orig
      try dsimp only at h4
      rw [h3, Int.toNat_natCast, h4]
      rfl
theorem wayC_dist {c : Config} (hr : rightB c = true) {a b : Int} (ha : 0 ≤ a ∧ a < (c.parts.length : Int)) (hb : 0 ≤ b ∧ b < (c.parts.length : Int)) : ((wayC c a b).length : Int) = distI c a b := by
  have hk := known_all hr ha hb
  rw [distI_eq hk hr]
  unfold wayC
  rw [if_pos (known_mk hk hr)]
  exact wayN_dist hk.right (by omega) _ _ ha (hk.right.low (by omega) _ (by omega))
/-- a step of a way, as the law looks at it. -/
structure LawStep (c : Config) (x y : Int) (L : List Int) (i k : Nat) : Prop where
  i0 : 0 ≤ L.getD i default
  i1 : L.getD i default < (c.links.length : Int)
  next : nextC c x y = L.getD i default
  ends : (c.links.getD (L.getD i default).toNat default).a = x ∨ (c.links.getD (L.getD i default).toNat default).b = x
  into : 0 ≤ acrossI (c.links.getD (L.getD i default).toNat default) x ∧ acrossI (c.links.getD (L.getD i default).toNat default) x < (c.parts.length : Int)
  dist : distI c (acrossI (c.links.getD (L.getD i default).toNat default) x) y = distI c x y - 1
  drop : L.drop (i + 1) = wayN c.links (distsL c y.toNat) (k - 1) (acrossI (c.links.getD (L.getD i default).toNat default) x)
  k1 : 1 ≤ k
theorem law_step {c : Config} (hr : rightB c = true) {x y : Int} (hx : 0 ≤ x ∧ x < (c.parts.length : Int)) (hy : 0 ≤ y ∧ y < (c.parts.length : Int)) {L : List Int} {i k : Nat} (hi : i < L.length) (hL : L.drop i = wayN c.links (distsL c y.toNat) k x) : LawStep c x y L i k := by
  have hk := known_all hr hx hy
  rw [List.drop_eq_getElem_cons hi] at hL
  have hg : L.getD i default = L[i] := by rw [List.getD_eq_getElem?_getD, List.getElem?_eq_getElem hi]; rfl
  cases k with
  | zero => simp [wayN] at hL; omega
  | succ k =>
    rw [wayN] at hL
    by_cases hz : nextI c.links (distsL c y.toNat) x ≥ 0
    · rw [if_pos hz] at hL
      injection hL with e1 e2
      rw [← hg] at e1
      have hs := step_of hk.right (b := y.toNat) (by omega) hz
      have he := step_end hz
      have ho := step_one hk.right (b := y.toNat) (by omega) hx hz
      have h1 := hs.lt
      rw [← e1] at hz he ho e2 h1
      have hin : 0 ≤ acrossI (c.links.getD (L.getD i default).toNat default) x ∧ acrossI (c.links.getD (L.getD i default).toNat default) x < (c.parts.length : Int) := by rw [e1]; exact hs.into
      refine ⟨by omega, by omega, ?_, he, hin, ?_, e2, by omega⟩
      · unfold nextC; rw [if_pos (known_mk hk hr), e1]
      · rw [distI_eq (known_all hr hin hy) hr, distI_eq hk hr]; exact ho
    · rw [if_neg hz] at hL; cases hL
theorem ends_sum {l : Link} {x : Int} (h : l.a = x ∨ l.b = x) : l.a + l.b - x = acrossI l x := by unfold acrossI; split <;> omega
theorem mod_in {a : Int} {n : Nat} (ha : (Lit.int .u8 a).wf = true) (hn : 1 ≤ n) : 0 ≤ (IntKind.i64.wrap a).tmod (n : Int) ∧ (IntKind.i64.wrap a).tmod (n : Int) < (n : Int) := by
  have h := bounds_u8 ha
  rw [Ev.wrap_i64 (by omega) (by omega)]
  exact ⟨Int.tmod_nonneg _ h.1, Int.tmod_lt_of_pos _ (by omega)⟩
theorem drumlinelaw6_HopsWays_pc (e : Nat → Addr) (hA : Apart e) (n a b dd : Int) (c : Config) (hM : PC Tryd.prog (errG2 e) 17 [I n] (· = D.r (Config.d c))) (hr : rightB c = true) (hp1 : 1 ≤ c.parts.length ∧ c.parts.length ≤ 4) (hl0 : c.links.length < 1000000) (x : Int) (hx : (IntKind.i64.wrap a).tmod (c.parts.length : Int) = x) (hxr : 0 ≤ x ∧ x < (c.parts.length : Int)) (y : Int) (hy : (IntKind.i64.wrap b).tmod (c.parts.length : Int) = y) (hyr : 0 ≤ y ∧ y < (c.parts.length : Int)) (z : Int) (hz : (IntKind.i64.wrap dd).tmod (c.parts.length : Int) = z) (hzr : 0 ≤ z ∧ z < (c.parts.length : Int))  : PC Tryd.prog (errG2 e) 6 [I n, D.v (.int .u8 a), D.v (.int .u8 b), D.v (.int .u8 dd)] (· = D.v (.bool true)) := by
 refine PC.of (N := 85) Tryd.func6 rfl rfl (Nat.le_of_ble_eq_true rfl) ?_
 refine PW.sr [0, 1, 2, 3] 0 trivial ?_
 refine PW.seq ?_
 refine PW.sg ?_
 refine PL.gc (A := []) (fun _ => drumlinelaw6_alive_pc e hA) ?_
 refine PL.rw 1 [0, 1, 2, 3, 15] 0 trivial ?_
 refine PL.nl ?_
 refine PW.cd false (fun hz0 => by cases hz0) (fun hz0 => ?_)
 refine PW.skip ?_
 show PW _ _ _ _ _
 refine PW.sg ?_
 refine PL.rw 1 [1, 2, 3, 16] 0 trivial ?_
 refine PL.gc (A := []) (fun _ => hM) ?_
 refine PL.rw 2 [1, 2, 3, 9] 1 trivial ?_
 refine PL.nl ?_
 refine PW.oj ({ tab := [⟨9, [], D.p 0 0 0 0⟩, ⟨10, [], I x⟩, ⟨11, [], I y⟩, ⟨12, [], I z⟩], mem := [Obj.var 25 (Config.d c)], gl := (errG2 e) }) ?_ ?_
 ·show PW _ _ _ _ _
  refine PW.sg ?_
  refine PL.rw 3 [9, 10, 11, 12, 36, 37, 38] 1 trivial ?_
  refine PL.gc (A := []) (fun _ => hops_Dist_pc e hA c x y (by omega) (by omega)) ?_
  refine PL.rw 1 [9, 10, 11, 12, 13] 1 trivial ?_
  refine PL.nl ?_
  refine PW.seq ?_
  refine PW.open [] (by kernel_rfl) ?_
  refine PO.tk [0, 1, 2, 3] 46 [9, 10, 11, 12, 13, 40, 41, 42, 43] 42 trivial (fun _ _ h => h) ?_
  refine PO.one (n := 41) 4 (by kernel_rfl) ?_
  refine PO1.gc _ (A := []) (fun _ => hops_Dist_pc e hA c y x (by omega) (by omega)) ?_ rfl
  refine PO.tk [5, 6, 7, 8, 9, 10, 12, 13, 14] 41 [9, 10, 11, 13, 46, 47, 48, 49, 50, 52, 53, 54] 32 trivial (fun _ _ h => h) ?_
  refine PO.one (n := 31) 11 (by kernel_rfl) ?_
  refine PO1.gc _ (A := [(46, true)]) (fun _ => hops_Dist_pc e hA c x z (by omega) (by omega)) ?_ rfl
  refine PO.one (n := 30) 15 (by kernel_rfl) ?_
  refine PO1.gc _ (A := [(46, true)]) (fun _ => hops_Dist_pc e hA c z y (by omega) (by omega)) ?_ rfl
  refine PO.tk [16, 17, 18, 19, 20, 21, 22, 23, 24, 25] 30 [9, 10, 11, 13, 63, 64, 65] 20 trivial (fun _ _ h => h) ?_
  refine PO.one (n := 19) 26 (by kernel_rfl) ?_
  refine PO1.gc _ (A := [(63, true)]) (fun _ => hops_Width_pc e hA c (by omega) (by omega)) ?_ rfl
  refine PO.tk [27, 28, 29, 30, 31, 32, 33, 34, 35, 36, 37, 38, 40, 41, 42] 19 [77, 78, 82] 4 trivial (fun _ _ h => h) ?_
  refine PO.one (n := 3) 39 (by kernel_rfl) ?_
  refine PO1.gc _ (A := [(77, true)]) (fun _ => hops_Width_pc e hA c (by omega) (by omega)) ?_ rfl
  refine PO.tk [43, 44, 45] 3 [8] 0 trivial (fun _ _ h => h) ?_
  refine PO.done (by kernel_rfl) ?_
  show PW _ _ _ _ _
  refine PW.ret ?_
  refine retQ_ret (d := D.v (.bool (((((((distI c x y) == (distI c y x)) && (decide ((distI c x y) ≤ (IntKind.i64.wrap ((distI c x z) + (distI c z y)))))) && (decide ((distI c x y) ≥ (0 : Int)))) && (decide ((distI c x y) ≤ (widthC c)))) && (((distI c x y) == (0 : Int)) == (x == y))) && (decide ((widthC c) < (c.parts.length : Int)))))) (ps := []) (by kernel_rfl) trivial ?_
  have f1 := dist_facts hr hxr hyr
  have f2 := dist_facts hr hxr hzr
  have f3 := dist_facts hr hzr hyr
  have f4 := dist_tri hr hxr hyr hzr
  have f5 := width_lt hr
  rw [Ev.wrap_i64 (x := distI c x z + distI c z y) (by omega) (by omega)]
  have q1 : (distI c x y == distI c y x) = true := by rw [beq_iff_eq]; exact f1.2.2.2.1
  have q2 : ((distI c x y == (0 : Int)) == (x == y)) = true := by rw [beq_iff_eq, Bool.eq_iff_iff, beq_iff_eq, beq_iff_eq]; exact f1.2.2.1
  rw [q1, q2, decide_eq_true f4, decide_eq_true f1.1, decide_eq_true f1.2.2.2.2, decide_eq_true f5]
  rfl
 ·skip
  refine PW.open [] (by kernel_rfl) ?_
  refine PO.tk [0, 1, 2, 3, 4, 6, 7, 8, 9, 10, 12, 13, 14, 15, 16] 21 [9, 19, 22, 25, 28, 31, 34] 6 trivial (fun _ _ h => h) ?_
  refine PO.next (n := 5) [5, 11, 17] (by kernel_rfl) (by simp) ?_
  intro i hi
  simp only [List.mem_cons, List.not_mem_nil, or_false] at hi
  rcases hi with rfl | rfl | rfl
  ·skip
   refine PO1.div (k := .i64) (A := []) (IntKind.i64.wrap a) (c.parts.length : Int) ((IntKind.i64.wrap a).tmod (c.parts.length : Int)) rfl rfl (by first | exact .inl ⟨rfl, rfl⟩ | exact .inr ⟨rfl, rfl⟩) (by kernel_rfl) (by kernel_rfl) (by kernel_rfl) (by kernel_rfl) (by kernel_rfl) (fun _ => by omega) ?_
   refine PO.tk [18] 5 [9, 10, 25, 28, 31, 34] 4 trivial (fun _ _ h => h) ?_
   refine PO.next (n := 3) [11, 17] (by kernel_rfl) (by simp) ?_
   intro i hi
   simp only [List.mem_cons, List.not_mem_nil, or_false] at hi
   rcases hi with rfl | rfl
   ·skip
    refine PO1.div (k := .i64) (A := []) (IntKind.i64.wrap b) (c.parts.length : Int) ((IntKind.i64.wrap b).tmod (c.parts.length : Int)) rfl rfl (by first | exact .inl ⟨rfl, rfl⟩ | exact .inr ⟨rfl, rfl⟩) (by kernel_rfl) (by kernel_rfl) (by kernel_rfl) (by kernel_rfl) (by kernel_rfl) (fun _ => by omega) ?_
    refine PO.tk [19] 3 [9, 10, 11, 31, 34] 2 trivial (fun _ _ h => h) ?_
    refine PO.one (n := 1) 17 (by kernel_rfl) ?_
    refine PO1.div (k := .i64) (A := []) (IntKind.i64.wrap dd) (c.parts.length : Int) ((IntKind.i64.wrap dd).tmod (c.parts.length : Int)) rfl rfl (by first | exact .inl ⟨rfl, rfl⟩ | exact .inr ⟨rfl, rfl⟩) (by kernel_rfl) (by kernel_rfl) (by kernel_rfl) (by kernel_rfl) (by kernel_rfl) (fun _ => by omega) ?_
    refine PO.tk [20] 1 [9, 10, 11, 12] 0 trivial (fun _ _ h => h) ?_
    refine PO.eq (s' := { tab := [⟨9, [], D.p 0 0 0 0⟩, ⟨10, [], I ((IntKind.i64.wrap a).tmod (c.parts.length : Int))⟩, ⟨11, [], I ((IntKind.i64.wrap b).tmod (c.parts.length : Int))⟩, ⟨12, [], I ((IntKind.i64.wrap dd).tmod (c.parts.length : Int))⟩], mem := [Obj.var 25 (Config.d c)], gl := (errG2 e) }) (by kernel_rfl) ?_
    refine PO.eq (s' := { tab := [⟨9, [], D.p 0 0 0 0⟩, ⟨10, [], I x⟩, ⟨11, [], I y⟩, ⟨12, [], I z⟩], mem := [Obj.var 25 (Config.d c)], gl := (errG2 e) }) (by rw [hx, hy, hz]) ?_
    refine PO.done (by kernel_rfl) ?_
    exact (show _ = _ from by kernel_rfl)
   ·skip
    refine PO1.div (k := .i64) (A := []) (IntKind.i64.wrap dd) (c.parts.length : Int) ((IntKind.i64.wrap dd).tmod (c.parts.length : Int)) rfl rfl (by first | exact .inl ⟨rfl, rfl⟩ | exact .inr ⟨rfl, rfl⟩) (by kernel_rfl) (by kernel_rfl) (by kernel_rfl) (by kernel_rfl) (by kernel_rfl) (fun _ => by omega) ?_
    refine PO.one (n := 2) 11 (by kernel_rfl) ?_
    refine PO1.div (k := .i64) (A := []) (IntKind.i64.wrap b) (c.parts.length : Int) ((IntKind.i64.wrap b).tmod (c.parts.length : Int)) rfl rfl (by first | exact .inl ⟨rfl, rfl⟩ | exact .inr ⟨rfl, rfl⟩) (by kernel_rfl) (by kernel_rfl) (by kernel_rfl) (by kernel_rfl) (by kernel_rfl) (fun _ => by omega) ?_
    refine PO.tk [19, 20] 2 [9, 10, 11, 12] 0 trivial (fun _ _ h => h) ?_
    refine PO.eq (s' := { tab := [⟨9, [], D.p 0 0 0 0⟩, ⟨10, [], I ((IntKind.i64.wrap a).tmod (c.parts.length : Int))⟩, ⟨11, [], I ((IntKind.i64.wrap b).tmod (c.parts.length : Int))⟩, ⟨12, [], I ((IntKind.i64.wrap dd).tmod (c.parts.length : Int))⟩], mem := [Obj.var 25 (Config.d c)], gl := (errG2 e) }) (by kernel_rfl) ?_
    refine PO.eq (s' := { tab := [⟨9, [], D.p 0 0 0 0⟩, ⟨10, [], I x⟩, ⟨11, [], I y⟩, ⟨12, [], I z⟩], mem := [Obj.var 25 (Config.d c)], gl := (errG2 e) }) (by rw [hx, hy, hz]) ?_
    refine PO.done (by kernel_rfl) ?_
    exact (show _ = _ from by kernel_rfl)
  ·skip
   refine PO1.div (k := .i64) (A := []) (IntKind.i64.wrap b) (c.parts.length : Int) ((IntKind.i64.wrap b).tmod (c.parts.length : Int)) rfl rfl (by first | exact .inl ⟨rfl, rfl⟩ | exact .inr ⟨rfl, rfl⟩) (by kernel_rfl) (by kernel_rfl) (by kernel_rfl) (by kernel_rfl) (by kernel_rfl) (fun _ => by omega) ?_
   refine PO.next (n := 4) [5, 17] (by kernel_rfl) (by simp) ?_
   intro i hi
   simp only [List.mem_cons, List.not_mem_nil, or_false] at hi
   rcases hi with rfl | rfl
   ·skip
    refine PO1.div (k := .i64) (A := []) (IntKind.i64.wrap a) (c.parts.length : Int) ((IntKind.i64.wrap a).tmod (c.parts.length : Int)) rfl rfl (by first | exact .inl ⟨rfl, rfl⟩ | exact .inr ⟨rfl, rfl⟩) (by kernel_rfl) (by kernel_rfl) (by kernel_rfl) (by kernel_rfl) (by kernel_rfl) (fun _ => by omega) ?_
    refine PO.tk [18, 19] 4 [9, 10, 11, 31, 34] 2 trivial (fun _ _ h => h) ?_
    refine PO.one (n := 1) 17 (by kernel_rfl) ?_
    refine PO1.div (k := .i64) (A := []) (IntKind.i64.wrap dd) (c.parts.length : Int) ((IntKind.i64.wrap dd).tmod (c.parts.length : Int)) rfl rfl (by first | exact .inl ⟨rfl, rfl⟩ | exact .inr ⟨rfl, rfl⟩) (by kernel_rfl) (by kernel_rfl) (by kernel_rfl) (by kernel_rfl) (by kernel_rfl) (fun _ => by omega) ?_
    refine PO.tk [20] 1 [9, 10, 11, 12] 0 trivial (fun _ _ h => h) ?_
    refine PO.eq (s' := { tab := [⟨9, [], D.p 0 0 0 0⟩, ⟨10, [], I ((IntKind.i64.wrap a).tmod (c.parts.length : Int))⟩, ⟨11, [], I ((IntKind.i64.wrap b).tmod (c.parts.length : Int))⟩, ⟨12, [], I ((IntKind.i64.wrap dd).tmod (c.parts.length : Int))⟩], mem := [Obj.var 25 (Config.d c)], gl := (errG2 e) }) (by kernel_rfl) ?_
    refine PO.eq (s' := { tab := [⟨9, [], D.p 0 0 0 0⟩, ⟨10, [], I x⟩, ⟨11, [], I y⟩, ⟨12, [], I z⟩], mem := [Obj.var 25 (Config.d c)], gl := (errG2 e) }) (by rw [hx, hy, hz]) ?_
    refine PO.done (by kernel_rfl) ?_
    exact (show _ = _ from by kernel_rfl)
   ·skip
    refine PO1.div (k := .i64) (A := []) (IntKind.i64.wrap dd) (c.parts.length : Int) ((IntKind.i64.wrap dd).tmod (c.parts.length : Int)) rfl rfl (by first | exact .inl ⟨rfl, rfl⟩ | exact .inr ⟨rfl, rfl⟩) (by kernel_rfl) (by kernel_rfl) (by kernel_rfl) (by kernel_rfl) (by kernel_rfl) (fun _ => by omega) ?_
    refine PO.one (n := 3) 5 (by kernel_rfl) ?_
    refine PO1.div (k := .i64) (A := []) (IntKind.i64.wrap a) (c.parts.length : Int) ((IntKind.i64.wrap a).tmod (c.parts.length : Int)) rfl rfl (by first | exact .inl ⟨rfl, rfl⟩ | exact .inr ⟨rfl, rfl⟩) (by kernel_rfl) (by kernel_rfl) (by kernel_rfl) (by kernel_rfl) (by kernel_rfl) (fun _ => by omega) ?_
    refine PO.tk [18, 19, 20] 3 [9, 10, 11, 12] 0 trivial (fun _ _ h => h) ?_
    refine PO.eq (s' := { tab := [⟨9, [], D.p 0 0 0 0⟩, ⟨10, [], I ((IntKind.i64.wrap a).tmod (c.parts.length : Int))⟩, ⟨11, [], I ((IntKind.i64.wrap b).tmod (c.parts.length : Int))⟩, ⟨12, [], I ((IntKind.i64.wrap dd).tmod (c.parts.length : Int))⟩], mem := [Obj.var 25 (Config.d c)], gl := (errG2 e) }) (by kernel_rfl) ?_
    refine PO.eq (s' := { tab := [⟨9, [], D.p 0 0 0 0⟩, ⟨10, [], I x⟩, ⟨11, [], I y⟩, ⟨12, [], I z⟩], mem := [Obj.var 25 (Config.d c)], gl := (errG2 e) }) (by rw [hx, hy, hz]) ?_
    refine PO.done (by kernel_rfl) ?_
    exact (show _ = _ from by kernel_rfl)
  ·skip
   refine PO1.div (k := .i64) (A := []) (IntKind.i64.wrap dd) (c.parts.length : Int) ((IntKind.i64.wrap dd).tmod (c.parts.length : Int)) rfl rfl (by first | exact .inl ⟨rfl, rfl⟩ | exact .inr ⟨rfl, rfl⟩) (by kernel_rfl) (by kernel_rfl) (by kernel_rfl) (by kernel_rfl) (by kernel_rfl) (fun _ => by omega) ?_
   refine PO.next (n := 4) [5, 11] (by kernel_rfl) (by simp) ?_
   intro i hi
   simp only [List.mem_cons, List.not_mem_nil, or_false] at hi
   rcases hi with rfl | rfl
   ·skip
    refine PO1.div (k := .i64) (A := []) (IntKind.i64.wrap a) (c.parts.length : Int) ((IntKind.i64.wrap a).tmod (c.parts.length : Int)) rfl rfl (by first | exact .inl ⟨rfl, rfl⟩ | exact .inr ⟨rfl, rfl⟩) (by kernel_rfl) (by kernel_rfl) (by kernel_rfl) (by kernel_rfl) (by kernel_rfl) (fun _ => by omega) ?_
    refine PO.tk [18] 4 [9, 10, 25, 28, 35] 3 trivial (fun _ _ h => h) ?_
    refine PO.one (n := 2) 11 (by kernel_rfl) ?_
    refine PO1.div (k := .i64) (A := []) (IntKind.i64.wrap b) (c.parts.length : Int) ((IntKind.i64.wrap b).tmod (c.parts.length : Int)) rfl rfl (by first | exact .inl ⟨rfl, rfl⟩ | exact .inr ⟨rfl, rfl⟩) (by kernel_rfl) (by kernel_rfl) (by kernel_rfl) (by kernel_rfl) (by kernel_rfl) (fun _ => by omega) ?_
    refine PO.tk [19, 20] 2 [9, 10, 11, 12] 0 trivial (fun _ _ h => h) ?_
    refine PO.eq (s' := { tab := [⟨9, [], D.p 0 0 0 0⟩, ⟨10, [], I ((IntKind.i64.wrap a).tmod (c.parts.length : Int))⟩, ⟨11, [], I ((IntKind.i64.wrap b).tmod (c.parts.length : Int))⟩, ⟨12, [], I ((IntKind.i64.wrap dd).tmod (c.parts.length : Int))⟩], mem := [Obj.var 25 (Config.d c)], gl := (errG2 e) }) (by kernel_rfl) ?_
    refine PO.eq (s' := { tab := [⟨9, [], D.p 0 0 0 0⟩, ⟨10, [], I x⟩, ⟨11, [], I y⟩, ⟨12, [], I z⟩], mem := [Obj.var 25 (Config.d c)], gl := (errG2 e) }) (by rw [hx, hy, hz]) ?_
    refine PO.done (by kernel_rfl) ?_
    exact (show _ = _ from by kernel_rfl)
   ·skip
    refine PO1.div (k := .i64) (A := []) (IntKind.i64.wrap b) (c.parts.length : Int) ((IntKind.i64.wrap b).tmod (c.parts.length : Int)) rfl rfl (by first | exact .inl ⟨rfl, rfl⟩ | exact .inr ⟨rfl, rfl⟩) (by kernel_rfl) (by kernel_rfl) (by kernel_rfl) (by kernel_rfl) (by kernel_rfl) (fun _ => by omega) ?_
    refine PO.one (n := 3) 5 (by kernel_rfl) ?_
    refine PO1.div (k := .i64) (A := []) (IntKind.i64.wrap a) (c.parts.length : Int) ((IntKind.i64.wrap a).tmod (c.parts.length : Int)) rfl rfl (by first | exact .inl ⟨rfl, rfl⟩ | exact .inr ⟨rfl, rfl⟩) (by kernel_rfl) (by kernel_rfl) (by kernel_rfl) (by kernel_rfl) (by kernel_rfl) (fun _ => by omega) ?_
    refine PO.tk [18, 19, 20] 3 [9, 10, 11, 12] 0 trivial (fun _ _ h => h) ?_
    refine PO.eq (s' := { tab := [⟨9, [], D.p 0 0 0 0⟩, ⟨10, [], I ((IntKind.i64.wrap a).tmod (c.parts.length : Int))⟩, ⟨11, [], I ((IntKind.i64.wrap b).tmod (c.parts.length : Int))⟩, ⟨12, [], I ((IntKind.i64.wrap dd).tmod (c.parts.length : Int))⟩], mem := [Obj.var 25 (Config.d c)], gl := (errG2 e) }) (by kernel_rfl) ?_
    refine PO.eq (s' := { tab := [⟨9, [], D.p 0 0 0 0⟩, ⟨10, [], I x⟩, ⟨11, [], I y⟩, ⟨12, [], I z⟩], mem := [Obj.var 25 (Config.d c)], gl := (errG2 e) }) (by rw [hx, hy, hz]) ?_
    refine PO.done (by kernel_rfl) ?_
    exact (show _ = _ from by kernel_rfl)
theorem drumlinelaw6_HopsSteps_pc (e : Nat → Addr) (hA : Apart e) (n a b : Int) (c : Config) (hM : PC Tryd.prog (errG2 e) 17 [I n] (· = D.r (Config.d c))) (hr : rightB c = true) (hp1 : 1 ≤ c.parts.length ∧ c.parts.length ≤ 4) (hl0 : c.links.length < 1000000) (x0 : Int) (hx0 : (IntKind.i64.wrap a).tmod (c.parts.length : Int) = x0) (hx0r : 0 ≤ x0 ∧ x0 < (c.parts.length : Int)) (y : Int) (hy : (IntKind.i64.wrap b).tmod (c.parts.length : Int) = y) (hyr : 0 ≤ y ∧ y < (c.parts.length : Int))  : PC Tryd.prog (errG2 e) 5 [I n, D.v (.int .u8 a), D.v (.int .u8 b)] (· = D.v (.bool true)) := by
 refine PC.of (N := 112) Tryd.func5 rfl rfl (Nat.le_of_ble_eq_true rfl) ?_
 refine PW.sr [0, 1, 2] 0 trivial ?_
 refine PW.seq ?_
 refine PW.sg ?_
 refine PL.gc (A := []) (fun _ => drumlinelaw6_alive_pc e hA) ?_
 refine PL.rw 1 [0, 1, 2, 15] 0 trivial ?_
 refine PL.nl ?_
 refine PW.cd false (fun hz0 => by cases hz0) (fun hz0 => ?_)
 refine PW.skip ?_
 show PW _ _ _ _ _
 refine PW.sg ?_
 refine PL.rw 1 [1, 2, 16] 0 trivial ?_
 refine PL.gc (A := []) (fun _ => hM) ?_
 refine PL.rw 2 [1, 2, 7] 1 trivial ?_
 refine PL.nl ?_
 refine PW.oj ({ tab := [⟨7, [], D.p 0 0 0 0⟩, ⟨8, [], I x0⟩, ⟨9, [], I y⟩], mem := [Obj.var 25 (Config.d c)], gl := (errG2 e) }) ?_ ?_
 ·show PW _ _ _ _ _
  refine PW.sg ?_
  refine PL.rw 3 [7, 8, 9, 30, 31, 32] 1 trivial ?_
  refine PL.gc (A := []) (fun _ => hops_Way_pc e hA c x0 y (by omega) (by omega)) ?_
  refine PL.rw 1 [7, 8, 9, 10] 1 trivial ?_
  refine PL.nl ?_
  refine PW.seq ?_
  refine PW.sg ?_
  refine PL.rw 5 [7, 8, 9, 10, 35, 36, 37, 38] 1 trivial ?_
  refine PL.gc (A := []) (fun _ => hops_Dist_pc e hA c x0 y (by omega) (by omega)) ?_
  refine PL.rw 1 [7, 8, 9, 10, 40] 1 trivial ?_
  refine PL.nl ?_
  refine PW.cd (((wayC c x0 y).length : Int) != (distI c x0 y)) (fun hz1 => ?_) (fun hz1 => ?_)
  ·try simp only [boolS, isB_true, isB_false] at hz1
   try have hs := law_step hr hinv.2.1 hyr (L := wayC c x0 y) (i := i) (k := k) (by omega) hinv.2.2.1
   try have hs0 := hs.i0
   try have hs1 := hs.i1
   try have hs2 := hs.next
   try have hs3 := hs.ends
   try have hs4 := hs.into
   try have hs5 := hs.dist
   try have hs6 := hs.k1
   try have hsl := (known_all hr hinv.2.1 hyr).right.ends _ (show ((wayC c x0 y).getD i default).toNat < c.links.length by omega)
   try have hsd := dist_facts hr hinv.2.1 hyr
   refine PW.sr [6] 1 trivial ?_
   refine PW.ret ?_
   refine retQ_ret (d := D.v (.bool false)) (ps := []) (by kernel_rfl) trivial ?_
   exfalso
   exact hz1 (wayC_dist hr hx0r hyr)
  ·try simp only [boolS, isB_true, isB_false] at hz1
   try have hs := law_step hr hinv.2.1 hyr (L := wayC c x0 y) (i := i) (k := k) (by omega) hinv.2.2.1
   try have hs0 := hs.i0
   try have hs1 := hs.i1
   try have hs2 := hs.next
   try have hs3 := hs.ends
   try have hs4 := hs.into
   try have hs5 := hs.dist
   try have hs6 := hs.k1
   try have hsl := (known_all hr hinv.2.1 hyr).right.ends _ (show ((wayC c x0 y).getD i default).toNat < c.links.length by omega)
   try have hsd := dist_facts hr hinv.2.1 hyr
   refine PW.skip ?_
   show PW _ _ _ _ _
   refine PW.seq ?_
   refine PW.sr [7, 8, 9, 10, 11] 1 trivial ?_
   refine PW.block ?_
   refine PW.lp (α := Nat × Int × Nat) (fun (i, x, k) => { tab := [⟨7, [], D.p 0 0 0 0⟩, ⟨8, [], I x⟩, ⟨9, [], I y⟩, ⟨10, [], sl' 1 (fun x => [I x]) (wayC c x0 y)⟩, ⟨11, [], I (i : Int)⟩], mem := [Obj.var 25 (Config.d c)], gl := (errG2 e) }) (fun (i, x, k) => i ≤ (wayC c x0 y).length ∧ (0 ≤ x ∧ x < (c.parts.length : Int)) ∧ (wayC c x0 y).drop i = wayN c.links (distsL c y.toNat) k x ∧ (distsL c y.toNat).getD x.toNat default < (k : Int)) (fun (i, x, k) => (wayC c x0 y).length - i) [7, 8, 9, 10, 11] 1 (0, x0, c.parts.length) ?_ ?_
   ·dsimp only
    have hk := known_all hr hx0r hyr
    refine ⟨Nat.zero_le _, hx0r, ?_, hk.right.low (by omega) _ (by omega)⟩
    unfold wayC
    rw [if_pos (known_mk hk hr)]
    rfl
   rintro ⟨i, x, k⟩ hinv
   dsimp only at hinv
   have hwl := wayC_len c x0 y
   show PW _ _ _ _ _
   refine PW.seq ?_
   refine PW.sr [7, 8, 9, 10, 11, 44] 1 trivial ?_
   refine PW.cd (decide ((i : Int) < ((wayC c x0 y).length : Int))) (fun hz2 => ?_) (fun hz2 => ?_)
   ·try simp only [boolS, isB_true, isB_false] at hz2
    try have hs := law_step hr hinv.2.1 hyr (L := wayC c x0 y) (i := i) (k := k) (by omega) hinv.2.2.1
    try have hs0 := hs.i0
    try have hs1 := hs.i1
    try have hs2 := hs.next
    try have hs3 := hs.ends
    try have hs4 := hs.into
    try have hs5 := hs.dist
    try have hs6 := hs.k1
    try have hsl := (known_all hr hinv.2.1 hyr).right.ends _ (show ((wayC c x0 y).getD i default).toNat < c.links.length by omega)
    try have hsd := dist_facts hr hinv.2.1 hyr
    refine PW.skip ?_
    show PW _ _ _ _ _
    refine PW.seq ?_
    refine PW.block ?_
    refine PW.seq ?_
    refine PW.seq ?_
    refine PW.open [] (by kernel_rfl) ?_
    refine PO.tk [0, 1, 2, 3, 4, 5, 6, 7, 8, 9, 10, 11, 12, 13, 14, 15, 16, 17, 18, 20, 21, 22, 23] 26 [7, 8, 9, 10, 11, 62, 63, 64, 65, 70] 3 (p := (0 ≤ (i : Int) ∧ (i : Int) < ((wayC c x0 y).length : Int)) ∧ (((decide (((wayC c x0 y).getD i default) < (0 : Int))) = false ∧ True → 0 ≤ (i : Int) ∧ (i : Int) < ((wayC c x0 y).length : Int))) ∧ ((((decide (((wayC c x0 y).getD i default) < (0 : Int))) || (decide (((wayC c x0 y).getD i default) ≥ (c.links.length : Int)))) = false ∧ True → 0 ≤ (i : Int) ∧ (i : Int) < ((wayC c x0 y).length : Int)))) (by ((repeat' (first | intro _ | refine And.intro ?_ ?_)) <;> first | omega | trivial | assumption | (rename_i hgd; simp only [Bool.and_eq_true, decide_eq_true_eq, beq_iff_eq, and_true] at hgd; omega))) (fun _ _ h => h) ?_
    refine PO.one (n := 2) 19 (by kernel_rfl) ?_
    refine PO1.gc _ (A := [(62, false)]) (fun _ => hops_Next_pc e hA c x y (by omega) (by omega)) ?_ rfl
    refine PO.tk [24, 25] 2 [7, 8, 9, 10, 11, 72] 0 trivial (fun _ _ h => h) ?_
    refine PO.done (by kernel_rfl) ?_
    show PW _ _ _ _ _
    refine PW.cd (((decide (((wayC c x0 y).getD i default) < (0 : Int))) || (decide (((wayC c x0 y).getD i default) ≥ (c.links.length : Int)))) || ((nextC c x y) != ((wayC c x0 y).getD i default))) (fun hz3 => ?_) (fun hz3 => ?_)
    ·try simp only [boolS, isB_true, isB_false] at hz3
     try have hs := law_step hr hinv.2.1 hyr (L := wayC c x0 y) (i := i) (k := k) (by omega) hinv.2.2.1
     try have hs0 := hs.i0
     try have hs1 := hs.i1
     try have hs2 := hs.next
     try have hs3 := hs.ends
     try have hs4 := hs.into
     try have hs5 := hs.dist
     try have hs6 := hs.k1
     try have hsl := (known_all hr hinv.2.1 hyr).right.ends _ (show ((wayC c x0 y).getD i default).toNat < c.links.length by omega)
     try have hsd := dist_facts hr hinv.2.1 hyr
     refine PW.sr [6] 1 trivial ?_
     refine PW.ret ?_
     refine retQ_ret (d := D.v (.bool false)) (ps := []) (by kernel_rfl) trivial ?_
     exfalso
     omega
    ·try simp only [boolS, isB_true, isB_false] at hz3
     try have hs := law_step hr hinv.2.1 hyr (L := wayC c x0 y) (i := i) (k := k) (by omega) hinv.2.2.1
     try have hs0 := hs.i0
     try have hs1 := hs.i1
     try have hs2 := hs.next
     try have hs3 := hs.ends
     try have hs4 := hs.into
     try have hs5 := hs.dist
     try have hs6 := hs.k1
     try have hsl := (known_all hr hinv.2.1 hyr).right.ends _ (show ((wayC c x0 y).getD i default).toNat < c.links.length by omega)
     try have hsd := dist_facts hr hinv.2.1 hyr
     refine PW.skip ?_
     show PW _ _ _ _ _
     refine PW.seq ?_
     refine PW.open [1] (by kernel_rfl) ?_
     refine PO.tk [0, 1, 2, 3, 4, 5, 6, 7] 10 [7, 8, 9, 10, 11, 80] 2 (p := (0 ≤ (i : Int) ∧ (i : Int) < ((wayC c x0 y).length : Int)) ∧ (0 ≤ ((wayC c x0 y).getD i default) ∧ ((wayC c x0 y).getD i default) < (c.links.length : Int))) (by omega) (fun _ _ h => h) ?_
     refine PO.one (n := 1) 8 (by kernel_rfl) ?_
     refine PO1.mm rfl [7, 8, 9, 10, 11, 12, 80] 2 trivial ?_
     refine PO.one (n := 0) 9 (by kernel_rfl) ?_
     refine PO1.mm rfl [7, 8, 9, 10, 11, 12] 2 trivial ?_
     refine PO.done (by kernel_rfl) ?_
     show PW _ _ _ _ _
     refine PW.seq ?_
     refine PW.sr [7, 8, 9, 10, 11, 12, 90] 2 trivial ?_
     refine PW.cd ((((c.links.getD (((wayC c x0 y).getD i default).toNat) default).a) != x) && (((c.links.getD (((wayC c x0 y).getD i default).toNat) default).b) != x)) (fun hz4 => ?_) (fun hz4 => ?_)
     ·try simp only [boolS, isB_true, isB_false] at hz4
      try have hs := law_step hr hinv.2.1 hyr (L := wayC c x0 y) (i := i) (k := k) (by omega) hinv.2.2.1
      try have hs0 := hs.i0
      try have hs1 := hs.i1
      try have hs2 := hs.next
      try have hs3 := hs.ends
      try have hs4 := hs.into
      try have hs5 := hs.dist
      try have hs6 := hs.k1
      try have hsl := (known_all hr hinv.2.1 hyr).right.ends _ (show ((wayC c x0 y).getD i default).toNat < c.links.length by omega)
      try have hsd := dist_facts hr hinv.2.1 hyr
      refine PW.sr [6] 2 trivial ?_
      refine PW.ret ?_
      refine retQ_ret (d := D.v (.bool false)) (ps := []) (by kernel_rfl) trivial ?_
      exfalso
      omega
     ·try simp only [boolS, isB_true, isB_false] at hz4
      try have hs := law_step hr hinv.2.1 hyr (L := wayC c x0 y) (i := i) (k := k) (by omega) hinv.2.2.1
      try have hs0 := hs.i0
      try have hs1 := hs.i1
      try have hs2 := hs.next
      try have hs3 := hs.ends
      try have hs4 := hs.into
      try have hs5 := hs.dist
      try have hs6 := hs.k1
      try have hsl := (known_all hr hinv.2.1 hyr).right.ends _ (show ((wayC c x0 y).getD i default).toNat < c.links.length by omega)
      try have hsd := dist_facts hr hinv.2.1 hyr
      refine PW.skip ?_
      show PW _ _ _ _ _
      refine PW.sg ?_
      refine PL.row 8 [7, 8, 9, 10, 11, 13] 2 (s' := { tab := [⟨7, [], D.p 0 0 0 0⟩, ⟨8, [], I x⟩, ⟨9, [], I y⟩, ⟨10, [], sl' 1 (fun x => [I x]) (wayC c x0 y)⟩, ⟨11, [], I (i : Int)⟩, ⟨13, [], I (IntKind.i64.wrap ((IntKind.i64.wrap (((c.links.getD (((wayC c x0 y).getD i default).toNat) default).a) + ((c.links.getD (((wayC c x0 y).getD i default).toNat) default).b))) - x))⟩], mem := [Obj.var 25 (Config.d c), Obj.var 37 [I ((c.links.getD (((wayC c x0 y).getD i default).toNat) default).a), I ((c.links.getD (((wayC c x0 y).getD i default).toNat) default).b), I ((c.links.getD (((wayC c x0 y).getD i default).toNat) default).pa0), I ((c.links.getD (((wayC c x0 y).getD i default).toNat) default).pa1), I ((c.links.getD (((wayC c x0 y).getD i default).toNat) default).pb0), I ((c.links.getD (((wayC c x0 y).getD i default).toNat) default).pb1)]], gl := (errG2 e) }) (p := True) (by kernel_rfl) (by kernel_rfl) (by kernel_rfl) (by kernel_rfl) (by kernel_rfl) trivial ?_
      refine PL.eq (s' := { tab := [⟨7, [], D.p 0 0 0 0⟩, ⟨8, [], I x⟩, ⟨9, [], I y⟩, ⟨10, [], sl' 1 (fun x => [I x]) (wayC c x0 y)⟩, ⟨11, [], I (i : Int)⟩, ⟨13, [], I (acrossI (c.links.getD (((wayC c x0 y).getD i default).toNat) default) x)⟩], mem := [Obj.var 25 (Config.d c), Obj.var 37 [I ((c.links.getD (((wayC c x0 y).getD i default).toNat) default).a), I ((c.links.getD (((wayC c x0 y).getD i default).toNat) default).b), I ((c.links.getD (((wayC c x0 y).getD i default).toNat) default).pa0), I ((c.links.getD (((wayC c x0 y).getD i default).toNat) default).pa1), I ((c.links.getD (((wayC c x0 y).getD i default).toNat) default).pb0), I ((c.links.getD (((wayC c x0 y).getD i default).toNat) default).pb1)]], gl := (errG2 e) }) (by rw [Ev.wrap_i64 (x := (c.links.getD (((wayC c x0 y).getD i default).toNat) default).a + (c.links.getD (((wayC c x0 y).getD i default).toNat) default).b) (by omega) (by omega), Ev.wrap_i64 (by omega) (by omega), ends_sum hs.ends]) ?_
      refine PL.nl ?_
      refine PW.seq ?_
      refine PW.seq ?_
      refine PW.open [] (by kernel_rfl) ?_
      refine PO.tk [0, 1, 2, 4, 5, 6] 10 [7, 9, 10, 11, 13, 98, 99, 100, 102, 103, 104] 4 trivial (fun _ _ h => h) ?_
      refine PO.one (n := 3) 3 (by kernel_rfl) ?_
      refine PO1.gc _ (A := []) (fun _ => hops_Dist_pc e hA c (acrossI (c.links.getD (((wayC c x0 y).getD i default).toNat) default) x) y (by omega) (by omega)) ?_ rfl
      refine PO.one (n := 2) 7 (by kernel_rfl) ?_
      refine PO1.gc _ (A := []) (fun _ => hops_Dist_pc e hA c x y (by omega) (by omega)) ?_ rfl
      refine PO.tk [8, 9] 2 [7, 9, 10, 11, 13, 107] 0 trivial (fun _ _ h => h) ?_
      refine PO.done (by kernel_rfl) ?_
      show PW _ _ _ _ _
      refine PW.cd ((distI c (acrossI (c.links.getD (((wayC c x0 y).getD i default).toNat) default) x) y) != (IntKind.i64.wrap ((distI c x y) - 1))) (fun hz5 => ?_) (fun hz5 => ?_)
      ·try simp only [boolS, isB_true, isB_false] at hz5
       try have hs := law_step hr hinv.2.1 hyr (L := wayC c x0 y) (i := i) (k := k) (by omega) hinv.2.2.1
       try have hs0 := hs.i0
       try have hs1 := hs.i1
       try have hs2 := hs.next
       try have hs3 := hs.ends
       try have hs4 := hs.into
       try have hs5 := hs.dist
       try have hs6 := hs.k1
       try have hsl := (known_all hr hinv.2.1 hyr).right.ends _ (show ((wayC c x0 y).getD i default).toNat < c.links.length by omega)
       try have hsd := dist_facts hr hinv.2.1 hyr
       refine PW.sr [6] 2 trivial ?_
       refine PW.ret ?_
       refine retQ_ret (d := D.v (.bool false)) (ps := []) (by kernel_rfl) trivial ?_
       exfalso
       rw [Ev.wrap_i64 (by omega) (by omega)] at hz5
       omega
      ·try simp only [boolS, isB_true, isB_false] at hz5
       try have hs := law_step hr hinv.2.1 hyr (L := wayC c x0 y) (i := i) (k := k) (by omega) hinv.2.2.1
       try have hs0 := hs.i0
       try have hs1 := hs.i1
       try have hs2 := hs.next
       try have hs3 := hs.ends
       try have hs4 := hs.into
       try have hs5 := hs.dist
       try have hs6 := hs.k1
       try have hsl := (known_all hr hinv.2.1 hyr).right.ends _ (show ((wayC c x0 y).getD i default).toNat < c.links.length by omega)
       try have hsd := dist_facts hr hinv.2.1 hyr
       refine PW.skip ?_
       show PW _ _ _ _ _
       refine PW.rr [7, 8, 9, 10, 11] 2 trivial ?_
       show PW _ _ _ _ _
       refine PW.rr [7, 8, 9, 10, 11] 2 trivial ?_
       refine BackR.of (s1 := { tab := [⟨7, [], D.p 0 0 0 0⟩, ⟨8, [], I (acrossI (c.links.getD (((wayC c x0 y).getD i default).toNat) default) x)⟩, ⟨9, [], I y⟩, ⟨10, [], sl' 1 (fun x => [I x]) (wayC c x0 y)⟩, ⟨11, [], I (IntKind.i64.wrap ((i : Int) + 1))⟩], mem := [Obj.var 25 (Config.d c)], gl := (errG2 e) }) (i + 1, acrossI (c.links.getD (((wayC c x0 y).getD i default).toNat) default) x, k - 1) (by kernel_rfl) (by kernel_rfl) ?_ ?_ ?_
       ·dsimp only
        rw [wrap1 i (by omega)]
        exact Rem.refl _
       ·dsimp only
        have hk := known_all hr hinv.2.1 hyr
        have hk2 := known_all hr hs.into hyr
        refine ⟨by omega, hs.into, hs.drop, ?_⟩
        have h1 := hs.dist
        rw [distI_eq hk2 hr, distI_eq hk hr] at h1
        omega
       ·dsimp only
        ((repeat' (first | intro _ | refine And.intro ?_ ?_)) <;> first | omega | trivial | assumption | (rename_i hgd; simp only [Bool.and_eq_true, decide_eq_true_eq, beq_iff_eq, and_true] at hgd; omega))
   ·try simp only [boolS, isB_true, isB_false] at hz2
    try have hs := law_step hr hinv.2.1 hyr (L := wayC c x0 y) (i := i) (k := k) (by omega) hinv.2.2.1
    try have hs0 := hs.i0
    try have hs1 := hs.i1
    try have hs2 := hs.next
    try have hs3 := hs.ends
    try have hs4 := hs.into
    try have hs5 := hs.dist
    try have hs6 := hs.k1
    try have hsl := (known_all hr hinv.2.1 hyr).right.ends _ (show ((wayC c x0 y).getD i default).toNat < c.links.length by omega)
    try have hsd := dist_facts hr hinv.2.1 hyr
    refine PW.exit ?_
    show PW _ _ _ _ _
    refine PW.sr [6] 1 trivial ?_
    refine PW.ret ?_
    refine retQ_ret (d := D.v (.bool (x == y))) (ps := []) (by kernel_rfl) trivial ?_
    have hend : wayN c.links (distsL c y.toNat) k x = [] := by rw [← hinv.2.2.1, List.drop_eq_nil_of_le (by omega)]
    have hk := known_all hr hinv.2.1 hyr
    have hd := wayN_dist hk.right (b := y.toNat) (by omega) k x hinv.2.1 hinv.2.2.2
    rw [hend] at hd
    have hf := dist_facts hr hinv.2.1 hyr
    have he := hf.2.2.1.1 (by rw [distI_eq hk hr, ← hd]; rfl)
    rw [he, beq_self_eq_true]
 ·skip
  refine PW.open [] (by kernel_rfl) ?_
  refine PO.tk [0, 1, 2, 3, 4, 6, 7, 8, 9, 10] 14 [7, 19, 22, 25, 28] 4 trivial (fun _ _ h => h) ?_
  refine PO.next (n := 3) [5, 11] (by kernel_rfl) (by simp) ?_
  intro i hi
  simp only [List.mem_cons, List.not_mem_nil, or_false] at hi
  rcases hi with rfl | rfl
  ·skip
   refine PO1.div (k := .i64) (A := []) (IntKind.i64.wrap a) (c.parts.length : Int) ((IntKind.i64.wrap a).tmod (c.parts.length : Int)) rfl rfl (by first | exact .inl ⟨rfl, rfl⟩ | exact .inr ⟨rfl, rfl⟩) (by kernel_rfl) (by kernel_rfl) (by kernel_rfl) (by kernel_rfl) (by kernel_rfl) (fun _ => by omega) ?_
   refine PO.tk [12] 3 [7, 8, 25, 28] 2 trivial (fun _ _ h => h) ?_
   refine PO.one (n := 1) 11 (by kernel_rfl) ?_
   refine PO1.div (k := .i64) (A := []) (IntKind.i64.wrap b) (c.parts.length : Int) ((IntKind.i64.wrap b).tmod (c.parts.length : Int)) rfl rfl (by first | exact .inl ⟨rfl, rfl⟩ | exact .inr ⟨rfl, rfl⟩) (by kernel_rfl) (by kernel_rfl) (by kernel_rfl) (by kernel_rfl) (by kernel_rfl) (fun _ => by omega) ?_
   refine PO.tk [13] 1 [7, 8, 9] 0 trivial (fun _ _ h => h) ?_
   refine PO.eq (s' := { tab := [⟨7, [], D.p 0 0 0 0⟩, ⟨8, [], I ((IntKind.i64.wrap a).tmod (c.parts.length : Int))⟩, ⟨9, [], I ((IntKind.i64.wrap b).tmod (c.parts.length : Int))⟩], mem := [Obj.var 25 (Config.d c)], gl := (errG2 e) }) (by kernel_rfl) ?_
   refine PO.eq (s' := { tab := [⟨7, [], D.p 0 0 0 0⟩, ⟨8, [], I x0⟩, ⟨9, [], I y⟩], mem := [Obj.var 25 (Config.d c)], gl := (errG2 e) }) (by rw [hx0, hy]) ?_
   refine PO.done (by kernel_rfl) ?_
   exact (show _ = _ from by kernel_rfl)
  ·skip
   refine PO1.div (k := .i64) (A := []) (IntKind.i64.wrap b) (c.parts.length : Int) ((IntKind.i64.wrap b).tmod (c.parts.length : Int)) rfl rfl (by first | exact .inl ⟨rfl, rfl⟩ | exact .inr ⟨rfl, rfl⟩) (by kernel_rfl) (by kernel_rfl) (by kernel_rfl) (by kernel_rfl) (by kernel_rfl) (fun _ => by omega) ?_
   refine PO.one (n := 2) 5 (by kernel_rfl) ?_
   refine PO1.div (k := .i64) (A := []) (IntKind.i64.wrap a) (c.parts.length : Int) ((IntKind.i64.wrap a).tmod (c.parts.length : Int)) rfl rfl (by first | exact .inl ⟨rfl, rfl⟩ | exact .inr ⟨rfl, rfl⟩) (by kernel_rfl) (by kernel_rfl) (by kernel_rfl) (by kernel_rfl) (by kernel_rfl) (fun _ => by omega) ?_
   refine PO.tk [12, 13] 2 [7, 8, 9] 0 trivial (fun _ _ h => h) ?_
   refine PO.eq (s' := { tab := [⟨7, [], D.p 0 0 0 0⟩, ⟨8, [], I ((IntKind.i64.wrap a).tmod (c.parts.length : Int))⟩, ⟨9, [], I ((IntKind.i64.wrap b).tmod (c.parts.length : Int))⟩], mem := [Obj.var 25 (Config.d c)], gl := (errG2 e) }) (by kernel_rfl) ?_
   refine PO.eq (s' := { tab := [⟨7, [], D.p 0 0 0 0⟩, ⟨8, [], I x0⟩, ⟨9, [], I y⟩], mem := [Obj.var 25 (Config.d c)], gl := (errG2 e) }) (by rw [hx0, hy]) ?_
   refine PO.done (by kernel_rfl) ?_
   exact (show _ = _ from by kernel_rfl)
end Go.Proofs.YtleflkgdbagmnaaDoor.Pl
