/- The document's own Check of chapter 5. -/
import Derived.Test.YtagdeldgpkjjjaaDoorPlFive
namespace Go.Proofs.YtagdeldgpkjjjaaDoor.Pl
open Go.RowKit Go.Proofs.YtagdeldgpkjjjaaDoor.Sm Go.Proofs.YtagdeldgpkjjjaaDoor.Dp
set_option maxHeartbeats 4000000
set_option maxRecDepth 100000
set_option linter.unusedVariables false
set_option linter.unusedSimpArgs false
/-- the first of so many numbers. -/
def findN (p : Nat → Bool) : Nat → Option Nat
  | 0 => none
  | n + 1 => match findN p n with
    | some i => some i
    | none => if p n = true then some n else none
theorem findN_more {p : Nat → Bool} {n i : Nat} (h : findN p n = some i) : ∀ m, n ≤ m → findN p m = some i
  | 0, hm => by
    have : n = 0 := by omega
    subst this
    exact h
  | m + 1, hm => by
    rcases Nat.lt_or_ge m n with h1 | h1
    · have : n = m + 1 := by omega
      subst this
      exact h
    · simp only [findN, findN_more h m h1]
theorem findN_yes {p : Nat → Bool} {n i : Nat} (h : findN p i = none) (hp : p i = true) (hi : i < n) : findN p n = some i :=
  findN_more (n := i + 1) (by simp only [findN, h, hp, if_true]) n hi
theorem findN_no {p : Nat → Bool} {i : Nat} (h : findN p i = none) (hp : p i = false) : findN p (i + 1) = none := by simp [findN, h, hp]
theorem findN_none {p : Nat → Bool} : ∀ {n : Nat}, findN p n = none → ∀ i, i < n → p i = false
  | 0, _, i, hi => absurd hi (Nat.not_lt_zero _)
  | n + 1, h, i, hi => by
    simp only [findN] at h
    split at h
    · cases h
    · rename_i h1
      split at h
      · cases h
      · rename_i h2
        rcases Nat.lt_or_ge i n with h3 | h3
        · exact findN_none h1 i h3
        · rw [show i = n by omega]; simpa using h2
def unsoundB (p : Part) : Bool := decide (p.nodes < 1) || decide (p.nodes > 12) || decide (p.faults < 0) || decide (p.faults > 3) || decide (p.nodes < 3 * p.faults + 1)
/-- what is wrong first, and where. -/
def checkR (c : Config) : Int × Int :=
  if c.parts.length < 1 ∨ c.parts.length > 6 then (7, 0)
  else match findN (fun i => unsoundB (c.parts.getD i default)) c.parts.length with
  | some i => (8, i)
  | none => if c.links.length > 10 then (9, 0)
    else match findN (fun i => linkE c i != 0) c.links.length with
    | some i => (linkE c i, i)
    | none => match findN (fun i => decide ((distsL c 0).getD i default < 0)) c.parts.length with
      | some i => (13, i)
      | none => (0, 0)
theorem links_in {c : Config} (h : findN (fun i => linkE c i != 0) c.links.length = none) : LinksIn c := by
  intro i hi
  have h1 := findN_none h i hi
  have h2 : linkE c i = 0 := by simpa using h1
  unfold linkE at h2
  split at h2
  · cases h2
  · rename_i h3
    simp only [Bool.or_eq_true, Bool.not_eq_true', decide_eq_true_eq, isB_false, not_or, Classical.not_not] at h3
    exact ⟨h3.1.1.1, h3.1.1.2, h3.1.2.1, h3.1.2.2⟩
theorem distsL_len (c : Config) (f : Nat) : (distsL c f).length = c.parts.length := by rw [distsL, distsN_len, dists0_len]
theorem wrapF (x : Int) (h : 0 ≤ x ∧ x ≤ 3) : IntKind.i64.wrap (IntKind.i64.wrap (3 * x) + 1) = 3 * x + 1 := by rw [Ev.wrap_i64 (x := 3 * x) (by omega) (by omega)]; exact Ev.wrap_i64 (by omega) (by omega)
theorem unsound_yes {p : Part} (h : (((p.nodes < 1 ∨ p.nodes > 12) ∨ p.faults < 0) ∨ p.faults > 3) ∨ p.nodes < IntKind.i64.wrap (IntKind.i64.wrap (3 * p.faults) + 1)) : unsoundB p = true := by
  unfold unsoundB
  simp only [Bool.or_eq_true, decide_eq_true_eq]
  rcases h with h | h
  · exact .inl h
  · by_cases hf : 0 ≤ p.faults ∧ p.faults ≤ 3
    · rw [wrapF _ hf] at h; exact .inr h
    · omega
theorem unsound_no {p : Part} (h : ¬ ((((p.nodes < 1 ∨ p.nodes > 12) ∨ p.faults < 0) ∨ p.faults > 3) ∨ p.nodes < IntKind.i64.wrap (IntKind.i64.wrap (3 * p.faults) + 1))) : unsoundB p = false := by
  unfold unsoundB
  simp only [not_or] at h
  rw [wrapF _ (by omega)] at h
  simp only [Bool.or_eq_false_iff, decide_eq_false_iff_not]
  exact h
theorem wrap3 (x : Int) (h : 0 ≤ x ∧ x ≤ 3) : IntKind.i64.wrap (3 * x) = 3 * x := Ev.wrap_i64 (by omega) (by omega)
theorem drumlineref5_Check_pc (c : Config) (hp0 : c.parts.length < 1000000) (hl0 : c.links.length < 1000000) : PC Tryd.prog [] 35 [D.r (Config.d c)] (· = D.t [I (checkR c).1, I (checkR c).2]) := by
 refine PC.of (N := 92) Tryd.func35 rfl rfl (Nat.le_of_ble_eq_true rfl) ?_
 refine PW.sr [1] 1 trivial ?_
 refine PW.seq ?_
 refine PW.sr [1, 19] 1 trivial ?_
 refine PW.cd ((decide ((c.parts.length : Int) < (1 : Int))) || (decide ((c.parts.length : Int) > (6 : Int)))) (fun hz0 => ?_) (fun hz0 => ?_)
 ·try simp only [boolS, isB_true, isB_false] at hz0
  try have hn0 : findN (fun i => unsoundB (c.parts.getD i default)) c.parts.length = none := by have h := hinv.2; rwa [show i = c.parts.length by omega] at h
  try have hn1 : findN (fun i => linkE c i != 0) c.links.length = none := by have h := hinv.2; rwa [show i = c.links.length by omega] at h
  refine PW.sr [2, 3] 1 trivial ?_
  refine PW.ret ?_
  refine retQ_ret (d := D.t [I 7, I 0]) (ps := []) (by kernel_rfl) trivial ?_
  refine congrArg (fun x : Int × Int => D.t [I x.1, I x.2]) (?_ : ((7 : Int), (0 : Int)) = checkR c)
  unfold checkR
  rw [if_pos (by omega)]
 ·try simp only [boolS, isB_true, isB_false] at hz0
  try have hn0 : findN (fun i => unsoundB (c.parts.getD i default)) c.parts.length = none := by have h := hinv.2; rwa [show i = c.parts.length by omega] at h
  try have hn1 : findN (fun i => linkE c i != 0) c.links.length = none := by have h := hinv.2; rwa [show i = c.links.length by omega] at h
  refine PW.skip ?_
  show PW _ _ _ _ _
  refine PW.seq ?_
  refine PW.sr [1, 4] 1 trivial ?_
  refine PW.block ?_
  refine PW.lp (α := Nat) (fun i => { tab := [⟨1, [], D.p 0 0 0 0⟩, ⟨4, [], I (i : Int)⟩], mem := [Obj.var 26 (Config.d c)] }) (fun i => i ≤ c.parts.length ∧ findN (fun i => unsoundB (c.parts.getD i default)) i = none) (fun i => c.parts.length - i) [1, 4] 1 (0) ?_ ?_
  ·exact ⟨Nat.zero_le _, rfl⟩
  rintro i hinv
  show PW _ _ _ _ _
  refine PW.seq ?_
  refine PW.sr [1, 4, 24] 1 trivial ?_
  refine PW.cd (decide ((i : Int) < (c.parts.length : Int))) (fun hz1 => ?_) (fun hz1 => ?_)
  ·try simp only [boolS, isB_true, isB_false] at hz1
   try have hn0 : findN (fun i => unsoundB (c.parts.getD i default)) c.parts.length = none := by have h := hinv.2; rwa [show i = c.parts.length by omega] at h
   try have hn1 : findN (fun i => linkE c i != 0) c.links.length = none := by have h := hinv.2; rwa [show i = c.links.length by omega] at h
   refine PW.skip ?_
   show PW _ _ _ _ _
   refine PW.seq ?_
   refine PW.block ?_
   refine PW.sr [1, 4, 5] 2 (p := (0 ≤ (i : Int) ∧ (i : Int) < (c.parts.length : Int))) (by omega) ?_
   refine PW.sr [1, 4, 58] 2 trivial ?_
   refine PW.cd (((((decide (((c.parts.getD i default).nodes) < (1 : Int))) || (decide (((c.parts.getD i default).nodes) > (12 : Int)))) || (decide (((c.parts.getD i default).faults) < (0 : Int)))) || (decide (((c.parts.getD i default).faults) > (3 : Int)))) || (decide (((c.parts.getD i default).nodes) < (IntKind.i64.wrap ((IntKind.i64.wrap (3 * ((c.parts.getD i default).faults))) + 1))))) (fun hz2 => ?_) (fun hz2 => ?_)
   ·try simp only [boolS, isB_true, isB_false] at hz2
    try have hn0 : findN (fun i => unsoundB (c.parts.getD i default)) c.parts.length = none := by have h := hinv.2; rwa [show i = c.parts.length by omega] at h
    try have hn1 : findN (fun i => linkE c i != 0) c.links.length = none := by have h := hinv.2; rwa [show i = c.links.length by omega] at h
    refine PW.sr [2, 3] 2 trivial ?_
    refine PW.ret ?_
    refine retQ_ret (d := D.t [I 8, I (i : Int)]) (ps := []) (by kernel_rfl) trivial ?_
    refine congrArg (fun x : Int × Int => D.t [I x.1, I x.2]) (?_ : ((8 : Int), (i : Int)) = checkR c)
    unfold checkR
    rw [if_neg (by omega), findN_yes hinv.2 (unsound_yes hz2) (by omega)]
   ·try simp only [boolS, isB_true, isB_false] at hz2
    try have hn0 : findN (fun i => unsoundB (c.parts.getD i default)) c.parts.length = none := by have h := hinv.2; rwa [show i = c.parts.length by omega] at h
    try have hn1 : findN (fun i => linkE c i != 0) c.links.length = none := by have h := hinv.2; rwa [show i = c.links.length by omega] at h
    refine PW.skip ?_
    show PW _ _ _ _ _
    refine PW.rr [1, 4] 2 trivial ?_
    refine BackR.of (s1 := { tab := [⟨1, [], D.p 0 0 0 0⟩, ⟨4, [], I (IntKind.i64.wrap ((i : Int) + 1))⟩], mem := [Obj.var 26 (Config.d c)] }) (i + 1) (by kernel_rfl) (by kernel_rfl) ?_ ?_ ?_
    ·rw [wrap1 i (by omega)]
     exact Rem.refl _
    ·exact ⟨by omega, findN_no hinv.2 (unsound_no (by simp only [not_or]; exact hz2))⟩
    ·((repeat' (first | intro _ | refine And.intro ?_ ?_)) <;> first | omega | trivial | assumption | (rename_i hgd; simp only [Bool.and_eq_true, decide_eq_true_eq, and_true] at hgd; omega))
  ·try simp only [boolS, isB_true, isB_false] at hz1
   try have hn0 : findN (fun i => unsoundB (c.parts.getD i default)) c.parts.length = none := by have h := hinv.2; rwa [show i = c.parts.length by omega] at h
   try have hn1 : findN (fun i => linkE c i != 0) c.links.length = none := by have h := hinv.2; rwa [show i = c.links.length by omega] at h
   refine PW.exit ?_
   show PW _ _ _ _ _
   refine PW.seq ?_
   refine PW.sr [1, 63] 1 trivial ?_
   refine PW.cd (decide ((c.links.length : Int) > (10 : Int))) (fun hz3 => ?_) (fun hz3 => ?_)
   ·try simp only [boolS, isB_true, isB_false] at hz3
    try have hn0 : findN (fun i => unsoundB (c.parts.getD i default)) c.parts.length = none := by have h := hinv.2; rwa [show i = c.parts.length by omega] at h
    try have hn1 : findN (fun i => linkE c i != 0) c.links.length = none := by have h := hinv.2; rwa [show i = c.links.length by omega] at h
    refine PW.sr [2, 3] 1 trivial ?_
    refine PW.ret ?_
    refine retQ_ret (d := D.t [I 9, I 0]) (ps := []) (by kernel_rfl) trivial ?_
    refine congrArg (fun x : Int × Int => D.t [I x.1, I x.2]) (?_ : ((9 : Int), (0 : Int)) = checkR c)
    unfold checkR
    rw [if_neg (by omega), hn0, if_pos (by omega)]
   ·try simp only [boolS, isB_true, isB_false] at hz3
    try have hn0 : findN (fun i => unsoundB (c.parts.getD i default)) c.parts.length = none := by have h := hinv.2; rwa [show i = c.parts.length by omega] at h
    try have hn1 : findN (fun i => linkE c i != 0) c.links.length = none := by have h := hinv.2; rwa [show i = c.links.length by omega] at h
    refine PW.skip ?_
    show PW _ _ _ _ _
    refine PW.seq ?_
    refine PW.sr [1, 6] 1 trivial ?_
    refine PW.block ?_
    refine PW.lp (α := Nat) (fun i => { tab := [⟨1, [], D.p 0 0 0 0⟩, ⟨6, [], I (i : Int)⟩], mem := [Obj.var 26 (Config.d c)] }) (fun i => i ≤ c.links.length ∧ findN (fun i => linkE c i != 0) i = none) (fun i => c.links.length - i) [1, 6] 1 (0) ?_ ?_
    ·exact ⟨Nat.zero_le _, rfl⟩
    rintro i hinv
    show PW _ _ _ _ _
    refine PW.seq ?_
    refine PW.sr [1, 6, 68] 1 trivial ?_
    refine PW.cd (decide ((i : Int) < (c.links.length : Int))) (fun hz4 => ?_) (fun hz4 => ?_)
    ·try simp only [boolS, isB_true, isB_false] at hz4
     try have hn0 : findN (fun i => unsoundB (c.parts.getD i default)) c.parts.length = none := by have h := hinv.2; rwa [show i = c.parts.length by omega] at h
     try have hn1 : findN (fun i => linkE c i != 0) c.links.length = none := by have h := hinv.2; rwa [show i = c.links.length by omega] at h
     refine PW.skip ?_
     show PW _ _ _ _ _
     refine PW.seq ?_
     refine PW.block ?_
     refine PW.sg ?_
     refine PL.rw 2 [1, 6, 71, 72] 1 trivial ?_
     refine PL.gc (A := []) (fun _ => drumlineref5_link_pc c i (by omega) (by omega) (by omega)) ?_
     refine PL.rw 1 [1, 6, 7] 1 trivial ?_
     refine PL.nl ?_
     refine PW.sr [1, 6, 7, 75] 1 trivial ?_
     refine PW.cd ((linkE c i) != (0 : Int)) (fun hz5 => ?_) (fun hz5 => ?_)
     ·try simp only [boolS, isB_true, isB_false] at hz5
      try have hn0 : findN (fun i => unsoundB (c.parts.getD i default)) c.parts.length = none := by have h := hinv.2; rwa [show i = c.parts.length by omega] at h
      try have hn1 : findN (fun i => linkE c i != 0) c.links.length = none := by have h := hinv.2; rwa [show i = c.links.length by omega] at h
      refine PW.sr [2, 3] 1 trivial ?_
      refine PW.ret ?_
      refine retQ_ret (d := D.t [I (linkE c i), I (i : Int)]) (ps := []) (by kernel_rfl) trivial ?_
      refine congrArg (fun x : Int × Int => D.t [I x.1, I x.2]) (?_ : (linkE c i, (i : Int)) = checkR c)
      unfold checkR
      rw [if_neg (by omega), hn0, if_neg (by omega), findN_yes hinv.2 (by simpa using hz5) (by omega)]
     ·try simp only [boolS, isB_true, isB_false] at hz5
      try have hn0 : findN (fun i => unsoundB (c.parts.getD i default)) c.parts.length = none := by have h := hinv.2; rwa [show i = c.parts.length by omega] at h
      try have hn1 : findN (fun i => linkE c i != 0) c.links.length = none := by have h := hinv.2; rwa [show i = c.links.length by omega] at h
      refine PW.skip ?_
      show PW _ _ _ _ _
      refine PW.rr [1, 6] 1 trivial ?_
      refine BackR.of (s1 := { tab := [⟨1, [], D.p 0 0 0 0⟩, ⟨6, [], I (IntKind.i64.wrap ((i : Int) + 1))⟩], mem := [Obj.var 26 (Config.d c)] }) (i + 1) (by kernel_rfl) (by kernel_rfl) ?_ ?_ ?_
      ·rw [wrap1 i (by omega)]
       exact Rem.refl _
      ·exact ⟨by omega, findN_no hinv.2 (by simpa using hz5)⟩
      ·((repeat' (first | intro _ | refine And.intro ?_ ?_)) <;> first | omega | trivial | assumption | (rename_i hgd; simp only [Bool.and_eq_true, decide_eq_true_eq, and_true] at hgd; omega))
    ·try simp only [boolS, isB_true, isB_false] at hz4
     try have hn0 : findN (fun i => unsoundB (c.parts.getD i default)) c.parts.length = none := by have h := hinv.2; rwa [show i = c.parts.length by omega] at h
     try have hn1 : findN (fun i => linkE c i != 0) c.links.length = none := by have h := hinv.2; rwa [show i = c.links.length by omega] at h
     refine PW.exit ?_
     show PW _ _ _ _ _
     refine PW.sg ?_
     refine PL.rw 1 [78] 1 trivial ?_
     refine PL.gc (A := []) (fun _ => drumlineref5_dists_pc c 0 (by omega) (links_in hn1) (by omega) (by omega)) ?_
     refine PL.rw 1 [8] 1 trivial ?_
     refine PL.nl ?_
     refine PW.seq ?_
     refine PW.sr [8, 9] 1 trivial ?_
     refine PW.block ?_
     refine PW.lp (α := Nat) (fun i => { tab := [⟨8, [], sl' 1 (fun x => [I x]) (distsL c 0)⟩, ⟨9, [], I (i : Int)⟩], mem := [Obj.var 26 (Config.d c)] }) (fun i => i ≤ c.parts.length ∧ findN (fun i => decide ((distsL c 0).getD i default < 0)) i = none) (fun i => c.parts.length - i) [8, 9] 1 (0) ?_ ?_
     ·exact ⟨Nat.zero_le _, rfl⟩
     rintro i hinv
     show PW _ _ _ _ _
     refine PW.seq ?_
     refine PW.sr [8, 9, 83] 1 trivial ?_
     refine PW.cd (decide ((i : Int) < ((distsL c 0).length : Int))) (fun hz6 => ?_) (fun hz6 => ?_)
     ·try simp only [boolS, isB_true, isB_false] at hz6
      try have hn0 : findN (fun i => unsoundB (c.parts.getD i default)) c.parts.length = none := by have h := hinv.2; rwa [show i = c.parts.length by omega] at h
      try have hn1 : findN (fun i => linkE c i != 0) c.links.length = none := by have h := hinv.2; rwa [show i = c.links.length by omega] at h
      refine PW.skip ?_
      show PW _ _ _ _ _
      refine PW.seq ?_
      refine PW.block ?_
      refine PW.sr [8, 9, 90] 1 (p := (0 ≤ (i : Int) ∧ (i : Int) < ((distsL c 0).length : Int))) (by omega) ?_
      refine PW.cd (decide (((distsL c 0).getD i default) < (0 : Int))) (fun hz7 => ?_) (fun hz7 => ?_)
      ·try simp only [boolS, isB_true, isB_false] at hz7
       try have hn0 : findN (fun i => unsoundB (c.parts.getD i default)) c.parts.length = none := by have h := hinv.2; rwa [show i = c.parts.length by omega] at h
       try have hn1 : findN (fun i => linkE c i != 0) c.links.length = none := by have h := hinv.2; rwa [show i = c.links.length by omega] at h
       refine PW.sr [2, 3] 1 trivial ?_
       refine PW.ret ?_
       refine retQ_ret (d := D.t [I 13, I (i : Int)]) (ps := []) (by kernel_rfl) trivial ?_
       refine congrArg (fun x : Int × Int => D.t [I x.1, I x.2]) (?_ : ((13 : Int), (i : Int)) = checkR c)
       unfold checkR
       rw [if_neg (by omega), hn0, if_neg (by omega), hn1, findN_yes hinv.2 (by simpa using hz7) (by rw [distsL_len] at *; omega)]
      ·try simp only [boolS, isB_true, isB_false] at hz7
       try have hn0 : findN (fun i => unsoundB (c.parts.getD i default)) c.parts.length = none := by have h := hinv.2; rwa [show i = c.parts.length by omega] at h
       try have hn1 : findN (fun i => linkE c i != 0) c.links.length = none := by have h := hinv.2; rwa [show i = c.links.length by omega] at h
       refine PW.skip ?_
       show PW _ _ _ _ _
       refine PW.rr [8, 9] 1 trivial ?_
       refine BackR.of (s1 := { tab := [⟨8, [], sl' 1 (fun x => [I x]) (distsL c 0)⟩, ⟨9, [], I (IntKind.i64.wrap ((i : Int) + 1))⟩], mem := [Obj.var 26 (Config.d c)] }) (i + 1) (by kernel_rfl) (by kernel_rfl) ?_ ?_ ?_
       ·rw [wrap1 i (by omega)]
        exact Rem.refl _
       ·exact ⟨by rw [distsL_len] at *; omega, findN_no hinv.2 (by simpa using hz7)⟩
       ·rw [distsL_len] at *; omega
     ·try simp only [boolS, isB_true, isB_false] at hz6
      try have hn0 : findN (fun i => unsoundB (c.parts.getD i default)) c.parts.length = none := by have h := hinv.2; rwa [show i = c.parts.length by omega] at h
      try have hn1 : findN (fun i => linkE c i != 0) c.links.length = none := by have h := hinv.2; rwa [show i = c.links.length by omega] at h
      refine PW.exit ?_
      show PW _ _ _ _ _
      refine PW.sr [2, 3] 1 trivial ?_
      refine PW.ret ?_
      refine retQ_ret (d := D.t [I 0, I 0]) (ps := []) (by kernel_rfl) trivial ?_
      refine congrArg (fun x : Int × Int => D.t [I x.1, I x.2]) (?_ : ((0 : Int), (0 : Int)) = checkR c)
      unfold checkR
      rw [if_neg (by omega), hn0, if_neg (by omega), hn1]
      rw [show i = c.parts.length by rw [distsL_len] at *; omega] at hinv
      rw [hinv.2]
end Go.Proofs.YtagdeldgpkjjjaaDoor.Pl
