/- Package plan's check. -/
import Derived.Test.YtagdeldgpkjjjaaDoorPlNine
namespace Go.Proofs.YtagdeldgpkjjjaaDoor.Pl
open Go.RowKit Go.Proofs.YtagdeldgpkjjjaaDoor.Sm Go.Proofs.YtagdeldgpkjjjaaDoor.Dp
set_option maxHeartbeats 4000000
set_option maxRecDepth 100000
set_option linter.unusedVariables false
set_option linter.unusedSimpArgs false
/-- which variable holds an error. -/
def kOf (n : Int) : Nat := if n = 7 then 0 else if n = 8 then 1 else if n = 9 then 2 else if n = 13 then 3 else if n = 10 then 4 else if n = 11 then 5 else 6
def faultD (e : Nat → Addr) (x : Int × Int) : D := if x.1 = 0 then D.v .nilIface else D.i 76 (D.q [sentD e (kOf x.1), I x.2] 0)
theorem linkE_is (c : Config) (i : Nat) : linkE c i = 0 ∨ linkE c i = 10 ∨ linkE c i = 11 ∨ linkE c i = 12 := by
  unfold linkE
  split
  · exact .inr (.inl rfl)
  · split
    · exact .inr (.inr (.inl rfl))
    · split
      · exact .inr (.inr (.inr rfl))
      · exact .inl rfl
theorem errD_nil {e : Nat → Addr} {n : Int} (h : n = 0) : errD e n = D.v .nilIface := by rw [h]; rfl
theorem errD_some {e : Nat → Addr} {c : Config} {i : Nat} (h : ¬ linkE c i = 0) : errD e (linkE c i) = sentD e (kOf (linkE c i)) := by
  rcases linkE_is c i with h1 | h1 | h1 | h1
  · exact absurd h1 h
  all_goals rw [h1]; rfl
/-- what is wrong first, and where, as package plan finds it. -/
def checkP (c : Config) : Int × Int :=
  if c.parts.length < 1 ∨ c.parts.length > 6 then (7, 0)
  else match findN (fun i => unsoundB (c.parts.getD i default)) c.parts.length with
  | some i => (8, i)
  | none => if c.links.length > 10 then (9, 0)
    else match findN (fun i => linkE c i != 0) c.links.length with
    | some i => (linkE c i, i)
    | none => match apartP c with
      | some i => (13, i)
      | none => (0, 0)
theorem plan_check_pc (e : Nat → Addr) (c : Config) (hp0 : c.parts.length < 1000000) (hl0 : c.links.length < 1000000) : PC Tryd.prog (errG e) 38 [D.r (Config.d c)] (· = faultD e (checkP c)) := by
 refine PC.of (N := 76) Tryd.func38 rfl rfl (Nat.le_of_ble_eq_true rfl) ?_
 refine PW.sr [1] 1 trivial ?_
 refine PW.seq ?_
 refine PW.sr [1, 18] 1 trivial ?_
 refine PW.cd ((decide ((c.parts.length : Int) < (1 : Int))) || (decide ((c.parts.length : Int) > (6 : Int)))) (fun hz0 => ?_) (fun hz0 => ?_)
 ·try simp only [boolS, isB_true, isB_false] at hz0
  try have hn0 : findN (fun i => unsoundB (c.parts.getD i default)) c.parts.length = none := by have h := hinv.2; rwa [show i = c.parts.length by omega] at h
  try have hn1 : findN (fun i => linkE c i != 0) c.links.length = none := by have h := hinv.2; rwa [show i = c.links.length by omega] at h
  refine PW.sg ?_
  refine PL.rw 3 [21] 2 trivial ?_
  refine PL.sl [21] 2 ?_
  refine PL.fz 1 (t := 78) [D.v (.iface 128 (.pointer (some (e 0)))), I 0] ?_
  refine PL.rw 2 [2] 2 trivial ?_
  refine PL.nl ?_
  refine PW.ret ?_
  refine retQ_ret (d := D.i 76 (D.q [D.v (.iface 128 (.pointer (some (e 0)))), I 0] 0)) (ps := []) (by kernel_rfl) trivial ?_
  have hc : checkP c = (7, 0) := by
    unfold checkP
    rw [if_pos (by omega)]
  rw [hc]
  rfl
 ·try simp only [boolS, isB_true, isB_false] at hz0
  try have hn0 : findN (fun i => unsoundB (c.parts.getD i default)) c.parts.length = none := by have h := hinv.2; rwa [show i = c.parts.length by omega] at h
  try have hn1 : findN (fun i => linkE c i != 0) c.links.length = none := by have h := hinv.2; rwa [show i = c.links.length by omega] at h
  refine PW.skip ?_
  show PW _ _ _ _ _
  refine PW.seq ?_
  refine PW.sr [1, 24, 25, 26] 1 trivial ?_
  refine PW.block ?_
  refine PW.lp (α := Nat) (fun i => { tab := [⟨1, [], D.p 0 0 0 0⟩, ⟨24, [], sl' 2 Part.d c.parts⟩, ⟨25, [], I (c.parts.length : Int)⟩, ⟨26, [], I (i : Int)⟩], mem := [Obj.var 26 (Config.d c)], gl := (errG e) }) (fun i => i ≤ c.parts.length ∧ findN (fun i => unsoundB (c.parts.getD i default)) i = none) (fun i => c.parts.length - i) [1, 24, 25, 26] 1 (0) ?_ ?_
  ·exact ⟨Nat.zero_le _, rfl⟩
  rintro i hinv
  show PW _ _ _ _ _
  refine PW.sr [1, 24, 25, 26, 27] 1 trivial ?_
  refine PW.seq ?_
  refine PW.cd (decide ((i : Int) < (c.parts.length : Int))) (fun hz1 => ?_) (fun hz1 => ?_)
  ·try simp only [boolS, isB_true, isB_false] at hz1
   try have hn0 : findN (fun i => unsoundB (c.parts.getD i default)) c.parts.length = none := by have h := hinv.2; rwa [show i = c.parts.length by omega] at h
   try have hn1 : findN (fun i => linkE c i != 0) c.links.length = none := by have h := hinv.2; rwa [show i = c.links.length by omega] at h
   refine PW.skip ?_
   show PW _ _ _ _ _
   refine PW.seq ?_
   refine PW.block ?_
   refine PW.sr [1, 3, 4, 24, 25, 26] 2 (p := (0 ≤ (i : Int) ∧ (i : Int) < (c.parts.length : Int))) (by omega) ?_
   refine PW.sg ?_
   refine PL.rw 1 [1, 3, 24, 25, 26, 31] 2 trivial ?_
   refine PL.gc (G := (errG e)) (A := []) (fun _ => PC.more (plan_sound_pc (c.parts.getD i default))) ?_
   refine PL.rw 1 [1, 3, 24, 25, 26, 33] 2 trivial ?_
   refine PL.nl ?_
   refine PW.cd (!(!unsoundB (c.parts.getD i default))) (fun hz2 => ?_) (fun hz2 => ?_)
   ·try simp only [boolS, isB_true, isB_false] at hz2
    try have hn0 : findN (fun i => unsoundB (c.parts.getD i default)) c.parts.length = none := by have h := hinv.2; rwa [show i = c.parts.length by omega] at h
    try have hn1 : findN (fun i => linkE c i != 0) c.links.length = none := by have h := hinv.2; rwa [show i = c.links.length by omega] at h
    refine PW.sg ?_
    refine PL.rw 4 [37] 3 trivial ?_
    refine PL.sl [37] 3 ?_
    refine PL.fz 2 (t := 78) [D.v (.iface 128 (.pointer (some (e 1)))), I (i : Int)] ?_
    refine PL.rw 2 [2] 3 trivial ?_
    refine PL.nl ?_
    refine PW.ret ?_
    refine retQ_ret (d := D.i 76 (D.q [D.v (.iface 128 (.pointer (some (e 1)))), I (i : Int)] 0)) (ps := []) (by kernel_rfl) trivial ?_
    have hc : checkP c = (8, (i : Int)) := by
      unfold checkP
      rw [if_neg (by omega), findN_yes hinv.2 (by simpa using hz2) (by omega)]
    rw [hc]
    rfl
   ·try simp only [boolS, isB_true, isB_false] at hz2
    try have hn0 : findN (fun i => unsoundB (c.parts.getD i default)) c.parts.length = none := by have h := hinv.2; rwa [show i = c.parts.length by omega] at h
    try have hn1 : findN (fun i => linkE c i != 0) c.links.length = none := by have h := hinv.2; rwa [show i = c.links.length by omega] at h
    refine PW.skip ?_
    show PW _ _ _ _ _
    refine PW.rr [1, 24, 25, 26] 2 trivial ?_
    refine BackR.of (s1 := { tab := [⟨1, [], D.p 0 0 0 0⟩, ⟨24, [], sl' 2 Part.d c.parts⟩, ⟨25, [], I (c.parts.length : Int)⟩, ⟨26, [], I (IntKind.i64.wrap ((i : Int) + 1))⟩], mem := [Obj.var 26 (Config.d c)], gl := (errG e) }) (i + 1) (by kernel_rfl) (by kernel_rfl) ?_ ?_ ?_
    ·rw [wrap1 i (by omega)]
     exact Rem.refl _
    ·exact ⟨by omega, findN_no hinv.2 (by simpa using hz2)⟩
    ·((repeat' (first | intro _ | refine And.intro ?_ ?_)) <;> first | omega | trivial | assumption | (rename_i hgd; simp only [Bool.and_eq_true, decide_eq_true_eq, and_true] at hgd; omega))
  ·try simp only [boolS, isB_true, isB_false] at hz1
   try have hn0 : findN (fun i => unsoundB (c.parts.getD i default)) c.parts.length = none := by have h := hinv.2; rwa [show i = c.parts.length by omega] at h
   try have hn1 : findN (fun i => linkE c i != 0) c.links.length = none := by have h := hinv.2; rwa [show i = c.links.length by omega] at h
   refine PW.exit ?_
   show PW _ _ _ _ _
   refine PW.seq ?_
   refine PW.sr [1, 43] 1 trivial ?_
   refine PW.cd (decide ((c.links.length : Int) > (10 : Int))) (fun hz3 => ?_) (fun hz3 => ?_)
   ·try simp only [boolS, isB_true, isB_false] at hz3
    try have hn0 : findN (fun i => unsoundB (c.parts.getD i default)) c.parts.length = none := by have h := hinv.2; rwa [show i = c.parts.length by omega] at h
    try have hn1 : findN (fun i => linkE c i != 0) c.links.length = none := by have h := hinv.2; rwa [show i = c.links.length by omega] at h
    refine PW.sg ?_
    refine PL.rw 3 [46] 2 trivial ?_
    refine PL.sl [46] 2 ?_
    refine PL.fz 1 (t := 78) [D.v (.iface 128 (.pointer (some (e 2)))), I 0] ?_
    refine PL.rw 2 [2] 2 trivial ?_
    refine PL.nl ?_
    refine PW.ret ?_
    refine retQ_ret (d := D.i 76 (D.q [D.v (.iface 128 (.pointer (some (e 2)))), I 0] 0)) (ps := []) (by kernel_rfl) trivial ?_
    have hc : checkP c = (9, 0) := by
      unfold checkP
      rw [if_neg (by omega), hn0, if_pos (by omega)]
    rw [hc]
    rfl
   ·try simp only [boolS, isB_true, isB_false] at hz3
    try have hn0 : findN (fun i => unsoundB (c.parts.getD i default)) c.parts.length = none := by have h := hinv.2; rwa [show i = c.parts.length by omega] at h
    try have hn1 : findN (fun i => linkE c i != 0) c.links.length = none := by have h := hinv.2; rwa [show i = c.links.length by omega] at h
    refine PW.skip ?_
    show PW _ _ _ _ _
    refine PW.seq ?_
    refine PW.sr [1, 50, 51] 1 trivial ?_
    refine PW.block ?_
    refine PW.lp (α := Nat) (fun i => { tab := [⟨1, [], D.p 0 0 0 0⟩, ⟨50, [], I (c.links.length : Int)⟩, ⟨51, [], I (i : Int)⟩], mem := [Obj.var 26 (Config.d c)], gl := (errG e) }) (fun i => i ≤ c.links.length ∧ findN (fun i => linkE c i != 0) i = none) (fun i => c.links.length - i) [1, 50, 51] 1 (0) ?_ ?_
    ·exact ⟨Nat.zero_le _, rfl⟩
    rintro i hinv
    show PW _ _ _ _ _
    refine PW.sr [1, 50, 51, 52] 1 trivial ?_
    refine PW.seq ?_
    refine PW.cd (decide ((i : Int) < (c.links.length : Int))) (fun hz4 => ?_) (fun hz4 => ?_)
    ·try simp only [boolS, isB_true, isB_false] at hz4
     try have hn0 : findN (fun i => unsoundB (c.parts.getD i default)) c.parts.length = none := by have h := hinv.2; rwa [show i = c.parts.length by omega] at h
     try have hn1 : findN (fun i => linkE c i != 0) c.links.length = none := by have h := hinv.2; rwa [show i = c.links.length by omega] at h
     refine PW.skip ?_
     show PW _ _ _ _ _
     refine PW.seq ?_
     refine PW.block ?_
     refine PW.sr [1, 5, 50, 51] 1 trivial ?_
     refine PW.seq ?_
     rcases Classical.em (linkE c i = 0) with hq | hq
     ·skip
      refine PW.region ?_
      refine PL.rw 2 [1, 5, 50, 51, 54, 55] 1 trivial ?_
      refine PL.gc (d := D.v (.nilIface)) (A := []) (fun _ => (plan_checkLink_pc e c i (by omega) (by omega) (by omega)).eq (errD_nil hq)) ?_
      refine PL.rw 1 [1, 5, 6, 50, 51] 1 trivial ?_
      refine PL.nil ?_
      show PW _ _ _ _ _
      refine PW.sr [1, 5, 6, 50, 51, 58] 1 trivial ?_
      refine PW.cd false (fun hz5 => by cases hz5) (fun hz5 => ?_)
      refine PW.skip ?_
      show PW _ _ _ _ _
      refine PW.rr [1, 50, 51] 1 trivial ?_
      refine BackR.of (s1 := { tab := [⟨1, [], D.p 0 0 0 0⟩, ⟨50, [], I (c.links.length : Int)⟩, ⟨51, [], I (IntKind.i64.wrap ((i : Int) + 1))⟩], mem := [Obj.var 26 (Config.d c)], gl := (errG e) }) (i + 1) (by kernel_rfl) (by kernel_rfl) ?_ ?_ ?_
      ·rw [wrap1 i (by omega)]
       exact Rem.refl _
      ·exact ⟨by omega, findN_no hinv.2 (by simpa using hq)⟩
      ·((repeat' (first | intro _ | refine And.intro ?_ ?_)) <;> first | omega | trivial | assumption | (rename_i hgd; simp only [Bool.and_eq_true, decide_eq_true_eq, and_true] at hgd; omega))
     ·skip
      refine PW.region ?_
      refine PL.rw 2 [1, 5, 50, 51, 54, 55] 1 trivial ?_
      refine PL.gc (d := D.v (.iface 128 (.pointer (some (e (kOf (linkE c i))))))) (A := []) (fun _ => (plan_checkLink_pc e c i (by omega) (by omega) (by omega)).eq (errD_some hq)) ?_
      refine PL.rw 1 [1, 5, 6, 50, 51] 1 trivial ?_
      refine PL.nil ?_
      show PW _ _ _ _ _
      refine PW.sr [1, 5, 6, 50, 51, 58] 1 trivial ?_
      refine PW.cd true (fun hz6 => ?_) (fun hz6 => by cases hz6)
      refine PW.sg ?_
      refine PL.rw 4 [62] 2 trivial ?_
      refine PL.sl [62] 2 ?_
      refine PL.fz 1 (t := 78) [D.v (.iface 128 (.pointer (some (e (kOf (linkE c i)))))), I (i : Int)] ?_
      refine PL.rw 2 [2] 2 trivial ?_
      refine PL.nl ?_
      refine PW.ret ?_
      refine retQ_ret (d := D.i 76 (D.q [D.v (.iface 128 (.pointer (some (e (kOf (linkE c i)))))), I (i : Int)] 0)) (ps := []) (by kernel_rfl) trivial ?_
      have hc : checkP c = (linkE c i, (i : Int)) := by
        unfold checkP
        rw [if_neg (by omega), hn0, if_neg (by omega), findN_yes hinv.2 (by simpa using hq) (by omega)]
      rw [hc]
      unfold faultD
      rw [if_neg hq]
      rfl
    ·try simp only [boolS, isB_true, isB_false] at hz4
     try have hn0 : findN (fun i => unsoundB (c.parts.getD i default)) c.parts.length = none := by have h := hinv.2; rwa [show i = c.parts.length by omega] at h
     try have hn1 : findN (fun i => linkE c i != 0) c.links.length = none := by have h := hinv.2; rwa [show i = c.links.length by omega] at h
     refine PW.exit ?_
     show PW _ _ _ _ _
     refine PW.seq ?_
     refine PW.sg ?_
     refine PL.rw 1 [66] 1 trivial ?_
     refine PL.gc (G := (errG e)) (A := []) (fun _ => PC.more (plan_apart_pc c (links_in hn1) (by omega) (by omega))) ?_
     refine PL.rw 5 [7, 8] 1 trivial ?_
     refine PL.nl ?_
     refine PW.sr [7, 70] 1 trivial ?_
     refine PW.cd ((apartP c).isSome) (fun hz7 => ?_) (fun hz7 => ?_)
     ·try simp only [boolS, isB_true, isB_false] at hz7
      try have hn0 : findN (fun i => unsoundB (c.parts.getD i default)) c.parts.length = none := by have h := hinv.2; rwa [show i = c.parts.length by omega] at h
      try have hn1 : findN (fun i => linkE c i != 0) c.links.length = none := by have h := hinv.2; rwa [show i = c.links.length by omega] at h
      refine PW.sg ?_
      refine PL.rw 4 [74] 2 trivial ?_
      refine PL.sl [74] 2 ?_
      refine PL.fz 1 (t := 78) [D.v (.iface 128 (.pointer (some (e 3)))), I (((apartP c).getD 0 : Nat) : Int)] ?_
      refine PL.rw 2 [2] 2 trivial ?_
      refine PL.nl ?_
      refine PW.ret ?_
      refine retQ_ret (d := D.i 76 (D.q [D.v (.iface 128 (.pointer (some (e 3)))), I (((apartP c).getD 0 : Nat) : Int)] 0)) (ps := []) (by kernel_rfl) trivial ?_
      obtain ⟨k, hk⟩ := Option.isSome_iff_exists.1 hz7
      have hc : checkP c = (13, (k : Int)) := by
        unfold checkP
        rw [if_neg (by omega), hn0, if_neg (by omega), hn1, hk]
      rw [hc]
      rw [hk]
      rfl
     ·try simp only [boolS, isB_true, isB_false] at hz7
      try have hn0 : findN (fun i => unsoundB (c.parts.getD i default)) c.parts.length = none := by have h := hinv.2; rwa [show i = c.parts.length by omega] at h
      try have hn1 : findN (fun i => linkE c i != 0) c.links.length = none := by have h := hinv.2; rwa [show i = c.links.length by omega] at h
      refine PW.skip ?_
      show PW _ _ _ _ _
      refine PW.sr [2] 1 trivial ?_
      refine PW.ret ?_
      refine retQ_ret (d := D.v (.nilIface)) (ps := []) (by kernel_rfl) trivial ?_
      have hk : apartP c = none := by cases h : apartP c with | none => rfl | some k => rw [h] at hz7; cases hz7
      have hc : checkP c = (0, 0) := by
        unfold checkP
        rw [if_neg (by omega), hn0, if_neg (by omega), hn1, hk]
      rw [hc]
      rfl
end Go.Proofs.YtagdeldgpkjjjaaDoor.Pl
