/- Package bounds' longest, checkTimes, checkWaits. -/
import Derived.Test.YtleflkgdbagmnaaGreatDoorBdTwo
import Derived.Test.YtleflkgdbagmnaaGreatDoorPlPortB
namespace Go.Proofs.YtleflkgdbagmnaaGreatDoor.Pl
open Go.RowKit Go.Proofs.YtleflkgdbagmnaaGreatDoor.Sm Go.Proofs.YtleflkgdbagmnaaGreatDoor.Dp
set_option maxHeartbeats 4000000
set_option maxRecDepth 100000
set_option linter.unusedVariables false
set_option linter.unusedSimpArgs false
/-- how many slots the part with the most needs, of the first i. -/
def slotsN (c : Config) : Nat → Int
  | 0 => 0
  | i + 1 => if 3 * ((portsOf c (i : Int)).length : Int) + (c.parts.getD i default).nodes > slotsN c i then 3 * ((portsOf c (i : Int)).length : Int) + (c.parts.getD i default).nodes else slotsN c i
def longI (c : Config) : Int := c.lead + slotsN c c.parts.length * c.slot + c.window
def timesI (c : Config) : Int :=
  if c.window < 3 * edgeI c ∨ 20000 < c.window then 6 else if c.slot < 2 * c.window + 1 ∨ 1000000 < c.slot then 7 else if c.lead < c.window ∨ 1000000 < c.lead then 8
  else if c.cycle < longI c then 9 else if c.rate * c.cycle < jumpI c * 1000000 then 10 else 0
def waitsI (c : Config) : Int :=
  if c.ages < ((c.parts.length : Int) - 1) * (c.lost + 1) + 1 then 11 else if c.listen < (c.parts.length : Int) * (c.lost + 1) + 2 ∨ 60000 < c.listen then 12
  else if c.span < (c.parts.length : Int) * (c.lost + 1) + 2 ∨ 60000 < c.span then 13 else if 60000 < c.listen + (c.parts.length : Int) * c.span then 14 else if c.room < (c.parts.length : Int) + 2 ∨ 64 < c.room then 15 else 0
theorem nodes_in {c : Config} (hg : (checkP c).1 = 0) {i : Nat} (hi : i < c.parts.length) : 1 ≤ (c.parts.getD i default).nodes ∧ (c.parts.getD i default).nodes ≤ 12 := by
  have := good_nodes (good_of hg) (part := (i : Int)) ⟨by omega, by omega⟩
  simpa using this
theorem slotsN_in {c : Config} (hg : (checkP c).1 = 0) : ∀ i, i ≤ c.parts.length → 0 ≤ slotsN c i ∧ slotsN c i ≤ 48
  | 0, _ => by simp [slotsN]
  | i + 1, hi => by
    have h1 := slotsN_in hg i (by omega)
    have h2 := nodes_in hg (i := i) (by omega)
    have h3 := portsOf_len c (i : Int)
    unfold slotsN
    split <;> omega
theorem bounds_longest_pc (e : Nat → Addr) (hA : Apart e) (c : Config) (hg : (checkP c).1 = 0) (hp0 : c.parts.length < 1000000) (hl0 : c.links.length < 1000000) (hsl : 0 ≤ c.slot ∧ c.slot ≤ 1000000) (hle : 0 ≤ c.lead ∧ c.lead ≤ 1000000) (hwi : 0 ≤ c.window ∧ c.window ≤ 20000) : PC Tryz.prog (errG3 e) 69 [D.r (Config.d c)] (· = I (longI c)) := by
 refine PC.of (N := 35) Tryz.func69 rfl rfl (Nat.le_of_ble_eq_true rfl) ?_
 refine PW.sr [1] 1 trivial ?_
 refine PW.sr [1, 3] 1 trivial ?_
 refine PW.seq ?_
 refine PW.sr [1, 3, 7, 8, 9] 1 trivial ?_
 refine PW.block ?_
 refine PW.lp (α := Nat × Int) (fun (i, x) => { tab := [⟨1, [], D.p 0 0 0 0⟩, ⟨3, [], I x⟩, ⟨7, [], sl' 2 Part.d c.parts⟩, ⟨8, [], I (c.parts.length : Int)⟩, ⟨9, [], I (i : Int)⟩], mem := [Obj.var 25 (Config.d c)], gl := (errG3 e) }) (fun (i, x) => i ≤ c.parts.length ∧ x = slotsN c i) (fun (i, x) => c.parts.length - i) [1, 3, 7, 8, 9] 1 (0, 0) ?_ ?_
 ·dsimp only
  exact ⟨Nat.zero_le _, rfl⟩
 rintro ⟨i, x⟩ hinv
 dsimp only at hinv
 have hpl := portsOf_len c (i : Int)
 have hw3 : i < c.parts.length → IntKind.i64.wrap ((IntKind.i64.wrap (3 * ((portsOf c (i : Int)).length : Int))) + (c.parts.getD i default).nodes) = 3 * ((portsOf c (i : Int)).length : Int) + (c.parts.getD i default).nodes := fun hi => by
   have := nodes_in hg hi
   rw [Ev.wrap_i64 (x := 3 * ((portsOf c (i : Int)).length : Int)) (by omega) (by omega), Ev.wrap_i64 (by omega) (by omega)]
 show PW _ _ _ _ _
 refine PW.sr [1, 3, 7, 8, 9, 10] 1 trivial ?_
 refine PW.seq ?_
 refine PW.cd (decide ((i : Int) < (c.parts.length : Int))) (fun hz0 => ?_) (fun hz0 => ?_)
 ·try simp only [boolS, isB_true, isB_false, outsideB_true, outsideB_false] at hz0
  refine PW.skip ?_
  show PW _ _ _ _ _
  refine PW.seq ?_
  refine PW.block ?_
  refine PW.sr [1, 3, 4, 5, 7, 8, 9] 2 (p := (0 ≤ (i : Int) ∧ (i : Int) < (c.parts.length : Int))) (by omega) ?_
  refine PW.open [] (by kernel_rfl) ?_
  refine PO.tk [0, 1, 2, 6, 7] 11 [1, 3, 7, 8, 9, 14, 15, 16, 21] 6 trivial (fun _ _ h => h) ?_
  refine PO.one (n := 5) 3 (by kernel_rfl) ?_
  refine PO1.gc _ (A := []) (fun _ => ((plan_Ports_pc0 e c (i : Int) hp0 hl0).list).weak (errG3_sub e)) ?_ rfl
  refine PO.tk [4, 5, 8, 9, 10] 5 [1, 3, 7, 8, 9] 0 trivial (fun _ _ h => h) ?_
  refine PO.eq (s' := { tab := [⟨1, [], D.p 0 0 0 0⟩, ⟨3, [], I (if IntKind.i64.wrap ((IntKind.i64.wrap (3 * ((portsOf c (i : Int)).length : Int))) + ((c.parts.getD i default).nodes)) > x then IntKind.i64.wrap ((IntKind.i64.wrap (3 * ((portsOf c (i : Int)).length : Int))) + ((c.parts.getD i default).nodes)) else x)⟩, ⟨7, [], sl' 2 Part.d c.parts⟩, ⟨8, [], I (c.parts.length : Int)⟩, ⟨9, [], I (i : Int)⟩], mem := [Obj.var 25 (Config.d c), Obj.var 53 [I ((c.parts.getD i default).nodes), I ((c.parts.getD i default).faults)]], gl := (errG3 e) }) (by kernel_rfl) ?_
  refine PO.eq (s' := { tab := [⟨1, [], D.p 0 0 0 0⟩, ⟨3, [], I (slotsN c (i + 1))⟩, ⟨7, [], sl' 2 Part.d c.parts⟩, ⟨8, [], I (c.parts.length : Int)⟩, ⟨9, [], I (i : Int)⟩], mem := [Obj.var 25 (Config.d c), Obj.var 53 [I ((c.parts.getD i default).nodes), I ((c.parts.getD i default).faults)]], gl := (errG3 e) }) (by rw [hw3 (by omega), hinv.2]; rfl) ?_
  refine PO.done (by kernel_rfl) ?_
  show PW _ _ _ _ _
  refine PW.rr [1, 3, 7, 8, 9] 2 trivial ?_
  refine BackR.of (s1 := { tab := [⟨1, [], D.p 0 0 0 0⟩, ⟨3, [], I (slotsN c (i + 1))⟩, ⟨7, [], sl' 2 Part.d c.parts⟩, ⟨8, [], I (c.parts.length : Int)⟩, ⟨9, [], I (IntKind.i64.wrap ((i : Int) + 1))⟩], mem := [Obj.var 25 (Config.d c)], gl := (errG3 e) }) (i + 1, slotsN c (i + 1)) (by kernel_rfl) (by kernel_rfl) ?_ ?_ ?_
  ·dsimp only
   rw [wrap1 i (by omega)]
   exact Rem.refl _
  ·dsimp only
   exact ⟨by omega, rfl⟩
  ·dsimp only
   ((repeat' (first | intro _ | refine And.intro ?_ ?_)) <;> first | omega | trivial | assumption | (rename_i hgd; simp only [Bool.and_eq_true, decide_eq_true_eq, and_true] at hgd; omega))
 ·try simp only [boolS, isB_true, isB_false, outsideB_true, outsideB_false] at hz0
  refine PW.exit ?_
  show PW _ _ _ _ _
  refine PW.sr [2] 1 trivial ?_
  refine PW.ret ?_
  refine retQ_ret (d := I (IntKind.i64.wrap ((IntKind.i64.wrap (c.lead + (IntKind.i64.wrap (x * c.slot)))) + c.window))) (ps := []) (by kernel_rfl) trivial ?_
  have hk : i = c.parts.length := by omega
  have hx := slotsN_in hg i hinv.1
  have hm := mul_in (a := x) (b := c.slot) (A := 48) (B := 1000000) (by omega) (by omega) (by omega) (by omega)
  exact congrArg I (by unfold longI; rw [← hk, ← hinv.2, Ev.wrap_i64 (x := x * c.slot) (by omega) (by omega), Ev.wrap_i64 (x := c.lead + x * c.slot) (by omega) (by omega), Ev.wrap_i64 (by omega) (by omega)])
theorem bounds_checkTimes_pc (e : Nat → Addr) (hA : Apart e) (c : Config) (hg : (checkP c).1 = 0) (hp0 : c.parts.length < 1000000) (hl0 : c.links.length < 1000000) (h : outI c = 0) : PC Tryz.prog (errG3 e) 56 [D.r (Config.d c)] (· = condD e (timesI c)) := by
 refine PC.of (N := 62) Tryz.func56 rfl rfl (Nat.le_of_ble_eq_true rfl) ?_
 have hR := inR_of h
 have r1 := hR.cyc
 have r2 := hR.dri
 have r3 := hR.rat
 have r4 := hR.ags
 have r5 := hR.los
 have r6 := hR.dc
 have r7 := hR.dc2
 have r8 := hR.edg
 have r9 := hR.slw
 have r10 := hR.stp
 have r11 := hR.asp
 have r12 := hR.jmp
 have r13 := hR.erd
 have r14 := hR.eru
 have r15 := hR.rc
 have hw6 : IntKind.i64.wrap ((2 * edgeI c) + (edgeI c)) = 3 * edgeI c := by rw [Ev.wrap_i64 (by omega) (by omega)]; omega
 have hw10 : IntKind.i64.wrap (c.rate * c.cycle) = c.rate * c.cycle := Ev.wrap_i64 (by omega) (by omega)
 have hw10b : IntKind.i64.wrap ((jumpI c) * 1000000) = jumpI c * 1000000 := Ev.wrap_i64 (by omega) (by omega)
 refine PW.sr [1] 1 trivial ?_
 refine PW.sr [1, 3] 1 trivial ?_
 refine PW.seq ?_
 refine PW.block ?_
 refine PW.seq ?_
 refine PW.open [] (by kernel_rfl) ?_
 refine PO.tk [0, 1, 3] 8 [1, 3, 7, 8, 10] 5 trivial (fun _ _ h => h) ?_
 refine PO.one (n := 4) 2 (by kernel_rfl) ?_
 refine PO1.gc _ (G := (errG3 e)) (A := []) (fun _ => PC.more (bounds_near_pc c h)) ?_ rfl
 refine PO.one (n := 3) 4 (by kernel_rfl) ?_
 refine PO1.gc _ (G := (errG3 e)) (A := []) (fun _ => PC.more (bounds_edge_pc c h)) ?_ rfl
 refine PO.tk [5] 3 [1, 3, 7, 12] 2 trivial (fun _ _ h => h) ?_
 refine PO.one (n := 1) 6 (by kernel_rfl) ?_
 refine PO1.gc _ (G := (errG3 e)) (A := []) (fun _ => PC.more (bounds_outside_pc c.window (IntKind.i64.wrap ((2 * edgeI c) + (edgeI c))) 20000)) ?_ rfl
 refine PO.tk [7] 1 [1, 3, 6] 0 trivial (fun _ _ h => h) ?_
 refine PO.done (by kernel_rfl) ?_
 show PW _ _ _ _ _
 refine PW.cd (outsideB c.window (IntKind.i64.wrap ((2 * edgeI c) + (edgeI c))) 20000) (fun hz0 => ?_) (fun hz0 => ?_)
 ·try simp only [boolS, isB_true, isB_false, outsideB_true, outsideB_false] at hz0
  try rw [hw6] at hz0
  try rw [hw7] at hz0
  try rw [hw10, hw10b] at hz0
  try have hw7 : IntKind.i64.wrap ((IntKind.i64.wrap (2 * c.window)) + 1) = 2 * c.window + 1 := by rw [Ev.wrap_i64 (x := 2 * c.window) (by omega) (by omega), Ev.wrap_i64 (by omega) (by omega)]
  refine PW.sg ?_
  refine PL.rw 3 [16] 2 trivial ?_
  refine PL.sl [16] 2 ?_
  refine PL.fz 1 (t := 65) [sentD e 7, I 6] ?_
  refine PL.rw 2 [2] 2 trivial ?_
  refine PL.nl ?_
  refine PW.ret ?_
  refine retQ_ret (d := D.i 60 (D.q [sentD e 7, I 6] 0)) (ps := []) (by kernel_rfl) trivial ?_
  have ht : timesI c = 6 := by
    unfold timesI
    repeat' split
    all_goals omega
  rw [ht]
  rfl
 ·try simp only [boolS, isB_true, isB_false, outsideB_true, outsideB_false] at hz0
  try rw [hw6] at hz0
  try rw [hw7] at hz0
  try rw [hw10, hw10b] at hz0
  try have hw7 : IntKind.i64.wrap ((IntKind.i64.wrap (2 * c.window)) + 1) = 2 * c.window + 1 := by rw [Ev.wrap_i64 (x := 2 * c.window) (by omega) (by omega), Ev.wrap_i64 (by omega) (by omega)]
  refine PW.sg ?_
  refine PL.rw 5 [1, 3, 20, 23] 1 trivial ?_
  refine PL.gc (G := (errG3 e)) (A := []) (fun _ => PC.more (bounds_outside_pc c.slot (IntKind.i64.wrap ((IntKind.i64.wrap (2 * c.window)) + 1)) 1000000)) ?_
  refine PL.rw 1 [1, 3, 18] 1 trivial ?_
  refine PL.nl ?_
  refine PW.cd (outsideB c.slot (IntKind.i64.wrap ((IntKind.i64.wrap (2 * c.window)) + 1)) 1000000) (fun hz1 => ?_) (fun hz1 => ?_)
  ·try simp only [boolS, isB_true, isB_false, outsideB_true, outsideB_false] at hz1
   try rw [hw6] at hz1
   try rw [hw7] at hz1
   try rw [hw10, hw10b] at hz1
   try have hw7 : IntKind.i64.wrap ((IntKind.i64.wrap (2 * c.window)) + 1) = 2 * c.window + 1 := by rw [Ev.wrap_i64 (x := 2 * c.window) (by omega) (by omega), Ev.wrap_i64 (by omega) (by omega)]
   refine PW.sg ?_
   refine PL.rw 3 [27] 2 trivial ?_
   refine PL.sl [27] 2 ?_
   refine PL.fz 1 (t := 65) [sentD e 7, I 7] ?_
   refine PL.rw 2 [2] 2 trivial ?_
   refine PL.nl ?_
   refine PW.ret ?_
   refine retQ_ret (d := D.i 60 (D.q [sentD e 7, I 7] 0)) (ps := []) (by kernel_rfl) trivial ?_
   have ht : timesI c = 7 := by
     unfold timesI
     repeat' split
     all_goals omega
   rw [ht]
   rfl
  ·try simp only [boolS, isB_true, isB_false, outsideB_true, outsideB_false] at hz1
   try rw [hw6] at hz1
   try rw [hw7] at hz1
   try rw [hw10, hw10b] at hz1
   try have hw7 : IntKind.i64.wrap ((IntKind.i64.wrap (2 * c.window)) + 1) = 2 * c.window + 1 := by rw [Ev.wrap_i64 (x := 2 * c.window) (by omega) (by omega), Ev.wrap_i64 (by omega) (by omega)]
   refine PW.sg ?_
   refine PL.rw 3 [1, 31, 32] 1 trivial ?_
   refine PL.gc (G := (errG3 e)) (A := []) (fun _ => PC.more (bounds_outside_pc c.lead c.window 1000000)) ?_
   refine PL.rw 1 [1, 29] 1 trivial ?_
   refine PL.nl ?_
   refine PW.cd (outsideB c.lead c.window 1000000) (fun hz2 => ?_) (fun hz2 => ?_)
   ·try simp only [boolS, isB_true, isB_false, outsideB_true, outsideB_false] at hz2
    try rw [hw6] at hz2
    try rw [hw7] at hz2
    try rw [hw10, hw10b] at hz2
    try have hw7 : IntKind.i64.wrap ((IntKind.i64.wrap (2 * c.window)) + 1) = 2 * c.window + 1 := by rw [Ev.wrap_i64 (x := 2 * c.window) (by omega) (by omega), Ev.wrap_i64 (by omega) (by omega)]
    refine PW.sg ?_
    refine PL.rw 3 [36] 2 trivial ?_
    refine PL.sl [36] 2 ?_
    refine PL.fz 1 (t := 65) [sentD e 7, I 8] ?_
    refine PL.rw 2 [2] 2 trivial ?_
    refine PL.nl ?_
    refine PW.ret ?_
    refine retQ_ret (d := D.i 60 (D.q [sentD e 7, I 8] 0)) (ps := []) (by kernel_rfl) trivial ?_
    have ht : timesI c = 8 := by
      unfold timesI
      repeat' split
      all_goals omega
    rw [ht]
    rfl
   ·try simp only [boolS, isB_true, isB_false, outsideB_true, outsideB_false] at hz2
    try rw [hw6] at hz2
    try rw [hw7] at hz2
    try rw [hw10, hw10b] at hz2
    try have hw7 : IntKind.i64.wrap ((IntKind.i64.wrap (2 * c.window)) + 1) = 2 * c.window + 1 := by rw [Ev.wrap_i64 (x := 2 * c.window) (by omega) (by omega), Ev.wrap_i64 (by omega) (by omega)]
    refine PW.seq ?_
    refine PW.open [] (by kernel_rfl) ?_
    refine PO.tk [0, 2, 3] 6 [1, 39, 42] 3 trivial (fun _ _ h => h) ?_
    refine PO.one (n := 2) 1 (by kernel_rfl) ?_
    refine PO1.gc _ (A := []) (fun _ => bounds_longest_pc e hA c hg hp0 hl0 (by omega) (by omega) (by omega)) ?_ rfl
    refine PO.tk [4, 5] 2 [1, 38] 0 trivial (fun _ _ h => h) ?_
    refine PO.done (by kernel_rfl) ?_
    show PW _ _ _ _ _
    refine PW.cd (decide ((longI c) > c.cycle)) (fun hz3 => ?_) (fun hz3 => ?_)
    ·try simp only [boolS, isB_true, isB_false, outsideB_true, outsideB_false] at hz3
     try rw [hw6] at hz3
     try rw [hw7] at hz3
     try rw [hw10, hw10b] at hz3
     try have hw7 : IntKind.i64.wrap ((IntKind.i64.wrap (2 * c.window)) + 1) = 2 * c.window + 1 := by rw [Ev.wrap_i64 (x := 2 * c.window) (by omega) (by omega), Ev.wrap_i64 (by omega) (by omega)]
     refine PW.sg ?_
     refine PL.rw 3 [46] 2 trivial ?_
     refine PL.sl [46] 2 ?_
     refine PL.fz 1 (t := 65) [sentD e 7, I 9] ?_
     refine PL.rw 2 [2] 2 trivial ?_
     refine PL.nl ?_
     refine PW.ret ?_
     refine retQ_ret (d := D.i 60 (D.q [sentD e 7, I 9] 0)) (ps := []) (by kernel_rfl) trivial ?_
     have ht : timesI c = 9 := by
       unfold timesI
       repeat' split
       all_goals omega
     rw [ht]
     rfl
    ·try simp only [boolS, isB_true, isB_false, outsideB_true, outsideB_false] at hz3
     try rw [hw6] at hz3
     try rw [hw7] at hz3
     try rw [hw10, hw10b] at hz3
     try have hw7 : IntKind.i64.wrap ((IntKind.i64.wrap (2 * c.window)) + 1) = 2 * c.window + 1 := by rw [Ev.wrap_i64 (x := 2 * c.window) (by omega) (by omega), Ev.wrap_i64 (by omega) (by omega)]
     refine PW.seq ?_
     refine PW.open [] (by kernel_rfl) ?_
     refine PO.tk [0, 1, 2, 3, 4, 5] 10 [53, 54] 4 trivial (fun _ _ h => h) ?_
     refine PO.one (n := 3) 6 (by kernel_rfl) ?_
     refine PO1.gc _ (G := (errG3 e)) (A := []) (fun _ => PC.more (bounds_jump_pc c h)) ?_ rfl
     refine PO.tk [7, 8, 9] 3 [48] 0 trivial (fun _ _ h => h) ?_
     refine PO.done (by kernel_rfl) ?_
     show PW _ _ _ _ _
     refine PW.cd (decide ((IntKind.i64.wrap (c.rate * c.cycle)) < (IntKind.i64.wrap ((jumpI c) * 1000000)))) (fun hz4 => ?_) (fun hz4 => ?_)
     ·try simp only [boolS, isB_true, isB_false, outsideB_true, outsideB_false] at hz4
      try rw [hw6] at hz4
      try rw [hw7] at hz4
      try rw [hw10, hw10b] at hz4
      try have hw7 : IntKind.i64.wrap ((IntKind.i64.wrap (2 * c.window)) + 1) = 2 * c.window + 1 := by rw [Ev.wrap_i64 (x := 2 * c.window) (by omega) (by omega), Ev.wrap_i64 (by omega) (by omega)]
      refine PW.sg ?_
      refine PL.rw 3 [60] 2 trivial ?_
      refine PL.sl [60] 2 ?_
      refine PL.fz 1 (t := 65) [sentD e 7, I 10] ?_
      refine PL.rw 2 [2] 2 trivial ?_
      refine PL.nl ?_
      refine PW.ret ?_
      refine retQ_ret (d := D.i 60 (D.q [sentD e 7, I 10] 0)) (ps := []) (by kernel_rfl) trivial ?_
      have ht : timesI c = 10 := by
        unfold timesI
        repeat' split
        all_goals omega
      rw [ht]
      rfl
     ·try simp only [boolS, isB_true, isB_false, outsideB_true, outsideB_false] at hz4
      try rw [hw6] at hz4
      try rw [hw7] at hz4
      try rw [hw10, hw10b] at hz4
      try have hw7 : IntKind.i64.wrap ((IntKind.i64.wrap (2 * c.window)) + 1) = 2 * c.window + 1 := by rw [Ev.wrap_i64 (x := 2 * c.window) (by omega) (by omega), Ev.wrap_i64 (by omega) (by omega)]
      refine PW.skip ?_
      show PW _ _ _ _ _
      refine PW.sr [2] 1 trivial ?_
      refine PW.ret ?_
      refine retQ_ret (d := D.v (.nilIface)) (ps := []) (by kernel_rfl) trivial ?_
      have ht : timesI c = 0 := by
        unfold timesI
        repeat' split
        all_goals omega
      rw [ht]
      rfl
theorem parts_in {c : Config} (hg : (checkP c).1 = 0) : 1 ≤ c.parts.length ∧ c.parts.length ≤ 6 := (good_of hg).len
theorem bounds_checkWaits_pc (e : Nat → Addr) (hA : Apart e) (c : Config) (hg : (checkP c).1 = 0) (hp0 : c.parts.length < 1000000) (hl0 : c.links.length < 1000000) (h : outI c = 0) : PC Tryz.prog (errG3 e) 57 [D.r (Config.d c)] (· = condD e (waitsI c)) := by
 refine PC.of (N := 72) Tryz.func57 rfl rfl (Nat.le_of_ble_eq_true rfl) ?_
 have hR := inR_of h
 have r1 := hR.cyc
 have r2 := hR.dri
 have r3 := hR.rat
 have r4 := hR.ags
 have r5 := hR.los
 have r6 := hR.dc
 have r7 := hR.dc2
 have r8 := hR.edg
 have r9 := hR.slw
 have r10 := hR.stp
 have r11 := hR.asp
 have r12 := hR.jmp
 have r13 := hR.erd
 have r14 := hR.eru
 have r15 := hR.rc
 have hlt : IntKind.i64.wrap (c.lost + 1) = c.lost + 1 := Ev.wrap_i64 (by omega) (by omega)
 have hn6 := parts_in hg
 have hn1 : IntKind.i64.wrap ((c.parts.length : Int) - 1) = (c.parts.length : Int) - 1 := Ev.wrap_i64 (by omega) (by omega)
 have hm1 := mul_in (a := (c.parts.length : Int)) (b := c.lost + 1) (A := 6) (B := 21) (by omega) (by omega) (by omega) (by omega)
 have hm2 := mul_in (a := (c.parts.length : Int) - 1) (b := c.lost + 1) (A := 5) (B := 21) (by omega) (by omega) (by omega) (by omega)
 have hle : IntKind.i64.wrap ((IntKind.i64.wrap ((c.parts.length : Int) * (c.lost + 1))) + 2) = (c.parts.length : Int) * (c.lost + 1) + 2 := by rw [Ev.wrap_i64 (x := (c.parts.length : Int) * (c.lost + 1)) (by omega) (by omega), Ev.wrap_i64 (by omega) (by omega)]
 have hw11 : IntKind.i64.wrap ((IntKind.i64.wrap ((IntKind.i64.wrap ((c.parts.length : Int) - 1)) * (c.lost + 1))) + 1) = ((c.parts.length : Int) - 1) * (c.lost + 1) + 1 := by rw [hn1, Ev.wrap_i64 (x := ((c.parts.length : Int) - 1) * (c.lost + 1)) (by omega) (by omega), Ev.wrap_i64 (by omega) (by omega)]
 have hw15 : IntKind.i64.wrap ((c.parts.length : Int) + 2) = (c.parts.length : Int) + 2 := Ev.wrap_i64 (by omega) (by omega)
 refine PW.sr [1] 1 trivial ?_
 refine PW.seq ?_
 refine PW.open [] (by kernel_rfl) ?_
 refine PO.tk [0, 1, 2, 3, 4, 5, 6, 7] 8 [1, 3, 4] 0 trivial (fun _ _ h => h) ?_
 refine PO.eq (s' := { tab := [⟨1, [], D.p 0 0 0 0⟩, ⟨3, [], I (c.parts.length : Int)⟩, ⟨4, [], I (IntKind.i64.wrap (c.lost + 1))⟩], mem := [Obj.var 25 (Config.d c)], gl := (errG3 e) }) (by kernel_rfl) ?_
 refine PO.eq (s' := { tab := [⟨1, [], D.p 0 0 0 0⟩, ⟨3, [], I (c.parts.length : Int)⟩, ⟨4, [], I (c.lost + 1)⟩], mem := [Obj.var 25 (Config.d c)], gl := (errG3 e) }) (by rw [hlt]) ?_
 refine PO.done (by kernel_rfl) ?_
 show PW _ _ _ _ _
 refine PW.seq ?_
 refine PW.open [] (by kernel_rfl) ?_
 refine PO.tk [0, 1, 2, 3, 4, 5] 6 [1, 3, 4, 5, 6] 0 trivial (fun _ _ h => h) ?_
 refine PO.done (by kernel_rfl) ?_
 show PW _ _ _ _ _
 refine PW.sg ?_
 refine PL.row 5 [1, 3, 4, 5, 6, 7] 1 (s' := { tab := [⟨1, [], D.p 0 0 0 0⟩, ⟨3, [], I (c.parts.length : Int)⟩, ⟨4, [], I (c.lost + 1)⟩, ⟨5, [], I c.listen⟩, ⟨6, [], I c.span⟩, ⟨7, [], I (IntKind.i64.wrap ((IntKind.i64.wrap ((c.parts.length : Int) * (c.lost + 1))) + 2))⟩], mem := [Obj.var 25 (Config.d c)], gl := (errG3 e) }) (p := True) (by kernel_rfl) (by kernel_rfl) (by kernel_rfl) (by kernel_rfl) (by kernel_rfl) trivial ?_
 refine PL.eq (s' := { tab := [⟨1, [], D.p 0 0 0 0⟩, ⟨3, [], I (c.parts.length : Int)⟩, ⟨4, [], I (c.lost + 1)⟩, ⟨5, [], I c.listen⟩, ⟨6, [], I c.span⟩, ⟨7, [], I ((c.parts.length : Int) * (c.lost + 1) + 2)⟩], mem := [Obj.var 25 (Config.d c)], gl := (errG3 e) }) (by rw [hle]) ?_
 refine PL.nl ?_
 refine PW.seq ?_
 refine PW.block ?_
 refine PW.sr [1, 3, 5, 6, 7, 22] 1 trivial ?_
 refine PW.cd (decide (c.ages < (IntKind.i64.wrap ((IntKind.i64.wrap ((IntKind.i64.wrap ((c.parts.length : Int) - 1)) * (c.lost + 1))) + 1)))) (fun hz0 => ?_) (fun hz0 => ?_)
 ·try simp only [boolS, isB_true, isB_false, outsideB_true, outsideB_false] at hz0
  try rw [hw11] at hz0
  try rw [hw14] at hz0
  try rw [hw15] at hz0
  try have hsp := mul_in (a := (c.parts.length : Int)) (b := c.span) (A := 6) (B := 60000) (by omega) (by omega) (by omega) (by omega)
  try have hw14 : IntKind.i64.wrap (c.listen + (IntKind.i64.wrap ((c.parts.length : Int) * c.span))) = c.listen + (c.parts.length : Int) * c.span := by rw [Ev.wrap_i64 (x := (c.parts.length : Int) * c.span) (by omega) (by omega), Ev.wrap_i64 (by omega) (by omega)]
  refine PW.sg ?_
  refine PL.rw 3 [33] 2 trivial ?_
  refine PL.sl [33] 2 ?_
  refine PL.fz 1 (t := 65) [sentD e 7, I 11] ?_
  refine PL.rw 2 [2] 2 trivial ?_
  refine PL.nl ?_
  refine PW.ret ?_
  refine retQ_ret (d := D.i 60 (D.q [sentD e 7, I 11] 0)) (ps := []) (by kernel_rfl) trivial ?_
  have ht : waitsI c = 11 := by
    unfold waitsI
    repeat' split
    all_goals omega
  rw [ht]
  rfl
 ·try simp only [boolS, isB_true, isB_false, outsideB_true, outsideB_false] at hz0
  try rw [hw11] at hz0
  try rw [hw14] at hz0
  try rw [hw15] at hz0
  try have hsp := mul_in (a := (c.parts.length : Int)) (b := c.span) (A := 6) (B := 60000) (by omega) (by omega) (by omega) (by omega)
  try have hw14 : IntKind.i64.wrap (c.listen + (IntKind.i64.wrap ((c.parts.length : Int) * c.span))) = c.listen + (c.parts.length : Int) * c.span := by rw [Ev.wrap_i64 (x := (c.parts.length : Int) * c.span) (by omega) (by omega), Ev.wrap_i64 (by omega) (by omega)]
  refine PW.sg ?_
  refine PL.rw 2 [1, 3, 5, 6, 7, 36, 37] 1 trivial ?_
  refine PL.gc (G := (errG3 e)) (A := []) (fun _ => PC.more (bounds_outside_pc c.listen ((c.parts.length : Int) * (c.lost + 1) + 2) 60000)) ?_
  refine PL.rw 1 [1, 3, 5, 6, 7, 35] 1 trivial ?_
  refine PL.nl ?_
  refine PW.cd (outsideB c.listen ((c.parts.length : Int) * (c.lost + 1) + 2) 60000) (fun hz1 => ?_) (fun hz1 => ?_)
  ·try simp only [boolS, isB_true, isB_false, outsideB_true, outsideB_false] at hz1
   try rw [hw11] at hz1
   try rw [hw14] at hz1
   try rw [hw15] at hz1
   try have hsp := mul_in (a := (c.parts.length : Int)) (b := c.span) (A := 6) (B := 60000) (by omega) (by omega) (by omega) (by omega)
   try have hw14 : IntKind.i64.wrap (c.listen + (IntKind.i64.wrap ((c.parts.length : Int) * c.span))) = c.listen + (c.parts.length : Int) * c.span := by rw [Ev.wrap_i64 (x := (c.parts.length : Int) * c.span) (by omega) (by omega), Ev.wrap_i64 (by omega) (by omega)]
   refine PW.sg ?_
   refine PL.rw 3 [41] 2 trivial ?_
   refine PL.sl [41] 2 ?_
   refine PL.fz 1 (t := 65) [sentD e 7, I 12] ?_
   refine PL.rw 2 [2] 2 trivial ?_
   refine PL.nl ?_
   refine PW.ret ?_
   refine retQ_ret (d := D.i 60 (D.q [sentD e 7, I 12] 0)) (ps := []) (by kernel_rfl) trivial ?_
   have ht : waitsI c = 12 := by
     unfold waitsI
     repeat' split
     all_goals omega
   rw [ht]
   rfl
  ·try simp only [boolS, isB_true, isB_false, outsideB_true, outsideB_false] at hz1
   try rw [hw11] at hz1
   try rw [hw14] at hz1
   try rw [hw15] at hz1
   try have hsp := mul_in (a := (c.parts.length : Int)) (b := c.span) (A := 6) (B := 60000) (by omega) (by omega) (by omega) (by omega)
   try have hw14 : IntKind.i64.wrap (c.listen + (IntKind.i64.wrap ((c.parts.length : Int) * c.span))) = c.listen + (c.parts.length : Int) * c.span := by rw [Ev.wrap_i64 (x := (c.parts.length : Int) * c.span) (by omega) (by omega), Ev.wrap_i64 (by omega) (by omega)]
   refine PW.sg ?_
   refine PL.rw 2 [1, 3, 5, 6, 44, 45] 1 trivial ?_
   refine PL.gc (G := (errG3 e)) (A := []) (fun _ => PC.more (bounds_outside_pc c.span ((c.parts.length : Int) * (c.lost + 1) + 2) 60000)) ?_
   refine PL.rw 1 [1, 3, 5, 6, 43] 1 trivial ?_
   refine PL.nl ?_
   refine PW.cd (outsideB c.span ((c.parts.length : Int) * (c.lost + 1) + 2) 60000) (fun hz2 => ?_) (fun hz2 => ?_)
   ·try simp only [boolS, isB_true, isB_false, outsideB_true, outsideB_false] at hz2
    try rw [hw11] at hz2
    try rw [hw14] at hz2
    try rw [hw15] at hz2
    try have hsp := mul_in (a := (c.parts.length : Int)) (b := c.span) (A := 6) (B := 60000) (by omega) (by omega) (by omega) (by omega)
    try have hw14 : IntKind.i64.wrap (c.listen + (IntKind.i64.wrap ((c.parts.length : Int) * c.span))) = c.listen + (c.parts.length : Int) * c.span := by rw [Ev.wrap_i64 (x := (c.parts.length : Int) * c.span) (by omega) (by omega), Ev.wrap_i64 (by omega) (by omega)]
    refine PW.sg ?_
    refine PL.rw 3 [49] 2 trivial ?_
    refine PL.sl [49] 2 ?_
    refine PL.fz 1 (t := 65) [sentD e 7, I 13] ?_
    refine PL.rw 2 [2] 2 trivial ?_
    refine PL.nl ?_
    refine PW.ret ?_
    refine retQ_ret (d := D.i 60 (D.q [sentD e 7, I 13] 0)) (ps := []) (by kernel_rfl) trivial ?_
    have ht : waitsI c = 13 := by
      unfold waitsI
      repeat' split
      all_goals omega
    rw [ht]
    rfl
   ·try simp only [boolS, isB_true, isB_false, outsideB_true, outsideB_false] at hz2
    try rw [hw11] at hz2
    try rw [hw14] at hz2
    try rw [hw15] at hz2
    try have hsp := mul_in (a := (c.parts.length : Int)) (b := c.span) (A := 6) (B := 60000) (by omega) (by omega) (by omega) (by omega)
    try have hw14 : IntKind.i64.wrap (c.listen + (IntKind.i64.wrap ((c.parts.length : Int) * c.span))) = c.listen + (c.parts.length : Int) * c.span := by rw [Ev.wrap_i64 (x := (c.parts.length : Int) * c.span) (by omega) (by omega), Ev.wrap_i64 (by omega) (by omega)]
    refine PW.sr [1, 3, 51] 1 trivial ?_
    refine PW.cd (decide ((IntKind.i64.wrap (c.listen + (IntKind.i64.wrap ((c.parts.length : Int) * c.span)))) > (60000 : Int))) (fun hz3 => ?_) (fun hz3 => ?_)
    ·try simp only [boolS, isB_true, isB_false, outsideB_true, outsideB_false] at hz3
     try rw [hw11] at hz3
     try rw [hw14] at hz3
     try rw [hw15] at hz3
     try have hsp := mul_in (a := (c.parts.length : Int)) (b := c.span) (A := 6) (B := 60000) (by omega) (by omega) (by omega) (by omega)
     try have hw14 : IntKind.i64.wrap (c.listen + (IntKind.i64.wrap ((c.parts.length : Int) * c.span))) = c.listen + (c.parts.length : Int) * c.span := by rw [Ev.wrap_i64 (x := (c.parts.length : Int) * c.span) (by omega) (by omega), Ev.wrap_i64 (by omega) (by omega)]
     refine PW.sg ?_
     refine PL.rw 3 [60] 2 trivial ?_
     refine PL.sl [60] 2 ?_
     refine PL.fz 1 (t := 65) [sentD e 7, I 14] ?_
     refine PL.rw 2 [2] 2 trivial ?_
     refine PL.nl ?_
     refine PW.ret ?_
     refine retQ_ret (d := D.i 60 (D.q [sentD e 7, I 14] 0)) (ps := []) (by kernel_rfl) trivial ?_
     have ht : waitsI c = 14 := by
       unfold waitsI
       repeat' split
       all_goals omega
     rw [ht]
     rfl
    ·try simp only [boolS, isB_true, isB_false, outsideB_true, outsideB_false] at hz3
     try rw [hw11] at hz3
     try rw [hw14] at hz3
     try rw [hw15] at hz3
     try have hsp := mul_in (a := (c.parts.length : Int)) (b := c.span) (A := 6) (B := 60000) (by omega) (by omega) (by omega) (by omega)
     try have hw14 : IntKind.i64.wrap (c.listen + (IntKind.i64.wrap ((c.parts.length : Int) * c.span))) = c.listen + (c.parts.length : Int) * c.span := by rw [Ev.wrap_i64 (x := (c.parts.length : Int) * c.span) (by omega) (by omega), Ev.wrap_i64 (by omega) (by omega)]
     refine PW.sg ?_
     refine PL.rw 4 [64, 66] 1 trivial ?_
     refine PL.gc (G := (errG3 e)) (A := []) (fun _ => PC.more (bounds_outside_pc c.room (IntKind.i64.wrap ((c.parts.length : Int) + 2)) 64)) ?_
     refine PL.rw 1 [62] 1 trivial ?_
     refine PL.nl ?_
     refine PW.cd (outsideB c.room (IntKind.i64.wrap ((c.parts.length : Int) + 2)) 64) (fun hz4 => ?_) (fun hz4 => ?_)
     ·try simp only [boolS, isB_true, isB_false, outsideB_true, outsideB_false] at hz4
      try rw [hw11] at hz4
      try rw [hw14] at hz4
      try rw [hw15] at hz4
      try have hsp := mul_in (a := (c.parts.length : Int)) (b := c.span) (A := 6) (B := 60000) (by omega) (by omega) (by omega) (by omega)
      try have hw14 : IntKind.i64.wrap (c.listen + (IntKind.i64.wrap ((c.parts.length : Int) * c.span))) = c.listen + (c.parts.length : Int) * c.span := by rw [Ev.wrap_i64 (x := (c.parts.length : Int) * c.span) (by omega) (by omega), Ev.wrap_i64 (by omega) (by omega)]
      refine PW.sg ?_
      refine PL.rw 3 [70] 2 trivial ?_
      refine PL.sl [70] 2 ?_
      refine PL.fz 1 (t := 65) [sentD e 7, I 15] ?_
      refine PL.rw 2 [2] 2 trivial ?_
      refine PL.nl ?_
      refine PW.ret ?_
      refine retQ_ret (d := D.i 60 (D.q [sentD e 7, I 15] 0)) (ps := []) (by kernel_rfl) trivial ?_
      have ht : waitsI c = 15 := by
        unfold waitsI
        repeat' split
        all_goals omega
      rw [ht]
      rfl
     ·try simp only [boolS, isB_true, isB_false, outsideB_true, outsideB_false] at hz4
      try rw [hw11] at hz4
      try rw [hw14] at hz4
      try rw [hw15] at hz4
      try have hsp := mul_in (a := (c.parts.length : Int)) (b := c.span) (A := 6) (B := 60000) (by omega) (by omega) (by omega) (by omega)
      try have hw14 : IntKind.i64.wrap (c.listen + (IntKind.i64.wrap ((c.parts.length : Int) * c.span))) = c.listen + (c.parts.length : Int) * c.span := by rw [Ev.wrap_i64 (x := (c.parts.length : Int) * c.span) (by omega) (by omega), Ev.wrap_i64 (by omega) (by omega)]
      refine PW.skip ?_
      show PW _ _ _ _ _
      refine PW.sr [2] 1 trivial ?_
      refine PW.ret ?_
      refine retQ_ret (d := D.v (.nilIface)) (ps := []) (by kernel_rfl) trivial ?_
      have ht : waitsI c = 0 := by
        unfold waitsI
        repeat' split
        all_goals omega
      rw [ht]
      rfl
end Go.Proofs.YtleflkgdbagmnaaGreatDoor.Pl
