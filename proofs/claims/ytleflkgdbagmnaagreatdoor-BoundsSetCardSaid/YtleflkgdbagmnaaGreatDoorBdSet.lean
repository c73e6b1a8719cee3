/- Chapter 7's law BoundsSet. -/
import Derived.Test.YtleflkgdbagmnaaGreatDoorBdLaw
import Derived.Test.YtleflkgdbagmnaaGreatDoorMdFour
import Derived.Test.YtleflkgdbagmnaaGreatDoorDpDiv
namespace Go.Proofs.YtleflkgdbagmnaaGreatDoor.Pl
open Go.RowKit Go.Proofs.YtleflkgdbagmnaaGreatDoor.Sm Go.Proofs.YtleflkgdbagmnaaGreatDoor.Dp
set_option maxHeartbeats 4000000
set_option maxRecDepth 100000
set_option linter.unusedVariables false
set_option linter.unusedSimpArgs false
/-- a network of which one number is otherwise. -/
def setC (c : Config) (k v : Int) : Config :=
  if k = 0 then { c with cycle := v } else
  if k = 1 then { c with lead := v } else
  if k = 2 then { c with slot := v } else
  if k = 3 then { c with window := v } else
  if k = 4 then { c with drift := v } else
  if k = 5 then { c with rate := v } else
  if k = 6 then { c with ages := v } else
  if k = 7 then { c with lost := v } else
  if k = 8 then { c with listen := v } else
  if k = 9 then { c with span := v } else
  if k = 10 then { c with room := v } else c
theorem setC_parts (c : Config) (k v : Int) : (setC c k v).parts = c.parts ∧ (setC c k v).links = c.links := by
  simp only [setC, apply_ite Config.parts, apply_ite Config.links, ite_self, and_self]
theorem drumlinelaw7_set_pc (c : Config) (w v : Int) : PC Tryz.prog [] 26 [D.r (Config.d c), D.v (.int .u8 w), I v] (· = D.r (Config.d (setC c (w.tmod 11) v))) := by
 refine PC.of (N := 54) Tryz.func26 rfl rfl (Nat.le_of_ble_eq_true rfl) ?_
 refine PW.sr [1, 2, 3, 6] 2 trivial ?_
 refine PW.join (α := Config) (fun x => { tab := [⟨3, [], D.p 0 0 0 0⟩, ⟨6, [], D.p 1 0 0 0⟩], mem := [Obj.var 25 (Config.d x), Obj.var 25 [D.v (.slice none 0 0), D.v (.slice none 0 0), I 0, I 0, I 0, I 0, I 0, I 0, I 0, I 0, I 0, I 0, I 0]] }) (fun x => x = setC c (w.tmod 11) v) [3, 6] 2 ?_ ?_
 ·skip
  rintro x hj
  show PW _ _ _ _ _
  refine PW.sr [6] 2 trivial ?_
  refine PW.ret ?_
  refine retQ_ret (d := D.r (Config.d x)) (ps := []) (by kernel_rfl) trivial ?_
  rw [← hj]
 ·skip
  refine PW.sr [2, 3, 6, 8] 2 trivial ?_
  refine PW.block ?_
  refine PW.sr [2, 3, 6, 8, 9] 2 trivial ?_
  refine PW.cd ((w.tmod 11) == (0 : Int)) (fun hz0 => ?_) (fun hz0 => ?_)
  ·try simp only [boolS, isB_true, isB_false] at hz0
   refine PW.rr [3, 6] 2 trivial ?_
   refine JoinR.of (s1 := { tab := [⟨3, [], D.p 0 0 0 0⟩, ⟨6, [], D.p 1 0 0 0⟩], mem := [Obj.var 25 [sl' 2 Part.d c.parts, sl' 6 Link.d c.links, I v, I c.lead, I c.slot, I c.window, I c.drift, I c.rate, I c.ages, I c.lost, I c.listen, I c.span, I c.room], Obj.var 25 [D.v (.slice none 0 0), D.v (.slice none 0 0), I 0, I 0, I 0, I 0, I 0, I 0, I 0, I 0, I 0, I 0, I 0]] }) ((⟨c.parts, c.links, v, c.lead, c.slot, c.window, c.drift, c.rate, c.ages, c.lost, c.listen, c.span, c.room⟩ : Config)) (by kernel_rfl) (by kernel_rfl) ?_ ?_
   ·exact Rem.refl _
   ·simp_all [setC]
  ·try simp only [boolS, isB_true, isB_false] at hz0
   refine PW.sr [2, 3, 6, 8, 13] 2 trivial ?_
   refine PW.cd ((w.tmod 11) == (1 : Int)) (fun hz1 => ?_) (fun hz1 => ?_)
   ·try simp only [boolS, isB_true, isB_false] at hz1
    refine PW.rr [3, 6] 2 trivial ?_
    refine JoinR.of (s1 := { tab := [⟨3, [], D.p 0 0 0 0⟩, ⟨6, [], D.p 1 0 0 0⟩], mem := [Obj.var 25 [sl' 2 Part.d c.parts, sl' 6 Link.d c.links, I c.cycle, I v, I c.slot, I c.window, I c.drift, I c.rate, I c.ages, I c.lost, I c.listen, I c.span, I c.room], Obj.var 25 [D.v (.slice none 0 0), D.v (.slice none 0 0), I 0, I 0, I 0, I 0, I 0, I 0, I 0, I 0, I 0, I 0, I 0]] }) ((⟨c.parts, c.links, c.cycle, v, c.slot, c.window, c.drift, c.rate, c.ages, c.lost, c.listen, c.span, c.room⟩ : Config)) (by kernel_rfl) (by kernel_rfl) ?_ ?_
    ·exact Rem.refl _
    ·simp_all [setC]
   ·try simp only [boolS, isB_true, isB_false] at hz1
    refine PW.sr [2, 3, 6, 8, 17] 2 trivial ?_
    refine PW.cd ((w.tmod 11) == (2 : Int)) (fun hz2 => ?_) (fun hz2 => ?_)
    ·try simp only [boolS, isB_true, isB_false] at hz2
     refine PW.rr [3, 6] 2 trivial ?_
     refine JoinR.of (s1 := { tab := [⟨3, [], D.p 0 0 0 0⟩, ⟨6, [], D.p 1 0 0 0⟩], mem := [Obj.var 25 [sl' 2 Part.d c.parts, sl' 6 Link.d c.links, I c.cycle, I c.lead, I v, I c.window, I c.drift, I c.rate, I c.ages, I c.lost, I c.listen, I c.span, I c.room], Obj.var 25 [D.v (.slice none 0 0), D.v (.slice none 0 0), I 0, I 0, I 0, I 0, I 0, I 0, I 0, I 0, I 0, I 0, I 0]] }) ((⟨c.parts, c.links, c.cycle, c.lead, v, c.window, c.drift, c.rate, c.ages, c.lost, c.listen, c.span, c.room⟩ : Config)) (by kernel_rfl) (by kernel_rfl) ?_ ?_
     ·exact Rem.refl _
     ·simp_all [setC]
    ·try simp only [boolS, isB_true, isB_false] at hz2
     refine PW.sr [2, 3, 6, 8, 21] 2 trivial ?_
     refine PW.cd ((w.tmod 11) == (3 : Int)) (fun hz3 => ?_) (fun hz3 => ?_)
     ·try simp only [boolS, isB_true, isB_false] at hz3
      refine PW.rr [3, 6] 2 trivial ?_
      refine JoinR.of (s1 := { tab := [⟨3, [], D.p 0 0 0 0⟩, ⟨6, [], D.p 1 0 0 0⟩], mem := [Obj.var 25 [sl' 2 Part.d c.parts, sl' 6 Link.d c.links, I c.cycle, I c.lead, I c.slot, I v, I c.drift, I c.rate, I c.ages, I c.lost, I c.listen, I c.span, I c.room], Obj.var 25 [D.v (.slice none 0 0), D.v (.slice none 0 0), I 0, I 0, I 0, I 0, I 0, I 0, I 0, I 0, I 0, I 0, I 0]] }) ((⟨c.parts, c.links, c.cycle, c.lead, c.slot, v, c.drift, c.rate, c.ages, c.lost, c.listen, c.span, c.room⟩ : Config)) (by kernel_rfl) (by kernel_rfl) ?_ ?_
      ·exact Rem.refl _
      ·simp_all [setC]
     ·try simp only [boolS, isB_true, isB_false] at hz3
      refine PW.sr [2, 3, 6, 8, 25] 2 trivial ?_
      refine PW.cd ((w.tmod 11) == (4 : Int)) (fun hz4 => ?_) (fun hz4 => ?_)
      ·try simp only [boolS, isB_true, isB_false] at hz4
       refine PW.rr [3, 6] 2 trivial ?_
       refine JoinR.of (s1 := { tab := [⟨3, [], D.p 0 0 0 0⟩, ⟨6, [], D.p 1 0 0 0⟩], mem := [Obj.var 25 [sl' 2 Part.d c.parts, sl' 6 Link.d c.links, I c.cycle, I c.lead, I c.slot, I c.window, I v, I c.rate, I c.ages, I c.lost, I c.listen, I c.span, I c.room], Obj.var 25 [D.v (.slice none 0 0), D.v (.slice none 0 0), I 0, I 0, I 0, I 0, I 0, I 0, I 0, I 0, I 0, I 0, I 0]] }) ((⟨c.parts, c.links, c.cycle, c.lead, c.slot, c.window, v, c.rate, c.ages, c.lost, c.listen, c.span, c.room⟩ : Config)) (by kernel_rfl) (by kernel_rfl) ?_ ?_
       ·exact Rem.refl _
       ·simp_all [setC]
      ·try simp only [boolS, isB_true, isB_false] at hz4
       refine PW.sr [2, 3, 6, 8, 29] 2 trivial ?_
       refine PW.cd ((w.tmod 11) == (5 : Int)) (fun hz5 => ?_) (fun hz5 => ?_)
       ·try simp only [boolS, isB_true, isB_false] at hz5
        refine PW.rr [3, 6] 2 trivial ?_
        refine JoinR.of (s1 := { tab := [⟨3, [], D.p 0 0 0 0⟩, ⟨6, [], D.p 1 0 0 0⟩], mem := [Obj.var 25 [sl' 2 Part.d c.parts, sl' 6 Link.d c.links, I c.cycle, I c.lead, I c.slot, I c.window, I c.drift, I v, I c.ages, I c.lost, I c.listen, I c.span, I c.room], Obj.var 25 [D.v (.slice none 0 0), D.v (.slice none 0 0), I 0, I 0, I 0, I 0, I 0, I 0, I 0, I 0, I 0, I 0, I 0]] }) ((⟨c.parts, c.links, c.cycle, c.lead, c.slot, c.window, c.drift, v, c.ages, c.lost, c.listen, c.span, c.room⟩ : Config)) (by kernel_rfl) (by kernel_rfl) ?_ ?_
        ·exact Rem.refl _
        ·simp_all [setC]
       ·try simp only [boolS, isB_true, isB_false] at hz5
        refine PW.sr [2, 3, 6, 8, 33] 2 trivial ?_
        refine PW.cd ((w.tmod 11) == (6 : Int)) (fun hz6 => ?_) (fun hz6 => ?_)
        ·try simp only [boolS, isB_true, isB_false] at hz6
         refine PW.rr [3, 6] 2 trivial ?_
         refine JoinR.of (s1 := { tab := [⟨3, [], D.p 0 0 0 0⟩, ⟨6, [], D.p 1 0 0 0⟩], mem := [Obj.var 25 [sl' 2 Part.d c.parts, sl' 6 Link.d c.links, I c.cycle, I c.lead, I c.slot, I c.window, I c.drift, I c.rate, I v, I c.lost, I c.listen, I c.span, I c.room], Obj.var 25 [D.v (.slice none 0 0), D.v (.slice none 0 0), I 0, I 0, I 0, I 0, I 0, I 0, I 0, I 0, I 0, I 0, I 0]] }) ((⟨c.parts, c.links, c.cycle, c.lead, c.slot, c.window, c.drift, c.rate, v, c.lost, c.listen, c.span, c.room⟩ : Config)) (by kernel_rfl) (by kernel_rfl) ?_ ?_
         ·exact Rem.refl _
         ·simp_all [setC]
        ·try simp only [boolS, isB_true, isB_false] at hz6
         refine PW.sr [2, 3, 6, 8, 37] 2 trivial ?_
         refine PW.cd ((w.tmod 11) == (7 : Int)) (fun hz7 => ?_) (fun hz7 => ?_)
         ·try simp only [boolS, isB_true, isB_false] at hz7
          refine PW.rr [3, 6] 2 trivial ?_
          refine JoinR.of (s1 := { tab := [⟨3, [], D.p 0 0 0 0⟩, ⟨6, [], D.p 1 0 0 0⟩], mem := [Obj.var 25 [sl' 2 Part.d c.parts, sl' 6 Link.d c.links, I c.cycle, I c.lead, I c.slot, I c.window, I c.drift, I c.rate, I c.ages, I v, I c.listen, I c.span, I c.room], Obj.var 25 [D.v (.slice none 0 0), D.v (.slice none 0 0), I 0, I 0, I 0, I 0, I 0, I 0, I 0, I 0, I 0, I 0, I 0]] }) ((⟨c.parts, c.links, c.cycle, c.lead, c.slot, c.window, c.drift, c.rate, c.ages, v, c.listen, c.span, c.room⟩ : Config)) (by kernel_rfl) (by kernel_rfl) ?_ ?_
          ·exact Rem.refl _
          ·simp_all [setC]
         ·try simp only [boolS, isB_true, isB_false] at hz7
          refine PW.sr [2, 3, 6, 8, 41] 2 trivial ?_
          refine PW.cd ((w.tmod 11) == (8 : Int)) (fun hz8 => ?_) (fun hz8 => ?_)
          ·try simp only [boolS, isB_true, isB_false] at hz8
           refine PW.rr [3, 6] 2 trivial ?_
           refine JoinR.of (s1 := { tab := [⟨3, [], D.p 0 0 0 0⟩, ⟨6, [], D.p 1 0 0 0⟩], mem := [Obj.var 25 [sl' 2 Part.d c.parts, sl' 6 Link.d c.links, I c.cycle, I c.lead, I c.slot, I c.window, I c.drift, I c.rate, I c.ages, I c.lost, I v, I c.span, I c.room], Obj.var 25 [D.v (.slice none 0 0), D.v (.slice none 0 0), I 0, I 0, I 0, I 0, I 0, I 0, I 0, I 0, I 0, I 0, I 0]] }) ((⟨c.parts, c.links, c.cycle, c.lead, c.slot, c.window, c.drift, c.rate, c.ages, c.lost, v, c.span, c.room⟩ : Config)) (by kernel_rfl) (by kernel_rfl) ?_ ?_
           ·exact Rem.refl _
           ·simp_all [setC]
          ·try simp only [boolS, isB_true, isB_false] at hz8
           refine PW.sr [2, 3, 6, 8, 45] 2 trivial ?_
           refine PW.cd ((w.tmod 11) == (9 : Int)) (fun hz9 => ?_) (fun hz9 => ?_)
           ·try simp only [boolS, isB_true, isB_false] at hz9
            refine PW.rr [3, 6] 2 trivial ?_
            refine JoinR.of (s1 := { tab := [⟨3, [], D.p 0 0 0 0⟩, ⟨6, [], D.p 1 0 0 0⟩], mem := [Obj.var 25 [sl' 2 Part.d c.parts, sl' 6 Link.d c.links, I c.cycle, I c.lead, I c.slot, I c.window, I c.drift, I c.rate, I c.ages, I c.lost, I c.listen, I v, I c.room], Obj.var 25 [D.v (.slice none 0 0), D.v (.slice none 0 0), I 0, I 0, I 0, I 0, I 0, I 0, I 0, I 0, I 0, I 0, I 0]] }) ((⟨c.parts, c.links, c.cycle, c.lead, c.slot, c.window, c.drift, c.rate, c.ages, c.lost, c.listen, v, c.room⟩ : Config)) (by kernel_rfl) (by kernel_rfl) ?_ ?_
            ·exact Rem.refl _
            ·simp_all [setC]
           ·try simp only [boolS, isB_true, isB_false] at hz9
            refine PW.sr [2, 3, 6, 49] 2 trivial ?_
            refine PW.cd ((w.tmod 11) == (10 : Int)) (fun hz10 => ?_) (fun hz10 => ?_)
            ·try simp only [boolS, isB_true, isB_false] at hz10
             refine PW.rr [3, 6] 2 trivial ?_
             refine JoinR.of (s1 := { tab := [⟨3, [], D.p 0 0 0 0⟩, ⟨6, [], D.p 1 0 0 0⟩], mem := [Obj.var 25 [sl' 2 Part.d c.parts, sl' 6 Link.d c.links, I c.cycle, I c.lead, I c.slot, I c.window, I c.drift, I c.rate, I c.ages, I c.lost, I c.listen, I c.span, I v], Obj.var 25 [D.v (.slice none 0 0), D.v (.slice none 0 0), I 0, I 0, I 0, I 0, I 0, I 0, I 0, I 0, I 0, I 0, I 0]] }) ((⟨c.parts, c.links, c.cycle, c.lead, c.slot, c.window, c.drift, c.rate, c.ages, c.lost, c.listen, c.span, v⟩ : Config)) (by kernel_rfl) (by kernel_rfl) ?_ ?_
             ·exact Rem.refl _
             ·simp_all [setC]
            ·try simp only [boolS, isB_true, isB_false] at hz10
             refine PW.skip ?_
             refine JoinR.of (s1 := { tab := [⟨3, [], D.p 0 0 0 0⟩, ⟨6, [], D.p 1 0 0 0⟩], mem := [Obj.var 25 (Config.d c), Obj.var 25 [D.v (.slice none 0 0), D.v (.slice none 0 0), I 0, I 0, I 0, I 0, I 0, I 0, I 0, I 0, I 0, I 0, I 0]] }) ((⟨c.parts, c.links, c.cycle, c.lead, c.slot, c.window, c.drift, c.rate, c.ages, c.lost, c.listen, c.span, c.room⟩ : Config)) (by kernel_rfl) (by kernel_rfl) ?_ ?_
             ·exact Rem.refl _
             ·simp_all [setC]
theorem drumlinelaw7_BoundsSet_pc (e : Nat → Addr) (hA : Apart e) (n w0 w1 v0 v1 part : Int) (c c1 c2 : Config) (hM : PC Tryz.prog (errG3 e) 27 [I n] (· = D.r (Config.d c))) (hc1 : setC c (w0.tmod 11) v0 = c1) (hc2 : setC c1 (w1.tmod 11) v1 = c2) (hp0 : c2.parts.length < 1000000) (hl0 : c2.links.length < 1000000) : PC Tryz.prog (errG3 e) 5 [I n, D.r [D.v (.int .u8 w0), D.v (.int .u8 w1)], D.r [I v0, I v1], I part] (· = D.v (.bool true)) := by
 refine PC.of (N := 70) Tryz.func5 rfl rfl (Nat.le_of_ble_eq_true rfl) ?_
 refine PW.sr [0, 3, 5, 6] 2 trivial ?_
 refine PW.seq ?_
 refine PW.sg ?_
 refine PL.gc (A := []) (fun _ => drumlinelaw7_alive_pc e hA) ?_
 refine PL.rw 1 [0, 3, 5, 6, 15] 2 trivial ?_
 refine PL.nl ?_
 refine PW.cd false (fun hz0 => by cases hz0) (fun hz0 => ?_)
 refine PW.skip ?_
 show PW _ _ _ _ _
 refine PW.seq ?_
 refine PW.open [2] (by kernel_rfl) ?_
 refine PO.tk [0, 2, 3, 4, 5, 7, 8, 9, 10] 14 [3, 16, 19, 21, 24, 26] 5 (p := (0 ≤ (0 : Int) ∧ (0 : Int) < ((2 : Nat) : Int)) ∧ (0 ≤ (0 : Int) ∧ (0 : Int) < ((2 : Nat) : Int)) ∧ (0 ≤ (1 : Int) ∧ (1 : Int) < ((2 : Nat) : Int)) ∧ (0 ≤ (1 : Int) ∧ (1 : Int) < ((2 : Nat) : Int))) (by omega) (fun _ _ h => h) ?_
 refine PO.next (n := 4) [1, 12] (by kernel_rfl) (by simp) ?_
 intro i hi
 simp only [List.mem_cons, List.not_mem_nil, or_false] at hi
 rcases hi with rfl | rfl
 ·skip
  refine PO1.gc _ (A := []) (fun _ => hM) ?_ rfl
  refine PO.next (n := 3) [6, 12] (by kernel_rfl) (by simp) ?_
  intro i hi
  simp only [List.mem_cons, List.not_mem_nil, or_false] at hi
  rcases hi with rfl | rfl
  ·skip
   refine PO1.gc _ (G := (errG3 e)) (d := D.r (Config.d c1)) (A := []) (fun _ => PC.more ((drumlinelaw7_set_pc c w0 v0).eq (by rw [hc1]))) ?_ rfl
   refine PO.next (n := 2) [11, 12] (by kernel_rfl) (by simp) ?_
   intro i hi
   simp only [List.mem_cons, List.not_mem_nil, or_false] at hi
   rcases hi with rfl | rfl
   ·skip
    refine PO1.gc _ (G := (errG3 e)) (d := D.r (Config.d c2)) (A := []) (fun _ => PC.more ((drumlinelaw7_set_pc c1 w1 v1).eq (by rw [hc2]))) ?_ rfl
    refine PO.one (n := 1) 12 (by kernel_rfl) ?_
    refine PO1.mm rfl [3, 9, 27] 3 trivial ?_
    refine PO.one (n := 0) 13 (by kernel_rfl) ?_
    refine PO1.mm rfl [3, 9] 3 trivial ?_
    refine PO.done (by kernel_rfl) ?_
    show PW _ _ _ _ _
    refine PW.sg ?_
    refine PL.rw 1 [3, 9, 29] 3 trivial ?_
    refine PL.gc (A := []) (fun _ => bounds_Fits_pc e hA c2 hp0 hl0) ?_
    refine PL.rw 5 [3, 9, 10, 11] 3 trivial ?_
    refine PL.nl ?_
    refine PW.sg ?_
    refine PL.rw 1 [3, 9, 10, 11, 34] 3 trivial ?_
    refine PL.gc (G := (errG3 e)) (A := []) (fun _ => PC.more (drumlineref5_Fits_pc c2 hp0 hl0)) ?_
    refine PL.rw 5 [3, 9, 10, 11, 12, 13] 3 trivial ?_
    refine PL.nl ?_
    refine PW.seq ?_
    refine PW.open [] (by kernel_rfl) ?_
    refine PO.tk [0, 2] 33 [3, 9, 11, 13, 38, 40] 31 trivial (fun _ _ h => h) ?_
    refine PO.one (n := 30) 1 (by kernel_rfl) ?_
    refine PO1.gc _ (G := (errG3 e)) (A := []) (fun _ => PC.more (drumlinelaw7_num_pc ((fitsP c2).1))) ?_ rfl
    refine PO.tk [3, 4, 5, 6, 7, 8, 9, 10, 12] 30 [3, 9, 47, 48, 50] 21 trivial (fun _ _ h => h) ?_
    refine PO.one (n := 20) 11 (by kernel_rfl) ?_
    refine PO1.gc _ (A := [(47, true)]) (fun _ => bounds_Jump_pc e hA c2 hp0 hl0) ?_ rfl
    refine PO.one (n := 19) 13 (by kernel_rfl) ?_
    refine PO1.gc _ (G := (errG3 e)) (A := [(47, true)]) (fun _ => PC.more (drumlineref5_Jump_pc c2 hp0 hl0)) ?_ rfl
    refine PO.tk [14, 15, 16, 17, 19] 19 [3, 9, 54, 55, 57] 14 trivial (fun _ _ h => h) ?_
    refine PO.one (n := 13) 18 (by kernel_rfl) ?_
    refine PO1.gc _ (A := [(54, true)]) (fun _ => bounds_Tick_pc e hA c2 hp0 hl0) ?_ rfl
    refine PO.one (n := 12) 20 (by kernel_rfl) ?_
    refine PO1.gc _ (G := (errG3 e)) (A := [(54, true)]) (fun _ => PC.more (drumlineref5_Tick_pc c2 hp0 hl0)) ?_ rfl
    refine PO.tk [21, 22, 23, 24, 25, 27, 28] 12 [61, 62, 63, 65, 66] 5 trivial (fun _ _ h => h) ?_
    refine PO.one (n := 4) 26 (by kernel_rfl) ?_
    refine PO1.gc _ (A := [(61, true)]) (fun _ => bounds_First_pc e hA c2 hp0 hl0 part) ?_ rfl
    refine PO.one (n := 3) 29 (by kernel_rfl) ?_
    refine PO1.gc _ (G := (errG3 e)) (A := [(61, true)]) (fun _ => PC.more (drumlineref5_First_pc c2 part hp0 hl0)) ?_ rfl
    refine PO.tk [30, 31, 32] 3 [8] 0 trivial (fun _ _ h => h) ?_
    refine PO.done (by kernel_rfl) ?_
    show PW _ _ _ _ _
    refine PW.ret ?_
    refine retQ_ret (d := D.v (.bool (((((((fitsP c2).1) == ((fitsP c2).1)) && (((fitsP c2).2) == ((fitsP c2).2))) && ((jumpR c2) == (jumpR c2))) && ((tickR c2) == (tickR c2))) && ((firstR c2 part) == (firstR c2 part))))) (ps := []) (by kernel_rfl) trivial ?_
    simp
   ·skip
    refine PO1.mm rfl [3, 9, 22, 24, 26] 3 trivial ?_
    refine PO.one (n := 1) 11 (by kernel_rfl) ?_
    refine PO1.gc _ (G := (errG3 e)) (d := D.r (Config.d c2)) (A := []) (fun _ => PC.more ((drumlinelaw7_set_pc c1 w1 v1).eq (by rw [hc2]))) ?_ rfl
    refine PO.one (n := 0) 13 (by kernel_rfl) ?_
    refine PO1.mm rfl [3, 9] 3 trivial ?_
    refine PO.done (by kernel_rfl) ?_
    show PW _ _ _ _ _
    refine PW.sg ?_
    refine PL.rw 1 [3, 9, 29] 3 trivial ?_
    refine PL.gc (A := []) (fun _ => bounds_Fits_pc e hA c2 hp0 hl0) ?_
    refine PL.rw 5 [3, 9, 10, 11] 3 trivial ?_
    refine PL.nl ?_
    refine PW.sg ?_
    refine PL.rw 1 [3, 9, 10, 11, 34] 3 trivial ?_
    refine PL.gc (G := (errG3 e)) (A := []) (fun _ => PC.more (drumlineref5_Fits_pc c2 hp0 hl0)) ?_
    refine PL.rw 5 [3, 9, 10, 11, 12, 13] 3 trivial ?_
    refine PL.nl ?_
    refine PW.seq ?_
    refine PW.open [] (by kernel_rfl) ?_
    refine PO.tk [0, 2] 33 [3, 9, 11, 13, 38, 40] 31 trivial (fun _ _ h => h) ?_
    refine PO.one (n := 30) 1 (by kernel_rfl) ?_
    refine PO1.gc _ (G := (errG3 e)) (A := []) (fun _ => PC.more (drumlinelaw7_num_pc ((fitsP c2).1))) ?_ rfl
    refine PO.tk [3, 4, 5, 6, 7, 8, 9, 10, 12] 30 [3, 9, 47, 48, 50] 21 trivial (fun _ _ h => h) ?_
    refine PO.one (n := 20) 11 (by kernel_rfl) ?_
    refine PO1.gc _ (A := [(47, true)]) (fun _ => bounds_Jump_pc e hA c2 hp0 hl0) ?_ rfl
    refine PO.one (n := 19) 13 (by kernel_rfl) ?_
    refine PO1.gc _ (G := (errG3 e)) (A := [(47, true)]) (fun _ => PC.more (drumlineref5_Jump_pc c2 hp0 hl0)) ?_ rfl
    refine PO.tk [14, 15, 16, 17, 19] 19 [3, 9, 54, 55, 57] 14 trivial (fun _ _ h => h) ?_
    refine PO.one (n := 13) 18 (by kernel_rfl) ?_
    refine PO1.gc _ (A := [(54, true)]) (fun _ => bounds_Tick_pc e hA c2 hp0 hl0) ?_ rfl
    refine PO.one (n := 12) 20 (by kernel_rfl) ?_
    refine PO1.gc _ (G := (errG3 e)) (A := [(54, true)]) (fun _ => PC.more (drumlineref5_Tick_pc c2 hp0 hl0)) ?_ rfl
    refine PO.tk [21, 22, 23, 24, 25, 27, 28] 12 [61, 62, 63, 65, 66] 5 trivial (fun _ _ h => h) ?_
    refine PO.one (n := 4) 26 (by kernel_rfl) ?_
    refine PO1.gc _ (A := [(61, true)]) (fun _ => bounds_First_pc e hA c2 hp0 hl0 part) ?_ rfl
    refine PO.one (n := 3) 29 (by kernel_rfl) ?_
    refine PO1.gc _ (G := (errG3 e)) (A := [(61, true)]) (fun _ => PC.more (drumlineref5_First_pc c2 part hp0 hl0)) ?_ rfl
    refine PO.tk [30, 31, 32] 3 [8] 0 trivial (fun _ _ h => h) ?_
    refine PO.done (by kernel_rfl) ?_
    show PW _ _ _ _ _
    refine PW.ret ?_
    refine retQ_ret (d := D.v (.bool (((((((fitsP c2).1) == ((fitsP c2).1)) && (((fitsP c2).2) == ((fitsP c2).2))) && ((jumpR c2) == (jumpR c2))) && ((tickR c2) == (tickR c2))) && ((firstR c2 part) == (firstR c2 part))))) (ps := []) (by kernel_rfl) trivial ?_
    simp
  ·skip
   refine PO1.mm rfl [3, 9, 17, 19, 21, 24, 26] 3 trivial ?_
   refine PO.one (n := 2) 6 (by kernel_rfl) ?_
   refine PO1.gc _ (G := (errG3 e)) (d := D.r (Config.d c1)) (A := []) (fun _ => PC.more ((drumlinelaw7_set_pc c w0 v0).eq (by rw [hc1]))) ?_ rfl
   refine PO.one (n := 1) 11 (by kernel_rfl) ?_
   refine PO1.gc _ (G := (errG3 e)) (d := D.r (Config.d c2)) (A := []) (fun _ => PC.more ((drumlinelaw7_set_pc c1 w1 v1).eq (by rw [hc2]))) ?_ rfl
   refine PO.one (n := 0) 13 (by kernel_rfl) ?_
   refine PO1.mm rfl [3, 9] 3 trivial ?_
   refine PO.done (by kernel_rfl) ?_
   show PW _ _ _ _ _
   refine PW.sg ?_
   refine PL.rw 1 [3, 9, 29] 3 trivial ?_
   refine PL.gc (A := []) (fun _ => bounds_Fits_pc e hA c2 hp0 hl0) ?_
   refine PL.rw 5 [3, 9, 10, 11] 3 trivial ?_
   refine PL.nl ?_
   refine PW.sg ?_
   refine PL.rw 1 [3, 9, 10, 11, 34] 3 trivial ?_
   refine PL.gc (G := (errG3 e)) (A := []) (fun _ => PC.more (drumlineref5_Fits_pc c2 hp0 hl0)) ?_
   refine PL.rw 5 [3, 9, 10, 11, 12, 13] 3 trivial ?_
   refine PL.nl ?_
   refine PW.seq ?_
   refine PW.open [] (by kernel_rfl) ?_
   refine PO.tk [0, 2] 33 [3, 9, 11, 13, 38, 40] 31 trivial (fun _ _ h => h) ?_
   refine PO.one (n := 30) 1 (by kernel_rfl) ?_
   refine PO1.gc _ (G := (errG3 e)) (A := []) (fun _ => PC.more (drumlinelaw7_num_pc ((fitsP c2).1))) ?_ rfl
   refine PO.tk [3, 4, 5, 6, 7, 8, 9, 10, 12] 30 [3, 9, 47, 48, 50] 21 trivial (fun _ _ h => h) ?_
   refine PO.one (n := 20) 11 (by kernel_rfl) ?_
   refine PO1.gc _ (A := [(47, true)]) (fun _ => bounds_Jump_pc e hA c2 hp0 hl0) ?_ rfl
   refine PO.one (n := 19) 13 (by kernel_rfl) ?_
   refine PO1.gc _ (G := (errG3 e)) (A := [(47, true)]) (fun _ => PC.more (drumlineref5_Jump_pc c2 hp0 hl0)) ?_ rfl
   refine PO.tk [14, 15, 16, 17, 19] 19 [3, 9, 54, 55, 57] 14 trivial (fun _ _ h => h) ?_
   refine PO.one (n := 13) 18 (by kernel_rfl) ?_
   refine PO1.gc _ (A := [(54, true)]) (fun _ => bounds_Tick_pc e hA c2 hp0 hl0) ?_ rfl
   refine PO.one (n := 12) 20 (by kernel_rfl) ?_
   refine PO1.gc _ (G := (errG3 e)) (A := [(54, true)]) (fun _ => PC.more (drumlineref5_Tick_pc c2 hp0 hl0)) ?_ rfl
   refine PO.tk [21, 22, 23, 24, 25, 27, 28] 12 [61, 62, 63, 65, 66] 5 trivial (fun _ _ h => h) ?_
   refine PO.one (n := 4) 26 (by kernel_rfl) ?_
   refine PO1.gc _ (A := [(61, true)]) (fun _ => bounds_First_pc e hA c2 hp0 hl0 part) ?_ rfl
   refine PO.one (n := 3) 29 (by kernel_rfl) ?_
   refine PO1.gc _ (G := (errG3 e)) (A := [(61, true)]) (fun _ => PC.more (drumlineref5_First_pc c2 part hp0 hl0)) ?_ rfl
   refine PO.tk [30, 31, 32] 3 [8] 0 trivial (fun _ _ h => h) ?_
   refine PO.done (by kernel_rfl) ?_
   show PW _ _ _ _ _
   refine PW.ret ?_
   refine retQ_ret (d := D.v (.bool (((((((fitsP c2).1) == ((fitsP c2).1)) && (((fitsP c2).2) == ((fitsP c2).2))) && ((jumpR c2) == (jumpR c2))) && ((tickR c2) == (tickR c2))) && ((firstR c2 part) == (firstR c2 part))))) (ps := []) (by kernel_rfl) trivial ?_
   simp
 ·skip
  refine PO1.mm rfl [3, 9, 16, 19, 21, 24, 26] 3 trivial ?_
  refine PO.one (n := 3) 1 (by kernel_rfl) ?_
  refine PO1.gc _ (A := []) (fun _ => hM) ?_ rfl
  refine PO.one (n := 2) 6 (by kernel_rfl) ?_
  refine PO1.gc _ (G := (errG3 e)) (d := D.r (Config.d c1)) (A := []) (fun _ => PC.more ((drumlinelaw7_set_pc c w0 v0).eq (by rw [hc1]))) ?_ rfl
  refine PO.one (n := 1) 11 (by kernel_rfl) ?_
  refine PO1.gc _ (G := (errG3 e)) (d := D.r (Config.d c2)) (A := []) (fun _ => PC.more ((drumlinelaw7_set_pc c1 w1 v1).eq (by rw [hc2]))) ?_ rfl
  refine PO.one (n := 0) 13 (by kernel_rfl) ?_
  refine PO1.mm rfl [3, 9] 3 trivial ?_
  refine PO.done (by kernel_rfl) ?_
  show PW _ _ _ _ _
  refine PW.sg ?_
  refine PL.rw 1 [3, 9, 29] 3 trivial ?_
  refine PL.gc (A := []) (fun _ => bounds_Fits_pc e hA c2 hp0 hl0) ?_
  refine PL.rw 5 [3, 9, 10, 11] 3 trivial ?_
  refine PL.nl ?_
  refine PW.sg ?_
  refine PL.rw 1 [3, 9, 10, 11, 34] 3 trivial ?_
  refine PL.gc (G := (errG3 e)) (A := []) (fun _ => PC.more (drumlineref5_Fits_pc c2 hp0 hl0)) ?_
  refine PL.rw 5 [3, 9, 10, 11, 12, 13] 3 trivial ?_
  refine PL.nl ?_
  refine PW.seq ?_
  refine PW.open [] (by kernel_rfl) ?_
  refine PO.tk [0, 2] 33 [3, 9, 11, 13, 38, 40] 31 trivial (fun _ _ h => h) ?_
  refine PO.one (n := 30) 1 (by kernel_rfl) ?_
  refine PO1.gc _ (G := (errG3 e)) (A := []) (fun _ => PC.more (drumlinelaw7_num_pc ((fitsP c2).1))) ?_ rfl
  refine PO.tk [3, 4, 5, 6, 7, 8, 9, 10, 12] 30 [3, 9, 47, 48, 50] 21 trivial (fun _ _ h => h) ?_
  refine PO.one (n := 20) 11 (by kernel_rfl) ?_
  refine PO1.gc _ (A := [(47, true)]) (fun _ => bounds_Jump_pc e hA c2 hp0 hl0) ?_ rfl
  refine PO.one (n := 19) 13 (by kernel_rfl) ?_
  refine PO1.gc _ (G := (errG3 e)) (A := [(47, true)]) (fun _ => PC.more (drumlineref5_Jump_pc c2 hp0 hl0)) ?_ rfl
  refine PO.tk [14, 15, 16, 17, 19] 19 [3, 9, 54, 55, 57] 14 trivial (fun _ _ h => h) ?_
  refine PO.one (n := 13) 18 (by kernel_rfl) ?_
  refine PO1.gc _ (A := [(54, true)]) (fun _ => bounds_Tick_pc e hA c2 hp0 hl0) ?_ rfl
  refine PO.one (n := 12) 20 (by kernel_rfl) ?_
  refine PO1.gc _ (G := (errG3 e)) (A := [(54, true)]) (fun _ => PC.more (drumlineref5_Tick_pc c2 hp0 hl0)) ?_ rfl
  refine PO.tk [21, 22, 23, 24, 25, 27, 28] 12 [61, 62, 63, 65, 66] 5 trivial (fun _ _ h => h) ?_
  refine PO.one (n := 4) 26 (by kernel_rfl) ?_
  refine PO1.gc _ (A := [(61, true)]) (fun _ => bounds_First_pc e hA c2 hp0 hl0 part) ?_ rfl
  refine PO.one (n := 3) 29 (by kernel_rfl) ?_
  refine PO1.gc _ (G := (errG3 e)) (A := [(61, true)]) (fun _ => PC.more (drumlineref5_First_pc c2 part hp0 hl0)) ?_ rfl
  refine PO.tk [30, 31, 32] 3 [8] 0 trivial (fun _ _ h => h) ?_
  refine PO.done (by kernel_rfl) ?_
  show PW _ _ _ _ _
  refine PW.ret ?_
  refine retQ_ret (d := D.v (.bool (((((((fitsP c2).1) == ((fitsP c2).1)) && (((fitsP c2).2) == ((fitsP c2).2))) && ((jumpR c2) == (jumpR c2))) && ((tickR c2) == (tickR c2))) && ((firstR c2 part) == (firstR c2 part))))) (ps := []) (by kernel_rfl) trivial ?_
  simp
end Go.Proofs.YtleflkgdbagmnaaGreatDoor.Pl
