/- Package bounds: check, Fits, First, and the numbers of any network. -/
import Derived.Test.YtaoobnikeicceaaGreatDoorBdErr2
namespace Go.Proofs.YtaoobnikeicceaaGreatDoor.Pl
open Go.RowKit Go.Proofs.YtaoobnikeicceaaGreatDoor.Sm Go.Proofs.YtaoobnikeicceaaGreatDoor.Dp
set_option maxHeartbeats 4000000
set_option maxRecDepth 100000
set_option linter.unusedVariables false
set_option linter.unusedSimpArgs false
theorem rangesD_struct {e : Nat → Addr} {c : Config} (hq : ¬ (checkP c).1 = 0) : rangesD e c = structD (checkP c).1 (checkP c).2 := if_neg hq
theorem rangesD_out {e : Nat → Addr} {c : Config} (hg : (checkP c).1 = 0) (ho : ¬ outI c = 0) : rangesD e c = rangeD e (outI c) := by unfold rangesD; rw [if_pos hg, condD_some ho]
theorem rangesD_nil {e : Nat → Addr} {c : Config} (hg : (checkP c).1 = 0) (h : outI c = 0) : rangesD e c = D.v .nilIface := by unfold rangesD; rw [if_pos hg, h]; rfl
theorem condD_zero {e : Nat → Addr} {k : Int} (h : k = 0) : condD e k = D.v .nilIface := if_pos h
theorem bounds_check_struct_pc (e : Nat → Addr) (hA : Apart e) (c : Config) (hp0 : c.parts.length < 1000000) (hl0 : c.links.length < 1000000) (hq : ¬ (checkP c).1 = 0) : PC Tryz.prog (errG3 e) 43 [D.r (Config.d c)] (· = checkD e c) := by
 refine PC.of (N := 17) Tryz.func43 rfl rfl (Nat.le_of_ble_eq_true rfl) ?_
 refine PW.sr [1] 1 trivial ?_
 refine PW.seq ?_
 refine PW.sg ?_
 refine PL.rw 1 [1, 5] 1 trivial ?_
 refine PL.gc (d := structD (checkP c).1 (checkP c).2) (A := []) (fun _ => (bounds_checkRanges_pc e hA c hp0 hl0).eq (rangesD_struct hq)) ?_
 refine PL.rw 1 [1, 3] 1 trivial ?_
 refine PL.nl ?_
 refine PW.sr [1, 3, 8] 1 trivial ?_
 refine PW.cd true (fun hz0 => ?_) (fun hz0 => by cases hz0)
 refine PW.sr [2] 1 trivial ?_
 refine PW.ret ?_
 refine retQ_ret (d := structD (checkP c).1 (checkP c).2) (ps := []) (by kernel_rfl) trivial ?_
 unfold checkD
 rw [if_neg hq]
theorem bounds_check_out_pc (e : Nat → Addr) (hA : Apart e) (c : Config) (hp0 : c.parts.length < 1000000) (hl0 : c.links.length < 1000000) (hg : (checkP c).1 = 0) (ho : ¬ outI c = 0) : PC Tryz.prog (errG3 e) 43 [D.r (Config.d c)] (· = checkD e c) := by
 refine PC.of (N := 17) Tryz.func43 rfl rfl (Nat.le_of_ble_eq_true rfl) ?_
 refine PW.sr [1] 1 trivial ?_
 refine PW.seq ?_
 refine PW.sg ?_
 refine PL.rw 1 [1, 5] 1 trivial ?_
 refine PL.gc (d := rangeD e (outI c)) (A := []) (fun _ => (bounds_checkRanges_pc e hA c hp0 hl0).eq (rangesD_out hg ho)) ?_
 refine PL.rw 1 [1, 3] 1 trivial ?_
 refine PL.nl ?_
 refine PW.sr [1, 3, 8] 1 trivial ?_
 refine PW.cd true (fun hz0 => ?_) (fun hz0 => by cases hz0)
 refine PW.sr [2] 1 trivial ?_
 refine PW.ret ?_
 refine retQ_ret (d := rangeD e (outI c)) (ps := []) (by kernel_rfl) trivial ?_
 unfold checkD condI
 rw [if_pos hg, if_pos ho, condD_some ho]
theorem bounds_check_times_pc (e : Nat → Addr) (hA : Apart e) (c : Config) (hp0 : c.parts.length < 1000000) (hl0 : c.links.length < 1000000) (hg : (checkP c).1 = 0) (h : outI c = 0) (ht : ¬ timesI c = 0) : PC Tryz.prog (errG3 e) 43 [D.r (Config.d c)] (· = checkD e c) := by
 refine PC.of (N := 17) Tryz.func43 rfl rfl (Nat.le_of_ble_eq_true rfl) ?_
 refine PW.sr [1] 1 trivial ?_
 refine PW.seq ?_
 refine PW.sg ?_
 refine PL.rw 1 [1, 5] 1 trivial ?_
 refine PL.gc (d := D.v (.nilIface)) (A := []) (fun _ => (bounds_checkRanges_pc e hA c hp0 hl0).eq (rangesD_nil hg h)) ?_
 refine PL.rw 1 [1, 3] 1 trivial ?_
 refine PL.nl ?_
 refine PW.sr [1, 3, 8] 1 trivial ?_
 refine PW.cd false (fun hz0 => by cases hz0) (fun hz0 => ?_)
 refine PW.skip ?_
 show PW _ _ _ _ _
 refine PW.seq ?_
 refine PW.sg ?_
 refine PL.rw 1 [1, 10] 1 trivial ?_
 refine PL.gc (d := rangeD e (timesI c)) (A := []) (fun _ => (bounds_checkTimes_pc e hA c hg hp0 hl0 h).eq (condD_some ht)) ?_
 refine PL.rw 1 [1, 4] 1 trivial ?_
 refine PL.nl ?_
 refine PW.sr [1, 4, 13] 1 trivial ?_
 refine PW.cd true (fun hz1 => ?_) (fun hz1 => by cases hz1)
 refine PW.sr [2] 1 trivial ?_
 refine PW.ret ?_
 refine retQ_ret (d := rangeD e (timesI c)) (ps := []) (by kernel_rfl) trivial ?_
 unfold checkD condI
 rw [if_pos hg, if_neg (fun x => x h), if_pos ht, condD_some ht]
theorem bounds_check_waits_pc (e : Nat → Addr) (hA : Apart e) (c : Config) (hp0 : c.parts.length < 1000000) (hl0 : c.links.length < 1000000) (hg : (checkP c).1 = 0) (h : outI c = 0) (ht : timesI c = 0) (hw : ¬ waitsI c = 0) : PC Tryz.prog (errG3 e) 43 [D.r (Config.d c)] (· = checkD e c) := by
 refine PC.of (N := 17) Tryz.func43 rfl rfl (Nat.le_of_ble_eq_true rfl) ?_
 refine PW.sr [1] 1 trivial ?_
 refine PW.seq ?_
 refine PW.sg ?_
 refine PL.rw 1 [1, 5] 1 trivial ?_
 refine PL.gc (d := D.v (.nilIface)) (A := []) (fun _ => (bounds_checkRanges_pc e hA c hp0 hl0).eq (rangesD_nil hg h)) ?_
 refine PL.rw 1 [1, 3] 1 trivial ?_
 refine PL.nl ?_
 refine PW.sr [1, 3, 8] 1 trivial ?_
 refine PW.cd false (fun hz0 => by cases hz0) (fun hz0 => ?_)
 refine PW.skip ?_
 show PW _ _ _ _ _
 refine PW.seq ?_
 refine PW.sg ?_
 refine PL.rw 1 [1, 10] 1 trivial ?_
 refine PL.gc (d := D.v (.nilIface)) (A := []) (fun _ => (bounds_checkTimes_pc e hA c hg hp0 hl0 h).eq (condD_zero ht)) ?_
 refine PL.rw 1 [1, 4] 1 trivial ?_
 refine PL.nl ?_
 refine PW.sr [1, 4, 13] 1 trivial ?_
 refine PW.cd false (fun hz1 => by cases hz1) (fun hz1 => ?_)
 refine PW.skip ?_
 show PW _ _ _ _ _
 refine PW.sg ?_
 refine PL.rw 1 [15] 1 trivial ?_
 refine PL.gc (d := rangeD e (waitsI c)) (A := []) (fun _ => (bounds_checkWaits_pc e hA c hg hp0 hl0 h).eq (condD_some hw)) ?_
 refine PL.rw 1 [2] 1 trivial ?_
 refine PL.nl ?_
 refine PW.ret ?_
 refine retQ_ret (d := rangeD e (waitsI c)) (ps := []) (by kernel_rfl) trivial ?_
 unfold checkD condI
 rw [if_pos hg, if_neg (fun x => x h), if_neg (fun x => x ht), condD_some hw]
theorem bounds_check_nil_pc (e : Nat → Addr) (hA : Apart e) (c : Config) (hp0 : c.parts.length < 1000000) (hl0 : c.links.length < 1000000) (hg : (checkP c).1 = 0) (h : outI c = 0) (ht : timesI c = 0) (hw : waitsI c = 0) : PC Tryz.prog (errG3 e) 43 [D.r (Config.d c)] (· = checkD e c) := by
 refine PC.of (N := 17) Tryz.func43 rfl rfl (Nat.le_of_ble_eq_true rfl) ?_
 refine PW.sr [1] 1 trivial ?_
 refine PW.seq ?_
 refine PW.sg ?_
 refine PL.rw 1 [1, 5] 1 trivial ?_
 refine PL.gc (d := D.v (.nilIface)) (A := []) (fun _ => (bounds_checkRanges_pc e hA c hp0 hl0).eq (rangesD_nil hg h)) ?_
 refine PL.rw 1 [1, 3] 1 trivial ?_
 refine PL.nl ?_
 refine PW.sr [1, 3, 8] 1 trivial ?_
 refine PW.cd false (fun hz0 => by cases hz0) (fun hz0 => ?_)
 refine PW.skip ?_
 show PW _ _ _ _ _
 refine PW.seq ?_
 refine PW.sg ?_
 refine PL.rw 1 [1, 10] 1 trivial ?_
 refine PL.gc (d := D.v (.nilIface)) (A := []) (fun _ => (bounds_checkTimes_pc e hA c hg hp0 hl0 h).eq (condD_zero ht)) ?_
 refine PL.rw 1 [1, 4] 1 trivial ?_
 refine PL.nl ?_
 refine PW.sr [1, 4, 13] 1 trivial ?_
 refine PW.cd false (fun hz1 => by cases hz1) (fun hz1 => ?_)
 refine PW.skip ?_
 show PW _ _ _ _ _
 refine PW.sg ?_
 refine PL.rw 1 [15] 1 trivial ?_
 refine PL.gc (d := D.v (.nilIface)) (A := []) (fun _ => (bounds_checkWaits_pc e hA c hg hp0 hl0 h).eq (condD_zero hw)) ?_
 refine PL.rw 1 [2] 1 trivial ?_
 refine PL.nl ?_
 refine PW.ret ?_
 refine retQ_ret (d := D.v (.nilIface)) (ps := []) (by kernel_rfl) trivial ?_
 unfold checkD condI
 rw [if_pos hg, if_neg (fun x => x h), if_neg (fun x => x ht), condD_zero hw]
theorem bounds_check_pc (e : Nat → Addr) (hA : Apart e) (c : Config) (hp0 : c.parts.length < 1000000) (hl0 : c.links.length < 1000000) : PC Tryz.prog (errG3 e) 43 [D.r (Config.d c)] (· = checkD e c) := by
  by_cases hg : (checkP c).1 = 0
  · by_cases h : outI c = 0
    · by_cases ht : timesI c = 0
      · by_cases hw : waitsI c = 0
        · exact bounds_check_nil_pc e hA c hp0 hl0 hg h ht hw
        · exact bounds_check_waits_pc e hA c hp0 hl0 hg h ht hw
      · exact bounds_check_times_pc e hA c hp0 hl0 hg h ht
    · exact bounds_check_out_pc e hA c hp0 hl0 hg h
  · exact bounds_check_struct_pc e hA c hp0 hl0 hg
theorem checkD_struct {e : Nat → Addr} {c : Config} (hq : ¬ (checkP c).1 = 0) : checkD e c = structD (checkP c).1 (checkP c).2 := if_neg hq
theorem checkD_range {e : Nat → Addr} {c : Config} (hg : (checkP c).1 = 0) (hk : ¬ condI c = 0) : checkD e c = rangeD e (condI c) := by unfold checkD; rw [if_pos hg, condD_some hk]
theorem checkD_nil {e : Nat → Addr} {c : Config} (hg : (checkP c).1 = 0) (hk : condI c = 0) : checkD e c = D.v .nilIface := by unfold checkD; rw [if_pos hg, condD_zero hk]
theorem bounds_Fits_struct_pc (e : Nat → Addr) (hA : Apart e) (c : Config) (hp0 : c.parts.length < 1000000) (hl0 : c.links.length < 1000000) (hq : ¬ (checkP c).1 = 0) : PC Tryz.prog (errG3 e) 31 [D.r (Config.d c)] (· = D.t [I (fitsP c).1, I (fitsP c).2]) := by
 refine PC.of (N := 11) Tryz.func31 rfl rfl (Nat.le_of_ble_eq_true rfl) ?_
 refine PW.sr [1] 1 trivial ?_
 refine PW.sg ?_
 refine PL.rw 1 [5] 1 trivial ?_
 refine PL.gc (d := structD (checkP c).1 (checkP c).2) (A := []) (fun _ => (bounds_check_pc e hA c hp0 hl0).eq (checkD_struct hq)) ?_
 refine PL.rw 1 [4] 1 trivial ?_
 refine PL.nl ?_
 refine PW.sg ?_
 refine PL.rw 1 [4, 7] 1 trivial ?_
 refine PL.gc (A := []) (fun _ => bounds_number_struct_pc e (checkP c).1 (checkP c).2) ?_
 refine PL.rw 1 [8, 9] 1 trivial ?_
 refine PL.gc (ds0 := [structD (checkP c).1 (checkP c).2]) (A := []) (fun _ => bounds_place_fault_pc e _ (checkP c).2) ?_
 refine PL.rw 2 [2, 3] 1 trivial ?_
 refine PL.nl ?_
 refine PW.ret ?_
 refine retQ_ret (d := D.t [I ((checkP c).1), I ((checkP c).2)]) (ps := []) (by kernel_rfl) trivial ?_
 unfold fitsP
 rw [if_neg hq]
theorem bounds_Fits_range_pc (e : Nat → Addr) (hA : Apart e) (c : Config) (hp0 : c.parts.length < 1000000) (hl0 : c.links.length < 1000000) (hg : (checkP c).1 = 0) (hk : ¬ condI c = 0) : PC Tryz.prog (errG3 e) 31 [D.r (Config.d c)] (· = D.t [I (fitsP c).1, I (fitsP c).2]) := by
 refine PC.of (N := 11) Tryz.func31 rfl rfl (Nat.le_of_ble_eq_true rfl) ?_
 refine PW.sr [1] 1 trivial ?_
 refine PW.sg ?_
 refine PL.rw 1 [5] 1 trivial ?_
 refine PL.gc (d := rangeD e (condI c)) (A := []) (fun _ => (bounds_check_pc e hA c hp0 hl0).eq (checkD_range hg hk)) ?_
 refine PL.rw 1 [4] 1 trivial ?_
 refine PL.nl ?_
 refine PW.sg ?_
 refine PL.rw 1 [4, 7] 1 trivial ?_
 refine PL.gc (A := []) (fun _ => bounds_number_range_pc e (condI c)) ?_
 refine PL.rw 1 [8, 9] 1 trivial ?_
 refine PL.gc (ds0 := [rangeD e (condI c)]) (A := []) (fun _ => bounds_place_fault_pc e _ (condI c)) ?_
 refine PL.rw 2 [2, 3] 1 trivial ?_
 refine PL.nl ?_
 refine PW.ret ?_
 refine retQ_ret (d := D.t [I 14, I (condI c)]) (ps := []) (by kernel_rfl) trivial ?_
 unfold fitsP
 rw [if_pos hg, if_neg hk]
theorem bounds_Fits_nil_pc (e : Nat → Addr) (hA : Apart e) (c : Config) (hp0 : c.parts.length < 1000000) (hl0 : c.links.length < 1000000) (hg : (checkP c).1 = 0) (hk : condI c = 0) : PC Tryz.prog (errG3 e) 31 [D.r (Config.d c)] (· = D.t [I (fitsP c).1, I (fitsP c).2]) := by
 refine PC.of (N := 11) Tryz.func31 rfl rfl (Nat.le_of_ble_eq_true rfl) ?_
 refine PW.sr [1] 1 trivial ?_
 refine PW.sg ?_
 refine PL.rw 1 [5] 1 trivial ?_
 refine PL.gc (d := D.v (.nilIface)) (A := []) (fun _ => (bounds_check_pc e hA c hp0 hl0).eq (checkD_nil hg hk)) ?_
 refine PL.rw 1 [4] 1 trivial ?_
 refine PL.nl ?_
 refine PW.sg ?_
 refine PL.rw 1 [4, 7] 1 trivial ?_
 refine PL.gc (A := []) (fun _ => bounds_number_nil_pc e) ?_
 refine PL.rw 1 [8, 9] 1 trivial ?_
 refine PL.gc (G := (errG3 e)) (A := []) (fun _ => PC.more (bounds_place_nil_pc)) ?_
 refine PL.rw 2 [2, 3] 1 trivial ?_
 refine PL.nl ?_
 refine PW.ret ?_
 refine retQ_ret (d := D.t [I 0, I 0]) (ps := []) (by kernel_rfl) trivial ?_
 unfold fitsP
 rw [if_pos hg, if_pos hk]
theorem bounds_Fits_pc (e : Nat → Addr) (hA : Apart e) (c : Config) (hp0 : c.parts.length < 1000000) (hl0 : c.links.length < 1000000) : PC Tryz.prog (errG3 e) 31 [D.r (Config.d c)] (· = D.t [I (fitsP c).1, I (fitsP c).2]) := by
  by_cases hg : (checkP c).1 = 0
  · by_cases hk : condI c = 0
    · exact bounds_Fits_nil_pc e hA c hp0 hl0 hg hk
    · exact bounds_Fits_range_pc e hA c hp0 hl0 hg hk
  · exact bounds_Fits_struct_pc e hA c hp0 hl0 hg
/-- it fits. -/
def fitB (c : Config) : Bool := decide ((checkP c).1 = 0) && decide (condI c = 0)
theorem rangedB_iff (c : Config) : rangedB c = true ↔ (checkP c).1 = 0 ∧ outI c = 0 := by
  rw [rangedB_true]
  unfold goodB
  rw [← check_same]
  simp only [Bool.and_eq_true, beq_iff_eq, isB_true]
  constructor
  · rintro ⟨⟨h1, -⟩, h2⟩; exact ⟨h1, h2⟩
  · rintro ⟨h1, h2⟩
    have := parts_in h1
    exact ⟨⟨h1, by omega, by omega⟩, h2⟩
end Go.Proofs.YtaoobnikeicceaaGreatDoor.Pl
