/- Package bounds: check, Fits, First, and the numbers of any network. -/
import Derived.Test.YtgklghpkfmoogaaGreatDoorBdErr2
namespace Go.Proofs.YtgklghpkfmoogaaGreatDoor.Pl
open Go.RowKit Go.Proofs.YtgklghpkfmoogaaGreatDoor.Sm Go.Proofs.YtgklghpkfmoogaaGreatDoor.Dp
set_option maxHeartbeats 4000000
set_option maxRecDepth 100000
set_option linter.unusedVariables false
set_option linter.unusedSimpArgs false
theorem rangesD_struct {e:Nat→Addr} {c:Config} (hq:¬ (checkP c).1=0):rangesD e c=structD (checkP c).1 (checkP c).2:=if_neg hq
theorem rangesD_out {e:Nat→Addr} {c:Config} (hg:(checkP c).1=0) (ho:¬ outI c=0):rangesD e c=rangeD e (outI c):=by unfold rangesD; rw [if_pos hg,condD_some ho]
theorem rangesD_nil {e:Nat→Addr} {c:Config} (hg:(checkP c).1=0) (h:outI c=0):rangesD e c=D.v .nilIface:=by unfold rangesD; rw [if_pos hg,h]; rfl
theorem condD_zero {e:Nat→Addr} {k:Int} (h:k=0):condD e k=D.v .nilIface:=if_pos h
theorem bounds_check_struct_pc (e:Nat→Addr) (hA:Apart e) (c:Config) (hp0:c.parts.length<1000000) (hl0:c.links.length<1000000) (hq:¬ (checkP c).1=0):PC Tryz.prog (errG3 e) 58 [D.r (Config.d c)] (· = checkD e c):=by
 refine PC.of (N:=17) Tryz.func58 rfl rfl (Nat.le_of_ble_eq_true rfl) ?_
 refine PW.sr [1] 1 trivial ?_
 refine PW.seq ?_
 refine PW.sg ?_
 refine PL.rw 1 [1,5] 1 trivial ?_
 refine PL.gc (d:=structD (checkP c).1 (checkP c).2) (A:=[]) (fun _=>(bounds_checkRanges_pc e hA c hp0 hl0).eq (rangesD_struct hq)) ?_
 refine PL.rw 1 [1,3] 1 trivial ?_
 refine PL.nl ?_
 refine PW.sr [1,3,8] 1 trivial ?_
 refine PW.cd true (fun hz0 => ?_) (fun hz0=>by cases hz0)
 refine PW.sr [2] 1 trivial ?_
 refine PW.ret ?_
 refine retQ_ret (d:=structD (checkP c).1 (checkP c).2) (ps:=[]) kR trivial ?_
 unfold checkD
 rw [if_neg hq]
theorem bounds_check_out_pc (e:Nat→Addr) (hA:Apart e) (c:Config) (hp0:c.parts.length<1000000) (hl0:c.links.length<1000000) (hg:(checkP c).1=0) (ho:¬ outI c=0):PC Tryz.prog (errG3 e) 58 [D.r (Config.d c)] (· = checkD e c):=by
 refine PC.of (N:=17) Tryz.func58 rfl rfl (Nat.le_of_ble_eq_true rfl) ?_
 refine PW.sr [1] 1 trivial ?_
 refine PW.seq ?_
 refine PW.sg ?_
 refine PL.rw 1 [1,5] 1 trivial ?_
 refine PL.gc (d:=rangeD e (outI c)) (A:=[]) (fun _=>(bounds_checkRanges_pc e hA c hp0 hl0).eq (rangesD_out hg ho)) ?_
 refine PL.rw 1 [1,3] 1 trivial ?_
 refine PL.nl ?_
 refine PW.sr [1,3,8] 1 trivial ?_
 refine PW.cd true (fun hz0 => ?_) (fun hz0=>by cases hz0)
 refine PW.sr [2] 1 trivial ?_
 refine PW.ret ?_
 refine retQ_ret (d:=rangeD e (outI c)) (ps:=[]) kR trivial ?_
 unfold checkD condI
 rw [if_pos hg,if_pos ho,condD_some ho]
theorem bounds_check_times_pc (e:Nat→Addr) (hA:Apart e) (c:Config) (hp0:c.parts.length<1000000) (hl0:c.links.length<1000000) (hg:(checkP c).1=0) (h:outI c=0) (ht:¬ timesI c=0):PC Tryz.prog (errG3 e) 58 [D.r (Config.d c)] (· = checkD e c):=by
 refine PC.of (N:=17) Tryz.func58 rfl rfl (Nat.le_of_ble_eq_true rfl) ?_
 refine PW.sr [1] 1 trivial ?_
 refine PW.seq ?_
 refine PW.sg ?_
 refine PL.rw 1 [1,5] 1 trivial ?_
 refine PL.gc (d:=D.v (.nilIface)) (A:=[]) (fun _=>(bounds_checkRanges_pc e hA c hp0 hl0).eq (rangesD_nil hg h)) ?_
 refine PL.rw 1 [1,3] 1 trivial ?_
 refine PL.nl ?_
 refine PW.sr [1,3,8] 1 trivial ?_
 refine PW.cd false (fun hz0=>by cases hz0) (fun hz0 => ?_)
 refine PW.skip ?_
 show PW _ _ _ _ _
 refine PW.seq ?_
 refine PW.sg ?_
 refine PL.rw 1 [1,10] 1 trivial ?_
 refine PL.gc (d:=rangeD e (timesI c)) (A:=[]) (fun _=>(bounds_checkTimes_pc e hA c hg hp0 hl0 h).eq (condD_some ht)) ?_
 refine PL.rw 1 [1,4] 1 trivial ?_
 refine PL.nl ?_
 refine PW.sr [1,4,13] 1 trivial ?_
 refine PW.cd true (fun hz1 => ?_) (fun hz1=>by cases hz1)
 refine PW.sr [2] 1 trivial ?_
 refine PW.ret ?_
 refine retQ_ret (d:=rangeD e (timesI c)) (ps:=[]) kR trivial ?_
 unfold checkD condI
 rw [if_pos hg,if_neg (fun x=>x h),if_pos ht,condD_some ht]
theorem bounds_check_waits_pc (e:Nat→Addr) (hA:Apart e) (c:Config) (hp0:c.parts.length<1000000) (hl0:c.links.length<1000000) (hg:(checkP c).1=0) (h:outI c=0) (ht:timesI c=0) (hw:¬ waitsI c=0):PC Tryz.prog (errG3 e) 58 [D.r (Config.d c)] (· = checkD e c):=by
 refine PC.of (N:=17) Tryz.func58 rfl rfl (Nat.le_of_ble_eq_true rfl) ?_
 refine PW.sr [1] 1 trivial ?_
 refine PW.seq ?_
 refine PW.sg ?_
 refine PL.rw 1 [1,5] 1 trivial ?_
 refine PL.gc (d:=D.v (.nilIface)) (A:=[]) (fun _=>(bounds_checkRanges_pc e hA c hp0 hl0).eq (rangesD_nil hg h)) ?_
 refine PL.rw 1 [1,3] 1 trivial ?_
 refine PL.nl ?_
 refine PW.sr [1,3,8] 1 trivial ?_
 refine PW.cd false (fun hz0=>by cases hz0) (fun hz0 => ?_)
 refine PW.skip ?_
 show PW _ _ _ _ _
 refine PW.seq ?_
 refine PW.sg ?_
 refine PL.rw 1 [1,10] 1 trivial ?_
 refine PL.gc (d:=D.v (.nilIface)) (A:=[]) (fun _=>(bounds_checkTimes_pc e hA c hg hp0 hl0 h).eq (condD_zero ht)) ?_
 refine PL.rw 1 [1,4] 1 trivial ?_
 refine PL.nl ?_
 refine PW.sr [1,4,13] 1 trivial ?_
 refine PW.cd false (fun hz1=>by cases hz1) (fun hz1 => ?_)
 refine PW.skip ?_
 show PW _ _ _ _ _
 refine PW.sg ?_
 refine PL.rw 1 [15] 1 trivial ?_
 refine PL.gc (d:=rangeD e (waitsI c)) (A:=[]) (fun _=>(bounds_checkWaits_pc e hA c hg hp0 hl0 h).eq (condD_some hw)) ?_
 refine PL.rw 1 [2] 1 trivial ?_
 refine PL.nl ?_
 refine PW.ret ?_
 refine retQ_ret (d:=rangeD e (waitsI c)) (ps:=[]) kR trivial ?_
 unfold checkD condI
 rw [if_pos hg,if_neg (fun x=>x h),if_neg (fun x=>x ht),condD_some hw]
theorem bounds_check_nil_pc (e:Nat→Addr) (hA:Apart e) (c:Config) (hp0:c.parts.length<1000000) (hl0:c.links.length<1000000) (hg:(checkP c).1=0) (h:outI c=0) (ht:timesI c=0) (hw:waitsI c=0):PC Tryz.prog (errG3 e) 58 [D.r (Config.d c)] (· = checkD e c):=by
 refine PC.of (N:=17) Tryz.func58 rfl rfl (Nat.le_of_ble_eq_true rfl) ?_
 refine PW.sr [1] 1 trivial ?_
 refine PW.seq ?_
 refine PW.sg ?_
 refine PL.rw 1 [1,5] 1 trivial ?_
 refine PL.gc (d:=D.v (.nilIface)) (A:=[]) (fun _=>(bounds_checkRanges_pc e hA c hp0 hl0).eq (rangesD_nil hg h)) ?_
 refine PL.rw 1 [1,3] 1 trivial ?_
 refine PL.nl ?_
 refine PW.sr [1,3,8] 1 trivial ?_
 refine PW.cd false (fun hz0=>by cases hz0) (fun hz0 => ?_)
 refine PW.skip ?_
 show PW _ _ _ _ _
 refine PW.seq ?_
 refine PW.sg ?_
 refine PL.rw 1 [1,10] 1 trivial ?_
 refine PL.gc (d:=D.v (.nilIface)) (A:=[]) (fun _=>(bounds_checkTimes_pc e hA c hg hp0 hl0 h).eq (condD_zero ht)) ?_
 refine PL.rw 1 [1,4] 1 trivial ?_
 refine PL.nl ?_
 refine PW.sr [1,4,13] 1 trivial ?_
 refine PW.cd false (fun hz1=>by cases hz1) (fun hz1 => ?_)
 refine PW.skip ?_
 show PW _ _ _ _ _
 refine PW.sg ?_
 refine PL.rw 1 [15] 1 trivial ?_
 refine PL.gc (d:=D.v (.nilIface)) (A:=[]) (fun _=>(bounds_checkWaits_pc e hA c hg hp0 hl0 h).eq (condD_zero hw)) ?_
 refine PL.rw 1 [2] 1 trivial ?_
 refine PL.nl ?_
 refine PW.ret ?_
 refine retQ_ret (d:=D.v (.nilIface)) (ps:=[]) kR trivial ?_
 unfold checkD condI
 rw [if_pos hg,if_neg (fun x=>x h),if_neg (fun x=>x ht),condD_zero hw]
theorem bounds_check_pc (e:Nat→Addr) (hA:Apart e) (c:Config) (hp0:c.parts.length<1000000) (hl0:c.links.length<1000000):PC Tryz.prog (errG3 e) 58 [D.r (Config.d c)] (· = checkD e c):=by
 by_cases hg:(checkP c).1=0
 ·by_cases h:outI c=0
  ·by_cases ht:timesI c=0
   ·by_cases hw:waitsI c=0
    ·exact bounds_check_nil_pc e hA c hp0 hl0 hg h ht hw
    ·exact bounds_check_waits_pc e hA c hp0 hl0 hg h ht hw
   ·exact bounds_check_times_pc e hA c hp0 hl0 hg h ht
  ·exact bounds_check_out_pc e hA c hp0 hl0 hg h
 ·exact bounds_check_struct_pc e hA c hp0 hl0 hg
theorem checkD_struct {e:Nat→Addr} {c:Config} (hq:¬ (checkP c).1=0):checkD e c=structD (checkP c).1 (checkP c).2:=if_neg hq
theorem checkD_range {e:Nat→Addr} {c:Config} (hg:(checkP c).1=0) (hk:¬ condI c=0):checkD e c=rangeD e (condI c):=by unfold checkD; rw [if_pos hg,condD_some hk]
theorem checkD_nil {e:Nat→Addr} {c:Config} (hg:(checkP c).1=0) (hk:condI c=0):checkD e c=D.v .nilIface:=by unfold checkD; rw [if_pos hg,condD_zero hk]
theorem bounds_Fits_struct_pc (e:Nat→Addr) (hA:Apart e) (c:Config) (hp0:c.parts.length<1000000) (hl0:c.links.length<1000000) (hq:¬ (checkP c).1=0):PC Tryz.prog (errG3 e) 44 [D.r (Config.d c)] (· = D.t [I (fitsP c).1,I (fitsP c).2]):=by
 refine PC.of (N:=11) Tryz.func44 rfl rfl (Nat.le_of_ble_eq_true rfl) ?_
 refine PW.sr [1] 1 trivial ?_
 refine PW.sg ?_
 refine PL.rw 1 [5] 1 trivial ?_
 refine PL.gc (d:=structD (checkP c).1 (checkP c).2) (A:=[]) (fun _=>(bounds_check_pc e hA c hp0 hl0).eq (checkD_struct hq)) ?_
 refine PL.rw 1 [4] 1 trivial ?_
 refine PL.nl ?_
 refine PW.sg ?_
 refine PL.rw 1 [4,7] 1 trivial ?_
 refine PL.gc (A:=[]) (fun _=>bounds_number_struct_pc e (checkP c).1 (checkP c).2) ?_
 refine PL.rw 1 [8,9] 1 trivial ?_
 refine PL.gc (ds0:=[structD (checkP c).1 (checkP c).2]) (A:=[]) (fun _=>bounds_place_fault_pc e _ (checkP c).2) ?_
 refine PL.rw 2 [2,3] 1 trivial ?_
 refine PL.nl ?_
 refine PW.ret ?_
 refine retQ_ret (d:=D.t [I ((checkP c).1),I ((checkP c).2)]) (ps:=[]) kR trivial ?_
 unfold fitsP
 rw [if_neg hq]
theorem bounds_Fits_range_pc (e:Nat→Addr) (hA:Apart e) (c:Config) (hp0:c.parts.length<1000000) (hl0:c.links.length<1000000) (hg:(checkP c).1=0) (hk:¬ condI c=0):PC Tryz.prog (errG3 e) 44 [D.r (Config.d c)] (· = D.t [I (fitsP c).1,I (fitsP c).2]):=by
 refine PC.of (N:=11) Tryz.func44 rfl rfl (Nat.le_of_ble_eq_true rfl) ?_
 refine PW.sr [1] 1 trivial ?_
 refine PW.sg ?_
 refine PL.rw 1 [5] 1 trivial ?_
 refine PL.gc (d:=rangeD e (condI c)) (A:=[]) (fun _=>(bounds_check_pc e hA c hp0 hl0).eq (checkD_range hg hk)) ?_
 refine PL.rw 1 [4] 1 trivial ?_
 refine PL.nl ?_
 refine PW.sg ?_
 refine PL.rw 1 [4,7] 1 trivial ?_
 refine PL.gc (A:=[]) (fun _=>bounds_number_range_pc e (condI c)) ?_
 refine PL.rw 1 [8,9] 1 trivial ?_
 refine PL.gc (ds0:=[rangeD e (condI c)]) (A:=[]) (fun _=>bounds_place_fault_pc e _ (condI c)) ?_
 refine PL.rw 2 [2,3] 1 trivial ?_
 refine PL.nl ?_
 refine PW.ret ?_
 refine retQ_ret (d:=D.t [I 14,I (condI c)]) (ps:=[]) kR trivial ?_
 unfold fitsP
 rw [if_pos hg,if_neg hk]
theorem bounds_Fits_nil_pc (e:Nat→Addr) (hA:Apart e) (c:Config) (hp0:c.parts.length<1000000) (hl0:c.links.length<1000000) (hg:(checkP c).1=0) (hk:condI c=0):PC Tryz.prog (errG3 e) 44 [D.r (Config.d c)] (· = D.t [I (fitsP c).1,I (fitsP c).2]):=by
 refine PC.of (N:=11) Tryz.func44 rfl rfl (Nat.le_of_ble_eq_true rfl) ?_
 refine PW.sr [1] 1 trivial ?_
 refine PW.sg ?_
 refine PL.rw 1 [5] 1 trivial ?_
 refine PL.gc (d:=D.v (.nilIface)) (A:=[]) (fun _=>(bounds_check_pc e hA c hp0 hl0).eq (checkD_nil hg hk)) ?_
 refine PL.rw 1 [4] 1 trivial ?_
 refine PL.nl ?_
 refine PW.sg ?_
 refine PL.rw 1 [4,7] 1 trivial ?_
 refine PL.gc (A:=[]) (fun _=>bounds_number_nil_pc e) ?_
 refine PL.rw 1 [8,9] 1 trivial ?_
 refine PL.gc (G:=(errG3 e)) (A:=[]) (fun _=>PC.more (bounds_place_nil_pc)) ?_
 refine PL.rw 2 [2,3] 1 trivial ?_
 refine PL.nl ?_
 refine PW.ret ?_
 refine retQ_ret (d:=D.t [I 0,I 0]) (ps:=[]) kR trivial ?_
 unfold fitsP
 rw [if_pos hg,if_pos hk]
theorem bounds_Fits_pc (e:Nat→Addr) (hA:Apart e) (c:Config) (hp0:c.parts.length<1000000) (hl0:c.links.length<1000000):PC Tryz.prog (errG3 e) 44 [D.r (Config.d c)] (· = D.t [I (fitsP c).1,I (fitsP c).2]):=by
 by_cases hg:(checkP c).1=0
 ·by_cases hk:condI c=0
  ·exact bounds_Fits_nil_pc e hA c hp0 hl0 hg hk
  ·exact bounds_Fits_range_pc e hA c hp0 hl0 hg hk
 ·exact bounds_Fits_struct_pc e hA c hp0 hl0 hg
def fitB (c:Config):Bool:=decide ((checkP c).1=0)&&decide (condI c=0)
theorem checkD_not {e:Nat→Addr} {c:Config} (h:fitB c=false):∃ t d,checkD e c=D.i t d:=by
 by_cases hg:(checkP c).1=0
 ·by_cases hk:condI c=0
  ·simp [fitB,hg,hk] at h
  ·exact ⟨_,_,checkD_range hg hk⟩
 ·exact ⟨_,_,checkD_struct hg⟩
theorem checkD_fit {e:Nat→Addr} {c:Config} (h:fitB c=true):checkD e c=D.v .nilIface:=by
 simp only [fitB,Bool.and_eq_true,decide_eq_true_eq] at h
 exact checkD_nil h.1 h.2
def firstR (c:Config) (part:Int):Int:=if fitB c=true∧0≤part∧part<(c.parts.length:Int) then c.listen+part*c.span else 0
theorem fit_waits {c:Config} (h:fitB c=true):(0≤c.listen∧c.listen≤60000)∧(0≤c.span∧c.span≤60000)∧c.parts.length≤6:=by
 simp only [fitB,Bool.and_eq_true,decide_eq_true_eq] at h
 have hp:=parts_in h.1
 have hc:=h.2
 unfold condI at hc
 split at hc
 ·omega
 ·rename_i ho
  have ho':outI c=0:=by omega
  have hR:=inR_of ho'
  have r5:=hR.los
  have hm1:=mul_in (a:=(c.parts.length:Int)) (b:=c.lost+1) (A:=6) (B:=21) oM oM oM oM
  split at hc
  ·omega
  ·unfold waitsI at hc
   revert hc
   repeat' split
   all_goals omega
theorem rangedB_iff (c:Config):rangedB c=true↔(checkP c).1=0∧outI c=0:=by
 rw [rangedB_true]
 unfold goodB
 rw [← check_same]
 simp only [Bool.and_eq_true,beq_iff_eq,isB_true]
 constructor
 ·rintro ⟨⟨h1, -⟩,h2⟩; exact ⟨h1,h2⟩
 ·rintro ⟨h1,h2⟩
  have:=parts_in h1
  exact ⟨⟨h1,by omega,by omega⟩,h2⟩
theorem rangesD_not {e:Nat→Addr} {c:Config} (h:rangedB c=false):∃ t d,rangesD e c=D.i t d:=by
 by_cases hg:(checkP c).1=0
 ·by_cases hk:outI c=0
  ·rw [(rangedB_iff c).2 ⟨hg,hk⟩] at h; cases h
  ·exact ⟨_,_,rangesD_out hg hk⟩
 ·exact ⟨_,_,rangesD_struct hg⟩
theorem rangesD_yes {e:Nat→Addr} {c:Config} (h:rangedB c=true):rangesD e c=D.v .nilIface:=rangesD_nil ((rangedB_iff c).1 h).1 ((rangedB_iff c).1 h).2
theorem ranged_edge_yes (e:Nat→Addr) (hA:Apart e) (c:Config) (hp0:c.parts.length<1000000) (hl0:c.links.length<1000000) (hf:rangedB c=true):PC Tryz.prog (errG3 e) 21 [D.r (Config.d c),D.v (.func (.func 22) #[] #[])] (· = I (edgeR c)):=by
 refine PC.of (N:=11) Tryz.func21 rfl rfl (Nat.le_of_ble_eq_true rfl) ?_
 refine PW.sr [1,2] 1 trivial ?_
 refine PW.seq ?_
 refine PW.sg ?_
 refine PL.rw 1 [1,2,5] 1 trivial ?_
 refine PL.gc (d:=D.v (.nilIface)) (A:=[]) (fun _=>(bounds_checkRanges_pc e hA c hp0 hl0).eq (rangesD_yes hf)) ?_
 refine PL.rw 1 [1,2,7] 1 trivial ?_
 refine PL.nl ?_
 refine PW.cd false (fun hz0=>by cases hz0) (fun hz0 => ?_)
 refine PW.skip ?_
 show PW _ _ _ _ _
 refine PW.sg ?_
 refine PL.rw 2 [8,9] 1 trivial ?_
 refine PL.gc (G:=(errG3 e)) (A:=[]) (fun _=>PC.more (bounds_edge_pc c ((rangedB_iff c).1 hf).2)) ?_
 refine PL.rw 1 [4] 1 trivial ?_
 refine PL.nl ?_
 refine PW.ret ?_
 refine retQ_ret (d:=I (edgeI c)) (ps:=[]) kR trivial ?_
 unfold edgeR
 rw [if_pos hf]
theorem ranged_edge_no (e:Nat→Addr) (hA:Apart e) (c:Config) (hp0:c.parts.length<1000000) (hl0:c.links.length<1000000) (hf:rangedB c=false) (t:TypeId) (d:D) (hd:rangesD e c=D.i t d):PC Tryz.prog (errG3 e) 21 [D.r (Config.d c),D.v (.func (.func 22) #[] #[])] (· = I (edgeR c)):=by
 refine PC.of (N:=11) Tryz.func21 rfl rfl (Nat.le_of_ble_eq_true rfl) ?_
 refine PW.sr [1,2] 1 trivial ?_
 refine PW.seq ?_
 refine PW.sg ?_
 refine PL.rw 1 [1,2,5] 1 trivial ?_
 refine PL.gc (A:=[]) (fun _=>(bounds_checkRanges_pc e hA c hp0 hl0).eq hd) ?_
 refine PL.rw 1 [1,2,7] 1 trivial ?_
 refine PL.nl ?_
 refine PW.cd true (fun hz0 => ?_) (fun hz0=>by cases hz0)
 refine PW.sr [4] 1 trivial ?_
 refine PW.ret ?_
 refine retQ_ret (d:=I 0) (ps:=[]) kR trivial ?_
 unfold edgeR
 rw [hf]
 rfl
theorem ranged_edge_pc (e:Nat→Addr) (hA:Apart e) (c:Config) (hp0:c.parts.length<1000000) (hl0:c.links.length<1000000):PC Tryz.prog (errG3 e) 21 [D.r (Config.d c),D.v (.func (.func 22) #[] #[])] (· = I (edgeR c)):=by
 cases hf:rangedB c with
 | true=>exact ranged_edge_yes e hA c hp0 hl0 hf
 | false =>
  obtain ⟨t,d,hd⟩:=rangesD_not (e:=e) hf
  exact ranged_edge_no e hA c hp0 hl0 hf t d hd
theorem bounds_Edge_pc (e:Nat→Addr) (hA:Apart e) (c:Config) (hp0:c.parts.length<1000000) (hl0:c.links.length<1000000):PC Tryz.prog (errG3 e) 11 [D.r (Config.d c)] (· = I (edgeR c)):=by
 refine PC.of (N:=5) Tryz.func11 rfl rfl (Nat.le_of_ble_eq_true rfl) ?_
 refine PW.sr [1] 1 trivial ?_
 refine PW.sg ?_
 refine PL.rw 1 [3] 1 trivial ?_
 refine PL.gc (A:=[]) (fun _=>ranged_edge_pc e hA c hp0 hl0) ?_
 refine PL.rw 1 [2] 1 trivial ?_
 refine PL.nl ?_
 refine PW.ret ?_
 refine retQ_ret (d:=I (edgeR c)) (ps:=[]) kR trivial ?_
 rfl
theorem ranged_near_yes (e:Nat→Addr) (hA:Apart e) (c:Config) (hp0:c.parts.length<1000000) (hl0:c.links.length<1000000) (hf:rangedB c=true):PC Tryz.prog (errG3 e) 21 [D.r (Config.d c),D.v (.func (.func 91) #[] #[])] (· = I (2*edgeR c)):=by
 refine PC.of (N:=11) Tryz.func21 rfl rfl (Nat.le_of_ble_eq_true rfl) ?_
 refine PW.sr [1,2] 1 trivial ?_
 refine PW.seq ?_
 refine PW.sg ?_
 refine PL.rw 1 [1,2,5] 1 trivial ?_
 refine PL.gc (d:=D.v (.nilIface)) (A:=[]) (fun _=>(bounds_checkRanges_pc e hA c hp0 hl0).eq (rangesD_yes hf)) ?_
 refine PL.rw 1 [1,2,7] 1 trivial ?_
 refine PL.nl ?_
 refine PW.cd false (fun hz0=>by cases hz0) (fun hz0 => ?_)
 refine PW.skip ?_
 show PW _ _ _ _ _
 refine PW.sg ?_
 refine PL.rw 2 [8,9] 1 trivial ?_
 refine PL.gc (G:=(errG3 e)) (A:=[]) (fun _=>PC.more (bounds_near_pc c ((rangedB_iff c).1 hf).2)) ?_
 refine PL.rw 1 [4] 1 trivial ?_
 refine PL.nl ?_
 refine PW.ret ?_
 refine retQ_ret (d:=I (2*edgeI c)) (ps:=[]) kR trivial ?_
 unfold edgeR
 rw [if_pos hf]
theorem ranged_near_no (e:Nat→Addr) (hA:Apart e) (c:Config) (hp0:c.parts.length<1000000) (hl0:c.links.length<1000000) (hf:rangedB c=false) (t:TypeId) (d:D) (hd:rangesD e c=D.i t d):PC Tryz.prog (errG3 e) 21 [D.r (Config.d c),D.v (.func (.func 91) #[] #[])] (· = I (2*edgeR c)):=by
 refine PC.of (N:=11) Tryz.func21 rfl rfl (Nat.le_of_ble_eq_true rfl) ?_
 refine PW.sr [1,2] 1 trivial ?_
 refine PW.seq ?_
 refine PW.sg ?_
 refine PL.rw 1 [1,2,5] 1 trivial ?_
 refine PL.gc (A:=[]) (fun _=>(bounds_checkRanges_pc e hA c hp0 hl0).eq hd) ?_
 refine PL.rw 1 [1,2,7] 1 trivial ?_
 refine PL.nl ?_
 refine PW.cd true (fun hz0 => ?_) (fun hz0=>by cases hz0)
 refine PW.sr [4] 1 trivial ?_
 refine PW.ret ?_
 refine retQ_ret (d:=I 0) (ps:=[]) kR trivial ?_
 unfold edgeR
 rw [hf]
 rfl
theorem ranged_near_pc (e:Nat→Addr) (hA:Apart e) (c:Config) (hp0:c.parts.length<1000000) (hl0:c.links.length<1000000):PC Tryz.prog (errG3 e) 21 [D.r (Config.d c),D.v (.func (.func 91) #[] #[])] (· = I (2*edgeR c)):=by
 cases hf:rangedB c with
 | true=>exact ranged_near_yes e hA c hp0 hl0 hf
 | false =>
  obtain ⟨t,d,hd⟩:=rangesD_not (e:=e) hf
  exact ranged_near_no e hA c hp0 hl0 hf t d hd
theorem ranged_slew_yes (e:Nat→Addr) (hA:Apart e) (c:Config) (hp0:c.parts.length<1000000) (hl0:c.links.length<1000000) (hf:rangedB c=true):PC Tryz.prog (errG3 e) 21 [D.r (Config.d c),D.v (.func (.func 111) #[] #[])] (· = I (slewR c)):=by
 refine PC.of (N:=11) Tryz.func21 rfl rfl (Nat.le_of_ble_eq_true rfl) ?_
 refine PW.sr [1,2] 1 trivial ?_
 refine PW.seq ?_
 refine PW.sg ?_
 refine PL.rw 1 [1,2,5] 1 trivial ?_
 refine PL.gc (d:=D.v (.nilIface)) (A:=[]) (fun _=>(bounds_checkRanges_pc e hA c hp0 hl0).eq (rangesD_yes hf)) ?_
 refine PL.rw 1 [1,2,7] 1 trivial ?_
 refine PL.nl ?_
 refine PW.cd false (fun hz0=>by cases hz0) (fun hz0 => ?_)
 refine PW.skip ?_
 show PW _ _ _ _ _
 refine PW.sg ?_
 refine PL.rw 2 [8,9] 1 trivial ?_
 refine PL.gc (G:=(errG3 e)) (A:=[]) (fun _=>PC.more (bounds_slew_pc c ((rangedB_iff c).1 hf).2)) ?_
 refine PL.rw 1 [4] 1 trivial ?_
 refine PL.nl ?_
 refine PW.ret ?_
 refine retQ_ret (d:=I (slewI c)) (ps:=[]) kR trivial ?_
 unfold slewR
 rw [if_pos hf]
theorem ranged_slew_no (e:Nat→Addr) (hA:Apart e) (c:Config) (hp0:c.parts.length<1000000) (hl0:c.links.length<1000000) (hf:rangedB c=false) (t:TypeId) (d:D) (hd:rangesD e c=D.i t d):PC Tryz.prog (errG3 e) 21 [D.r (Config.d c),D.v (.func (.func 111) #[] #[])] (· = I (slewR c)):=by
 refine PC.of (N:=11) Tryz.func21 rfl rfl (Nat.le_of_ble_eq_true rfl) ?_
 refine PW.sr [1,2] 1 trivial ?_
 refine PW.seq ?_
 refine PW.sg ?_
 refine PL.rw 1 [1,2,5] 1 trivial ?_
 refine PL.gc (A:=[]) (fun _=>(bounds_checkRanges_pc e hA c hp0 hl0).eq hd) ?_
 refine PL.rw 1 [1,2,7] 1 trivial ?_
 refine PL.nl ?_
 refine PW.cd true (fun hz0 => ?_) (fun hz0=>by cases hz0)
 refine PW.sr [4] 1 trivial ?_
 refine PW.ret ?_
 refine retQ_ret (d:=I 0) (ps:=[]) kR trivial ?_
 unfold slewR
 rw [hf]
 rfl
theorem ranged_slew_pc (e:Nat→Addr) (hA:Apart e) (c:Config) (hp0:c.parts.length<1000000) (hl0:c.links.length<1000000):PC Tryz.prog (errG3 e) 21 [D.r (Config.d c),D.v (.func (.func 111) #[] #[])] (· = I (slewR c)):=by
 cases hf:rangedB c with
 | true=>exact ranged_slew_yes e hA c hp0 hl0 hf
 | false =>
  obtain ⟨t,d,hd⟩:=rangesD_not (e:=e) hf
  exact ranged_slew_no e hA c hp0 hl0 hf t d hd
theorem ranged_step_yes (e:Nat→Addr) (hA:Apart e) (c:Config) (hp0:c.parts.length<1000000) (hl0:c.links.length<1000000) (hf:rangedB c=true):PC Tryz.prog (errG3 e) 21 [D.r (Config.d c),D.v (.func (.func 107) #[] #[])] (· = I (stepR c)):=by
 refine PC.of (N:=11) Tryz.func21 rfl rfl (Nat.le_of_ble_eq_true rfl) ?_
 refine PW.sr [1,2] 1 trivial ?_
 refine PW.seq ?_
 refine PW.sg ?_
 refine PL.rw 1 [1,2,5] 1 trivial ?_
 refine PL.gc (d:=D.v (.nilIface)) (A:=[]) (fun _=>(bounds_checkRanges_pc e hA c hp0 hl0).eq (rangesD_yes hf)) ?_
 refine PL.rw 1 [1,2,7] 1 trivial ?_
 refine PL.nl ?_
 refine PW.cd false (fun hz0=>by cases hz0) (fun hz0 => ?_)
 refine PW.skip ?_
 show PW _ _ _ _ _
 refine PW.sg ?_
 refine PL.rw 2 [8,9] 1 trivial ?_
 refine PL.gc (G:=(errG3 e)) (A:=[]) (fun _=>PC.more (bounds_step_pc c ((rangedB_iff c).1 hf).2)) ?_
 refine PL.rw 1 [4] 1 trivial ?_
 refine PL.nl ?_
 refine PW.ret ?_
 refine retQ_ret (d:=I (stepI c)) (ps:=[]) kR trivial ?_
 unfold stepR
 rw [if_pos hf]
theorem ranged_step_no (e:Nat→Addr) (hA:Apart e) (c:Config) (hp0:c.parts.length<1000000) (hl0:c.links.length<1000000) (hf:rangedB c=false) (t:TypeId) (d:D) (hd:rangesD e c=D.i t d):PC Tryz.prog (errG3 e) 21 [D.r (Config.d c),D.v (.func (.func 107) #[] #[])] (· = I (stepR c)):=by
 refine PC.of (N:=11) Tryz.func21 rfl rfl (Nat.le_of_ble_eq_true rfl) ?_
 refine PW.sr [1,2] 1 trivial ?_
 refine PW.seq ?_
 refine PW.sg ?_
 refine PL.rw 1 [1,2,5] 1 trivial ?_
 refine PL.gc (A:=[]) (fun _=>(bounds_checkRanges_pc e hA c hp0 hl0).eq hd) ?_
 refine PL.rw 1 [1,2,7] 1 trivial ?_
 refine PL.nl ?_
 refine PW.cd true (fun hz0 => ?_) (fun hz0=>by cases hz0)
 refine PW.sr [4] 1 trivial ?_
 refine PW.ret ?_
 refine retQ_ret (d:=I 0) (ps:=[]) kR trivial ?_
 unfold stepR
 rw [hf]
 rfl
theorem ranged_step_pc (e:Nat→Addr) (hA:Apart e) (c:Config) (hp0:c.parts.length<1000000) (hl0:c.links.length<1000000):PC Tryz.prog (errG3 e) 21 [D.r (Config.d c),D.v (.func (.func 107) #[] #[])] (· = I (stepR c)):=by
 cases hf:rangedB c with
 | true=>exact ranged_step_yes e hA c hp0 hl0 hf
 | false =>
  obtain ⟨t,d,hd⟩:=rangesD_not (e:=e) hf
  exact ranged_step_no e hA c hp0 hl0 hf t d hd
theorem ranged_jump_yes (e:Nat→Addr) (hA:Apart e) (c:Config) (hp0:c.parts.length<1000000) (hl0:c.links.length<1000000) (hf:rangedB c=true):PC Tryz.prog (errG3 e) 21 [D.r (Config.d c),D.v (.func (.func 93) #[] #[])] (· = I (jumpR c)):=by
 refine PC.of (N:=11) Tryz.func21 rfl rfl (Nat.le_of_ble_eq_true rfl) ?_
 refine PW.sr [1,2] 1 trivial ?_
 refine PW.seq ?_
 refine PW.sg ?_
 refine PL.rw 1 [1,2,5] 1 trivial ?_
 refine PL.gc (d:=D.v (.nilIface)) (A:=[]) (fun _=>(bounds_checkRanges_pc e hA c hp0 hl0).eq (rangesD_yes hf)) ?_
 refine PL.rw 1 [1,2,7] 1 trivial ?_
 refine PL.nl ?_
 refine PW.cd false (fun hz0=>by cases hz0) (fun hz0 => ?_)
 refine PW.skip ?_
 show PW _ _ _ _ _
 refine PW.sg ?_
 refine PL.rw 2 [8,9] 1 trivial ?_
 refine PL.gc (G:=(errG3 e)) (A:=[]) (fun _=>PC.more (bounds_jump_pc c ((rangedB_iff c).1 hf).2)) ?_
 refine PL.rw 1 [4] 1 trivial ?_
 refine PL.nl ?_
 refine PW.ret ?_
 refine retQ_ret (d:=I (jumpI c)) (ps:=[]) kR trivial ?_
 unfold jumpR
 rw [if_pos hf]
theorem ranged_jump_no (e:Nat→Addr) (hA:Apart e) (c:Config) (hp0:c.parts.length<1000000) (hl0:c.links.length<1000000) (hf:rangedB c=false) (t:TypeId) (d:D) (hd:rangesD e c=D.i t d):PC Tryz.prog (errG3 e) 21 [D.r (Config.d c),D.v (.func (.func 93) #[] #[])] (· = I (jumpR c)):=by
 refine PC.of (N:=11) Tryz.func21 rfl rfl (Nat.le_of_ble_eq_true rfl) ?_
 refine PW.sr [1,2] 1 trivial ?_
 refine PW.seq ?_
 refine PW.sg ?_
 refine PL.rw 1 [1,2,5] 1 trivial ?_
 refine PL.gc (A:=[]) (fun _=>(bounds_checkRanges_pc e hA c hp0 hl0).eq hd) ?_
 refine PL.rw 1 [1,2,7] 1 trivial ?_
 refine PL.nl ?_
 refine PW.cd true (fun hz0 => ?_) (fun hz0=>by cases hz0)
 refine PW.sr [4] 1 trivial ?_
 refine PW.ret ?_
 refine retQ_ret (d:=I 0) (ps:=[]) kR trivial ?_
 unfold jumpR
 rw [hf]
 rfl
theorem ranged_jump_pc (e:Nat→Addr) (hA:Apart e) (c:Config) (hp0:c.parts.length<1000000) (hl0:c.links.length<1000000):PC Tryz.prog (errG3 e) 21 [D.r (Config.d c),D.v (.func (.func 93) #[] #[])] (· = I (jumpR c)):=by
 cases hf:rangedB c with
 | true=>exact ranged_jump_yes e hA c hp0 hl0 hf
 | false =>
  obtain ⟨t,d,hd⟩:=rangesD_not (e:=e) hf
  exact ranged_jump_no e hA c hp0 hl0 hf t d hd
end Go.Proofs.YtgklghpkfmoogaaGreatDoor.Pl
