/- Package bounds: check, Fits, First, and the numbers of any network. -/
import Derived.Test.YtgklghpkfmoogaaDoorBdErr2
namespace Go.Proofs.YtgklghpkfmoogaaDoor.Pl
open Go.RowKit Go.Proofs.YtgklghpkfmoogaaDoor.Sm Go.Proofs.YtgklghpkfmoogaaDoor.Dp
set_option maxHeartbeats 4000000
set_option maxRecDepth 100000
set_option linter.unusedVariables false
set_option linter.unusedSimpArgs false
theorem rangesD_struct {e:Nat→Addr} {c:Config} (hq:¬ (checkP c).1=0):rangesD e c=structD (checkP c).1 (checkP c).2:=if_neg hq
theorem rangesD_out {e:Nat→Addr} {c:Config} (hg:(checkP c).1=0) (ho:¬ outI c=0):rangesD e c=rangeD e (outI c):=by unfold rangesD; rw [if_pos hg,condD_some ho]
theorem rangesD_nil {e:Nat→Addr} {c:Config} (hg:(checkP c).1=0) (h:outI c=0):rangesD e c=D.v .nilIface:=by unfold rangesD; rw [if_pos hg,h]; rfl
theorem condD_zero {e:Nat→Addr} {k:Int} (h:k=0):condD e k=D.v .nilIface:=if_pos h
theorem checkD_struct {e:Nat→Addr} {c:Config} (hq:¬ (checkP c).1=0):checkD e c=structD (checkP c).1 (checkP c).2:=if_neg hq
theorem checkD_range {e:Nat→Addr} {c:Config} (hg:(checkP c).1=0) (hk:¬ condI c=0):checkD e c=rangeD e (condI c):=by unfold checkD; rw [if_pos hg,condD_some hk]
theorem checkD_nil {e:Nat→Addr} {c:Config} (hg:(checkP c).1=0) (hk:condI c=0):checkD e c=D.v .nilIface:=by unfold checkD; rw [if_pos hg,condD_zero hk]
def fitB (c:Config):Bool:=decide ((checkP c).1=0)&&decide (condI c=0)
theorem checkD_not {e:Nat→Addr} {c:Config} (h:fitB c=false):∃ t d,checkD e c=D.i t d:=by
 by_cases hg:(checkP c).1=0
 ·by_cases hk:condI c=0
  ·simp [fitB,hg,hk] at h
  ·exact ⟨_,_,checkD_range hg hk⟩
 ·exact ⟨_,_,checkD_struct hg⟩
theorem checkD_fit {e:Nat→Addr} {c:Config} (h:fitB c=true):checkD e c=D.v .nilIface:=by
 simp only [fitB,Bool.and_eq_true,decide_eq_true_eq] at h
 exact checkD_nil h.1 h.2
def firstR (c:Config) (part:Int):Int:=if fitB c=true∧0≤part∧part<(c.parts.length:Int) then c.listen+part*c.span else 0
theorem fit_waits {c:Config} (h:fitB c=true):(0≤c.listen∧c.listen≤60000)∧(0≤c.span∧c.span≤60000)∧c.parts.length≤6:=by
 simp only [fitB,Bool.and_eq_true,decide_eq_true_eq] at h
 have hp:=parts_in h.1
 have hc:=h.2
 unfold condI at hc
 split at hc
 ·omega
 ·rename_i ho
  have ho':outI c=0:=by omega
  have hR:=inR_of ho'
  have r5:=hR.los
  have hm1:=mul_in (a:=(c.parts.length:Int)) (b:=c.lost+1) (A:=6) (B:=21) oM oM oM oM
  split at hc
  ·omega
  ·unfold waitsI at hc
   revert hc
   repeat' split
   all_goals omega
theorem rangedB_iff (c:Config):rangedB c=true↔(checkP c).1=0∧outI c=0:=by
 rw [rangedB_true]
 unfold goodB
 rw [← check_same]
 simp only [Bool.and_eq_true,beq_iff_eq,isB_true]
 constructor
 ·rintro ⟨⟨h1, -⟩,h2⟩; exact ⟨h1,h2⟩
 ·rintro ⟨h1,h2⟩
  have:=parts_in h1
  exact ⟨⟨h1,by omega,by omega⟩,h2⟩
theorem rangesD_not {e:Nat→Addr} {c:Config} (h:rangedB c=false):∃ t d,rangesD e c=D.i t d:=by
 by_cases hg:(checkP c).1=0
 ·by_cases hk:outI c=0
  ·rw [(rangedB_iff c).2 ⟨hg,hk⟩] at h; cases h
  ·exact ⟨_,_,rangesD_out hg hk⟩
 ·exact ⟨_,_,rangesD_struct hg⟩
theorem rangesD_yes {e:Nat→Addr} {c:Config} (h:rangedB c=true):rangesD e c=D.v .nilIface:=rangesD_nil ((rangedB_iff c).1 h).1 ((rangedB_iff c).1 h).2
theorem ranged_edge_yes (e:Nat→Addr) (hA:Apart e) (c:Config) (hp0:c.parts.length<1000000) (hl0:c.links.length<1000000) (hf:rangedB c=true):PC Tryd.prog (errG3 e) 15 [D.r (Config.d c),D.v (.func (.func 16) #[] #[])] (· = I (edgeR c)):=by
 refine PC.of (N:=11) Tryd.func15 rfl rfl (Nat.le_of_ble_eq_true rfl) ?_
 refine PW.sr [1,2] 1 trivial ?_
 refine PW.seq ?_
 refine PW.sg ?_
 refine PL.rw 1 [1,2,5] 1 trivial ?_
 refine PL.gc (d:=D.v (.nilIface)) (A:=[]) (fun _=>(bounds_checkRanges_pc e hA c hp0 hl0).eq (rangesD_yes hf)) ?_
 refine PL.rw 1 [1,2,7] 1 trivial ?_
 refine PL.nl ?_
 refine PW.cd false (fun hz0=>by cases hz0) (fun hz0 => ?_)
 refine PW.skip ?_
 show PW _ _ _ _ _
 refine PW.sg ?_
 refine PL.rw 2 [8,9] 1 trivial ?_
 refine PL.gc (G:=(errG3 e)) (A:=[]) (fun _=>PC.more (bounds_edge_pc c ((rangedB_iff c).1 hf).2)) ?_
 refine PL.rw 1 [4] 1 trivial ?_
 refine PL.nl ?_
 refine PW.ret ?_
 refine retQ_ret (d:=I (edgeI c)) (ps:=[]) kR trivial ?_
 unfold edgeR
 rw [if_pos hf]
theorem ranged_edge_no (e:Nat→Addr) (hA:Apart e) (c:Config) (hp0:c.parts.length<1000000) (hl0:c.links.length<1000000) (hf:rangedB c=false) (t:TypeId) (d:D) (hd:rangesD e c=D.i t d):PC Tryd.prog (errG3 e) 15 [D.r (Config.d c),D.v (.func (.func 16) #[] #[])] (· = I (edgeR c)):=by
 refine PC.of (N:=11) Tryd.func15 rfl rfl (Nat.le_of_ble_eq_true rfl) ?_
 refine PW.sr [1,2] 1 trivial ?_
 refine PW.seq ?_
 refine PW.sg ?_
 refine PL.rw 1 [1,2,5] 1 trivial ?_
 refine PL.gc (A:=[]) (fun _=>(bounds_checkRanges_pc e hA c hp0 hl0).eq hd) ?_
 refine PL.rw 1 [1,2,7] 1 trivial ?_
 refine PL.nl ?_
 refine PW.cd true (fun hz0 => ?_) (fun hz0=>by cases hz0)
 refine PW.sr [4] 1 trivial ?_
 refine PW.ret ?_
 refine retQ_ret (d:=I 0) (ps:=[]) kR trivial ?_
 unfold edgeR
 rw [hf]
 rfl
theorem ranged_edge_pc (e:Nat→Addr) (hA:Apart e) (c:Config) (hp0:c.parts.length<1000000) (hl0:c.links.length<1000000):PC Tryd.prog (errG3 e) 15 [D.r (Config.d c),D.v (.func (.func 16) #[] #[])] (· = I (edgeR c)):=by
 cases hf:rangedB c with
 | true=>exact ranged_edge_yes e hA c hp0 hl0 hf
 | false =>
  obtain ⟨t,d,hd⟩:=rangesD_not (e:=e) hf
  exact ranged_edge_no e hA c hp0 hl0 hf t d hd
theorem bounds_Edge_pc (e:Nat→Addr) (hA:Apart e) (c:Config) (hp0:c.parts.length<1000000) (hl0:c.links.length<1000000):PC Tryd.prog (errG3 e) 8 [D.r (Config.d c)] (· = I (edgeR c)):=by
 refine PC.of (N:=5) Tryd.func8 rfl rfl (Nat.le_of_ble_eq_true rfl) ?_
 refine PW.sr [1] 1 trivial ?_
 refine PW.sg ?_
 refine PL.rw 1 [3] 1 trivial ?_
 refine PL.gc (A:=[]) (fun _=>ranged_edge_pc e hA c hp0 hl0) ?_
 refine PL.rw 1 [2] 1 trivial ?_
 refine PL.nl ?_
 refine PW.ret ?_
 refine retQ_ret (d:=I (edgeR c)) (ps:=[]) kR trivial ?_
 rfl
end Go.Proofs.YtgklghpkfmoogaaDoor.Pl
