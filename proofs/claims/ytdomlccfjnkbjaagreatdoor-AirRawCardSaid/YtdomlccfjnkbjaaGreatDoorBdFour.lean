/- Package bounds: check, Fits, First, and the numbers of any network. -/
import Derived.Test.YtdomlccfjnkbjaaGreatDoorBdA
import Derived.Test.YtdomlccfjnkbjaaGreatDoorBdErr
namespace Go.Proofs.YtdomlccfjnkbjaaGreatDoor.Pl
open Go.RowKit Go.Proofs.YtdomlccfjnkbjaaGreatDoor.Sm Go.Proofs.YtdomlccfjnkbjaaGreatDoor.Dp
set_option maxHeartbeats 4000000
set_option maxRecDepth 100000
set_option linter.unusedVariables false
set_option linter.unusedSimpArgs false
theorem hT_of {e:Nat→Addr} {w:World} {ok:Nat→Prop} (h2:∀ x ∈ errG3 e,GlC w ok x):w.cell? ⟨12,0,none⟩=some (.iface 210 (.agg #[.pointer (some ⟨14,112,none⟩)]))∧ok 12:=by
 obtain ⟨ty,tok,_⟩:=h2 _ (errG3_type e)
 refine ⟨?_,tok⟩
 generalize hp:(⟨12,0,none⟩:Addr)=p at ty
 cases ty with
 | q vals hb hv hd =>
  have c0:=hv 0 (by simp)
  have d0:=hd 0 _ rfl
  generalize hx:vals 0=x0 at c0 d0
  cases d0 with
  | v _=>exact c0
theorem hR_of {e:Nat→Addr} {w:World} {ok:Nat→Prop} (h2:∀ x ∈ errG3 e,GlC w ok x):w.cell? ⟨4,0,none⟩=some (.iface 251 (.pointer (some (e 7))))∧ok 4:=by
 obtain ⟨ty,tok,_⟩:=h2 _ (errG3_range e)
 refine ⟨?_,tok⟩
 generalize hp:(⟨4,0,none⟩:Addr)=p at ty
 cases ty with
 | q vals hb hv hd =>
  have c0:=hv 0 (by simp)
  have d0:=hd 0 _ rfl
  generalize hx:vals 0=x0 at c0 d0
  cases d0 with
  | v _=>exact c0
theorem bounds_place_nil_pc:PC Tryz.prog [] 138 [D.v .nilIface] (· = I 0):=by
 intro κ w vs h1 h2 h3 h4
 match vs,h3 with
 | [v0],_ =>
  have r0:=h4 0 _ v0 rfl rfl
  cases r0 with
  | v _ =>
   refine (BdF.place_nil w).mono ?_
   rintro r w' ⟨rfl,hb⟩
   exact ⟨_,_,rfl,rfl,.v _,hb⟩
theorem bounds_place_fault_pc (e:Nat→Addr) (x:D) (at_:Int):PC Tryz.prog (errG3 e) 138 [D.i 157 (D.q [x,I at_] 0)] (· = I at_):=by
 intro κ w vs h1 h2 h3 h4
 match vs,h3 with
 | [v0],_ =>
  have r0:=h4 0 _ v0 rfl rfl
  obtain ⟨hT,tok⟩:=hT_of h2
  cases r0 with
  | i r0=>cases r0 with
   | q vals hb hv hd =>
    have c0:=hv 1 (by simp)
    have d0:=hd 1 _ rfl
    generalize hx:vals 1=x0 at c0 d0
    cases d0 with
    | v _ =>
     refine (BdF.place_fault _ _ at_ w hT (h1 _ tok) (h1 _ hb) c0).mono ?_
     rintro r w' ⟨rfl,hb⟩
     exact ⟨_,_,rfl,rfl,.v _,hb⟩
theorem bounds_number_nil_pc (e:Nat→Addr):PC Tryz.prog (errG3 e) 137 [D.v .nilIface] (· = I 0):=by
 intro κ w vs h1 h2 h3 h4
 match vs,h3 with
 | [v0],_ =>
  have r0:=h4 0 _ v0 rfl rfl
  obtain ⟨hR,rok⟩:=hR_of h2
  cases r0 with
  | v _ =>
   refine (BdS.number_nil _ w hR (h1 _ rok)).mono ?_
   rintro r w' ⟨rfl,hb⟩
   exact ⟨_,_,rfl,rfl,.v _,hb⟩
theorem bounds_number_range_pc (e:Nat→Addr) (k:Int):PC Tryz.prog (errG3 e) 137 [rangeD e k] (· = I 14):=by
 intro κ w vs h1 h2 h3 h4
 match vs,h3 with
 | [v0],_ =>
  have r0:=h4 0 _ v0 rfl rfl
  obtain ⟨hT,tok⟩:=hT_of h2
  obtain ⟨hR,rok⟩:=hR_of h2
  unfold rangeD at r0
  cases r0 with
  | i r0=>cases r0 with
   | q vals hb hv hd =>
    have c0:=hv 0 (by simp)
    have d0:=hd 0 _ rfl
    unfold sentD at d0
    generalize hx:vals 0=x0 at c0 d0
    cases d0 with
    | v _ =>
     refine (BdS.number_range _ _ (e 7) w hT (h1 _ tok) (h1 _ hb) c0 hR (h1 _ rok)).mono ?_
     rintro r w' ⟨rfl,hb⟩
     exact ⟨_,_,rfl,rfl,.v _,hb⟩
theorem bounds_number_struct_pc (e:Nat→Addr) (n at_:Int):PC Tryz.prog (errG3 e) 137 [structD n at_] (· = I n):=by
  intro κ w vs h1 h2 h3 h4
  match vs,h3 with
  | [v0],_ =>
    have r0:=h4 0 _ v0 rfl rfl
    obtain ⟨hT,tok⟩:=hT_of h2
    unfold structD at r0
    cases r0 with
    | i r0 => cases r0 with
      | q vals hb hv hd =>
        have c0:=hv 0 (by simp)
        have d0:=hd 0 _ rfl
        generalize hx:vals 0=x0 at c0 d0
        cases d0 with
        | i d0=>cases d0 with
          | q vals2 hb2 hv2 hd2 =>
            have c2:=hv2 0 (by simp)
            have d2:=hd2 0 _ rfl
            generalize hx2:vals2 0=x2 at c2 d2
            cases d2 with
            | v _ =>
              refine (BdS.number_structure _ _ _ _ n w hT (h1 _ tok) (h1 _ hb) c0 (h1 _ hb2) (by simpa using c2)).mono ?_
              rintro r w' ⟨rfl,hb⟩
              exact ⟨_,_,rfl,rfl,.v _,hb⟩
def condI (c:Config):Int:=if ¬ outI c=0 then outI c else if ¬ timesI c=0 then timesI c else waitsI c
def checkD (e:Nat→Addr) (c:Config):D:=if (checkP c).1=0 then condD e (condI c) else structD (checkP c).1 (checkP c).2
def fitsP (c:Config):Int×Int:=if (checkP c).1=0 then (if condI c=0 then (0,0) else (14,condI c)) else checkP c
theorem rangesD_struct {e:Nat→Addr} {c:Config} (hq:¬ (checkP c).1=0):rangesD e c=structD (checkP c).1 (checkP c).2:=if_neg hq
theorem rangesD_out {e:Nat→Addr} {c:Config} (hg:(checkP c).1=0) (ho:¬ outI c=0):rangesD e c=rangeD e (outI c):=by unfold rangesD; rw [if_pos hg,condD_some ho]
theorem rangesD_nil {e:Nat→Addr} {c:Config} (hg:(checkP c).1=0) (h:outI c=0):rangesD e c=D.v .nilIface:=by unfold rangesD; rw [if_pos hg,h]; rfl
theorem condD_zero {e:Nat→Addr} {k:Int} (h:k=0):condD e k=D.v .nilIface:=if_pos h
theorem bounds_check_struct_pc (e:Nat→Addr) (hA:Apart e) (c:Config) (hp0:c.parts.length<1000000) (hl0:c.links.length<1000000) (hq:¬ (checkP c).1=0):PC Tryz.prog (errG3 e) 136 [D.r (Config.d c)] (· = checkD e c):=by
 refine PC.of (N:=17) Tryz.func136 rfl rfl (Nat.le_of_ble_eq_true rfl) ?_
 refine PW.a [1] 1 (PW.seq (PW.w 1 [1,5] 1 (PL.gc (d:=structD (checkP c).1 (checkP c).2) (A:=[]) (fun _=>(bounds_checkRanges_pc e hA c hp0 hl0).eq (rangesD_struct hq)) (PL.n 1 [1,3] 1 (PW.a [1,3,8] 1 ?_)))))
 refine PW.cd true (fun hz0 => ?_) (fun hz0=>by cases hz0)
 refine PW.t [2] 1 (rq (structD (checkP c).1 (checkP c).2) ?_)
 unfold checkD
 rw [if_neg hq]
theorem bounds_check_out_pc (e:Nat→Addr) (hA:Apart e) (c:Config) (hp0:c.parts.length<1000000) (hl0:c.links.length<1000000) (hg:(checkP c).1=0) (ho:¬ outI c=0):PC Tryz.prog (errG3 e) 136 [D.r (Config.d c)] (· = checkD e c):=by
 refine PC.of (N:=17) Tryz.func136 rfl rfl (Nat.le_of_ble_eq_true rfl) ?_
 refine PW.a [1] 1 (PW.seq (PW.w 1 [1,5] 1 (PL.gc (d:=rangeD e (outI c)) (A:=[]) (fun _=>(bounds_checkRanges_pc e hA c hp0 hl0).eq (rangesD_out hg ho)) (PL.n 1 [1,3] 1 (PW.a [1,3,8] 1 ?_)))))
 refine PW.cd true (fun hz0 => ?_) (fun hz0=>by cases hz0)
 refine PW.t [2] 1 (rq (rangeD e (outI c)) ?_)
 unfold checkD condI
 rw [if_pos hg,if_pos ho,condD_some ho]
theorem bounds_check_times_pc (e:Nat→Addr) (hA:Apart e) (c:Config) (hp0:c.parts.length<1000000) (hl0:c.links.length<1000000) (hg:(checkP c).1=0) (h:outI c=0) (ht:¬ timesI c=0):PC Tryz.prog (errG3 e) 136 [D.r (Config.d c)] (· = checkD e c):=by
 refine PC.of (N:=17) Tryz.func136 rfl rfl (Nat.le_of_ble_eq_true rfl) ?_
 refine PW.a [1] 1 (PW.seq (PW.w 1 [1,5] 1 (PL.gc (d:=D.v (.nilIface)) (A:=[]) (fun _=>(bounds_checkRanges_pc e hA c hp0 hl0).eq (rangesD_nil hg h)) (PL.n 1 [1,3] 1 (PW.a [1,3,8] 1 (PW.cd false (fun hz0=>by cases hz0) (fun hz0 => ?_)))))))
 refine PW.k (PW.seq (PW.w 1 [1,10] 1 (PL.gc (d:=rangeD e (timesI c)) (A:=[]) (fun _=>(bounds_checkTimes_pc e hA c hg hp0 hl0 h).eq (condD_some ht)) (PL.n 1 [1,4] 1 (PW.a [1,4,13] 1 ?_)))))
 refine PW.cd true (fun hz1 => ?_) (fun hz1=>by cases hz1)
 refine PW.t [2] 1 (rq (rangeD e (timesI c)) ?_)
 unfold checkD condI
 rw [if_pos hg,if_neg (fun x=>x h),if_pos ht,condD_some ht]
theorem bounds_check_waits_pc (e:Nat→Addr) (hA:Apart e) (c:Config) (hp0:c.parts.length<1000000) (hl0:c.links.length<1000000) (hg:(checkP c).1=0) (h:outI c=0) (ht:timesI c=0) (hw:¬ waitsI c=0):PC Tryz.prog (errG3 e) 136 [D.r (Config.d c)] (· = checkD e c):=by
 refine PC.of (N:=17) Tryz.func136 rfl rfl (Nat.le_of_ble_eq_true rfl) ?_
 refine PW.a [1] 1 (PW.seq (PW.w 1 [1,5] 1 (PL.gc (d:=D.v (.nilIface)) (A:=[]) (fun _=>(bounds_checkRanges_pc e hA c hp0 hl0).eq (rangesD_nil hg h)) (PL.n 1 [1,3] 1 (PW.a [1,3,8] 1 (PW.cd false (fun hz0=>by cases hz0) (fun hz0 => ?_)))))))
 refine PW.k (PW.seq (PW.w 1 [1,10] 1 (PL.gc (d:=D.v (.nilIface)) (A:=[]) (fun _=>(bounds_checkTimes_pc e hA c hg hp0 hl0 h).eq (condD_zero ht)) (PL.n 1 [1,4] 1 (PW.a [1,4,13] 1 (PW.cd false (fun hz1=>by cases hz1) (fun hz1 => ?_)))))))
 refine PW.k (PW.w 1 [15] 1 (PL.gc (d:=rangeD e (waitsI c)) (A:=[]) (fun _=>(bounds_checkWaits_pc e hA c hg hp0 hl0 h).eq (condD_some hw)) (PL.n 1 [2] 1 (PW.ret (rq (rangeD e (waitsI c)) ?_)))))
 unfold checkD condI
 rw [if_pos hg,if_neg (fun x=>x h),if_neg (fun x=>x ht),condD_some hw]
theorem bounds_check_nil_pc (e:Nat→Addr) (hA:Apart e) (c:Config) (hp0:c.parts.length<1000000) (hl0:c.links.length<1000000) (hg:(checkP c).1=0) (h:outI c=0) (ht:timesI c=0) (hw:waitsI c=0):PC Tryz.prog (errG3 e) 136 [D.r (Config.d c)] (· = checkD e c):=by
 refine PC.of (N:=17) Tryz.func136 rfl rfl (Nat.le_of_ble_eq_true rfl) ?_
 refine PW.a [1] 1 (PW.seq (PW.w 1 [1,5] 1 (PL.gc (d:=D.v (.nilIface)) (A:=[]) (fun _=>(bounds_checkRanges_pc e hA c hp0 hl0).eq (rangesD_nil hg h)) (PL.n 1 [1,3] 1 (PW.a [1,3,8] 1 (PW.cd false (fun hz0=>by cases hz0) (fun hz0 => ?_)))))))
 refine PW.k (PW.seq (PW.w 1 [1,10] 1 (PL.gc (d:=D.v (.nilIface)) (A:=[]) (fun _=>(bounds_checkTimes_pc e hA c hg hp0 hl0 h).eq (condD_zero ht)) (PL.n 1 [1,4] 1 (PW.a [1,4,13] 1 (PW.cd false (fun hz1=>by cases hz1) (fun hz1 => ?_)))))))
 refine PW.k (PW.w 1 [15] 1 (PL.gc (d:=D.v (.nilIface)) (A:=[]) (fun _=>(bounds_checkWaits_pc e hA c hg hp0 hl0 h).eq (condD_zero hw)) (PL.n 1 [2] 1 (PW.ret (rq (D.v (.nilIface)) ?_)))))
 unfold checkD condI
 rw [if_pos hg,if_neg (fun x=>x h),if_neg (fun x=>x ht),condD_zero hw]
theorem bounds_check_pc (e:Nat→Addr) (hA:Apart e) (c:Config) (hp0:c.parts.length<1000000) (hl0:c.links.length<1000000):PC Tryz.prog (errG3 e) 136 [D.r (Config.d c)] (· = checkD e c):=by
 by_cases hg:(checkP c).1=0
 ·by_cases h:outI c=0
  ·by_cases ht:timesI c=0
   ·by_cases hw:waitsI c=0
    ·exact bounds_check_nil_pc e hA c hp0 hl0 hg h ht hw
    ·exact bounds_check_waits_pc e hA c hp0 hl0 hg h ht hw
   ·exact bounds_check_times_pc e hA c hp0 hl0 hg h ht
  ·exact bounds_check_out_pc e hA c hp0 hl0 hg h
 ·exact bounds_check_struct_pc e hA c hp0 hl0 hg
theorem checkD_struct {e:Nat→Addr} {c:Config} (hq:¬ (checkP c).1=0):checkD e c=structD (checkP c).1 (checkP c).2:=if_neg hq
theorem checkD_range {e:Nat→Addr} {c:Config} (hg:(checkP c).1=0) (hk:¬ condI c=0):checkD e c=rangeD e (condI c):=by unfold checkD; rw [if_pos hg,condD_some hk]
theorem checkD_nil {e:Nat→Addr} {c:Config} (hg:(checkP c).1=0) (hk:condI c=0):checkD e c=D.v .nilIface:=by unfold checkD; rw [if_pos hg,condD_zero hk]
theorem bounds_Fits_struct_pc (e:Nat→Addr) (hA:Apart e) (c:Config) (hp0:c.parts.length<1000000) (hl0:c.links.length<1000000) (hq:¬ (checkP c).1=0):PC Tryz.prog (errG3 e) 105 [D.r (Config.d c)] (· = D.t [I (fitsP c).1,I (fitsP c).2]):=by
 refine PC.of (N:=11) Tryz.func105 rfl rfl (Nat.le_of_ble_eq_true rfl) ?_
 refine PW.a [1] 1 (PW.w 1 [5] 1 (PL.gc (d:=structD (checkP c).1 (checkP c).2) (A:=[]) (fun _=>(bounds_check_pc e hA c hp0 hl0).eq (checkD_struct hq)) (PL.n 1 [4] 1 (PW.w 1 [4,7] 1 (PL.gc (A:=[]) (fun _=>bounds_number_struct_pc e (checkP c).1 (checkP c).2) (PL.a 1 [8,9] 1 (PL.gc (ds0:=[structD (checkP c).1 (checkP c).2]) (A:=[]) (fun _=>bounds_place_fault_pc e _ (checkP c).2) ?_)))))))
 refine PL.n 2 [2,3] 1 (PW.ret (rq (D.t [I ((checkP c).1),I ((checkP c).2)]) ?_))
 unfold fitsP
 rw [if_neg hq]
theorem bounds_Fits_range_pc (e:Nat→Addr) (hA:Apart e) (c:Config) (hp0:c.parts.length<1000000) (hl0:c.links.length<1000000) (hg:(checkP c).1=0) (hk:¬ condI c=0):PC Tryz.prog (errG3 e) 105 [D.r (Config.d c)] (· = D.t [I (fitsP c).1,I (fitsP c).2]):=by
 refine PC.of (N:=11) Tryz.func105 rfl rfl (Nat.le_of_ble_eq_true rfl) ?_
 refine PW.a [1] 1 (PW.w 1 [5] 1 (PL.gc (d:=rangeD e (condI c)) (A:=[]) (fun _=>(bounds_check_pc e hA c hp0 hl0).eq (checkD_range hg hk)) (PL.n 1 [4] 1 (PW.w 1 [4,7] 1 (PL.gc (A:=[]) (fun _=>bounds_number_range_pc e (condI c)) (PL.a 1 [8,9] 1 (PL.gc (ds0:=[rangeD e (condI c)]) (A:=[]) (fun _=>bounds_place_fault_pc e _ (condI c)) ?_)))))))
 refine PL.n 2 [2,3] 1 (PW.ret (rq (D.t [I 14,I (condI c)]) ?_))
 unfold fitsP
 rw [if_pos hg,if_neg hk]
theorem bounds_Fits_nil_pc (e:Nat→Addr) (hA:Apart e) (c:Config) (hp0:c.parts.length<1000000) (hl0:c.links.length<1000000) (hg:(checkP c).1=0) (hk:condI c=0):PC Tryz.prog (errG3 e) 105 [D.r (Config.d c)] (· = D.t [I (fitsP c).1,I (fitsP c).2]):=by
 refine PC.of (N:=11) Tryz.func105 rfl rfl (Nat.le_of_ble_eq_true rfl) ?_
 refine PW.a [1] 1 (PW.w 1 [5] 1 (PL.gc (d:=D.v (.nilIface)) (A:=[]) (fun _=>(bounds_check_pc e hA c hp0 hl0).eq (checkD_nil hg hk)) (PL.n 1 [4] 1 (PW.w 1 [4,7] 1 (PL.gc (A:=[]) (fun _=>bounds_number_nil_pc e) (PL.a 1 [8,9] 1 (PL.gc (G:=(errG3 e)) (A:=[]) (fun _=>PC.more (bounds_place_nil_pc)) ?_)))))))
 refine PL.n 2 [2,3] 1 (PW.ret (rq (D.t [I 0,I 0]) ?_))
 unfold fitsP
 rw [if_pos hg,if_pos hk]
theorem bounds_Fits_pc (e:Nat→Addr) (hA:Apart e) (c:Config) (hp0:c.parts.length<1000000) (hl0:c.links.length<1000000):PC Tryz.prog (errG3 e) 105 [D.r (Config.d c)] (· = D.t [I (fitsP c).1,I (fitsP c).2]):=by
 by_cases hg:(checkP c).1=0
 ·by_cases hk:condI c=0
  ·exact bounds_Fits_nil_pc e hA c hp0 hl0 hg hk
  ·exact bounds_Fits_range_pc e hA c hp0 hl0 hg hk
 ·exact bounds_Fits_struct_pc e hA c hp0 hl0 hg
def fitB (c:Config):Bool:=decide ((checkP c).1=0)&&decide (condI c=0)
theorem rangedB_iff (c:Config):rangedB c=true↔(checkP c).1=0∧outI c=0:=by
 rw [rangedB_true]
 unfold goodB
 rw [← check_same]
 simp only [Bool.and_eq_true,beq_iff_eq,isB_true]
 constructor
 ·rintro ⟨⟨h1, -⟩,h2⟩; exact ⟨h1,h2⟩
 ·rintro ⟨h1,h2⟩
  have:=parts_in h1
  exact ⟨⟨h1,by omega,by omega⟩,h2⟩
theorem rangesD_not {e:Nat→Addr} {c:Config} (h:rangedB c=false):∃ t d,rangesD e c=D.i t d:=by
 by_cases hg:(checkP c).1=0
 ·by_cases hk:outI c=0
  ·rw [(rangedB_iff c).2 ⟨hg,hk⟩] at h; cases h
  ·exact ⟨_,_,rangesD_out hg hk⟩
 ·exact ⟨_,_,rangesD_struct hg⟩
theorem rangesD_yes {e:Nat→Addr} {c:Config} (h:rangedB c=true):rangesD e c=D.v .nilIface:=rangesD_nil ((rangedB_iff c).1 h).1 ((rangedB_iff c).1 h).2
theorem Gone_yes (e:Nat→Addr) (hA:Apart e) (c:Config) (hp0:c.parts.length<1000000) (hl0:c.links.length<1000000) (hf:rangedB c=true):PC Tryz.prog (errG3 e) 49 [D.r (Config.d c)] (· = I (goneR c)):=by
 refine PC.of (N:=9) Tryz.func49 rfl rfl (Nat.le_of_ble_eq_true rfl) ?_
 refine PW.a [1] 1 (PW.seq (PW.w 1 [1,3] 1 (PL.gc (d:=D.v (.nilIface)) (A:=[]) (fun _=>(bounds_checkRanges_pc e hA c hp0 hl0).eq (rangesD_yes hf)) (PL.n 1 [1,5] 1 (PW.cd false (fun hz0=>by cases hz0) (fun hz0 => ?_))))))
 refine PW.k (PW.t [2] 1 (rq (I (IntKind.i64.wrap (c.ages+1))) ?_))
 have hR:=inR_of ((rangedB_iff c).1 hf).2
 have r4:=hR.ags
 unfold goneR
 rw [if_pos hf]
 exact congrArg I (by simp only [IntKind.wrap_i64]; omega)
theorem Gone_no (e:Nat→Addr) (hA:Apart e) (c:Config) (hp0:c.parts.length<1000000) (hl0:c.links.length<1000000) (hf:rangedB c=false) (t:TypeId) (d:D) (hd:rangesD e c=D.i t d):PC Tryz.prog (errG3 e) 49 [D.r (Config.d c)] (· = I (goneR c)):=by
 refine PC.of (N:=9) Tryz.func49 rfl rfl (Nat.le_of_ble_eq_true rfl) ?_
 refine PW.a [1] 1 (PW.seq (PW.w 1 [1,3] 1 (PL.gc (A:=[]) (fun _=>(bounds_checkRanges_pc e hA c hp0 hl0).eq hd) (PL.n 1 [1,5] 1 ?_))))
 refine PW.cd true (fun hz0 => ?_) (fun hz0=>by cases hz0)
 refine PW.t [2] 1 (rq (I 0) ?_)
 unfold goneR
 rw [hf]
 rfl
theorem bounds_Gone_pc (e:Nat→Addr) (hA:Apart e) (c:Config) (hp0:c.parts.length<1000000) (hl0:c.links.length<1000000):PC Tryz.prog (errG3 e) 49 [D.r (Config.d c)] (· = I (goneR c)):=by
 cases hf:rangedB c with
 | true=>exact Gone_yes e hA c hp0 hl0 hf
 | false =>
  obtain ⟨t,d,hd⟩:=rangesD_not (e:=e) hf
  exact Gone_no e hA c hp0 hl0 hf t d hd
end Go.Proofs.YtdomlccfjnkbjaaGreatDoor.Pl
