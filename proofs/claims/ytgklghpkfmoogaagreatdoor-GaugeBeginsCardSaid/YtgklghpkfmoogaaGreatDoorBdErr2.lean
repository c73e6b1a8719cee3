/- Package bounds' number and place. -/
import Derived.Test.YtgklghpkfmoogaaGreatDoorBdA
import Derived.Test.YtgklghpkfmoogaaGreatDoorBdErr
namespace Go.Proofs.YtgklghpkfmoogaaGreatDoor.Pl
open Go.RowKit Go.Proofs.YtgklghpkfmoogaaGreatDoor.Sm Go.Proofs.YtgklghpkfmoogaaGreatDoor.Dp
set_option maxHeartbeats 4000000
set_option maxRecDepth 100000
set_option linter.unusedVariables false
set_option linter.unusedSimpArgs false
theorem hT_of {e:Nat→Addr} {w:World} {ok:Nat→Prop} (h2:∀ x ∈ errG3 e,GlC w ok x):w.cell? ⟨8,0,none⟩=some (.iface 154 (.agg #[.pointer (some ⟨9,76,none⟩)]))∧ok 8:=by
 obtain ⟨ty,tok,_⟩:=h2 _ (errG3_type e)
 refine ⟨?_,tok⟩
 generalize hp:(⟨8,0,none⟩:Addr)=p at ty
 cases ty with
 | q vals hb hv hd =>
  have c0:=hv 0 (by simp)
  have d0:=hd 0 _ rfl
  generalize hx:vals 0=x0 at c0 d0
  cases d0 with
  | v _=>exact c0
theorem hR_of {e:Nat→Addr} {w:World} {ok:Nat→Prop} (h2:∀ x ∈ errG3 e,GlC w ok x):w.cell? ⟨0,0,none⟩=some (.iface 171 (.pointer (some (e 7))))∧ok 0:=by
 obtain ⟨ty,tok,_⟩:=h2 _ (errG3_range e)
 refine ⟨?_,tok⟩
 generalize hp:(⟨0,0,none⟩:Addr)=p at ty
 cases ty with
 | q vals hb hv hd =>
  have c0:=hv 0 (by simp)
  have d0:=hd 0 _ rfl
  generalize hx:vals 0=x0 at c0 d0
  cases d0 with
  | v _=>exact c0
theorem bounds_place_nil_pc:PC Tryz.prog [] 60 [D.v .nilIface] (· = I 0):=by
 intro κ w vs h1 h2 h3 h4
 match vs,h3 with
 | [v0],_ =>
  have r0:=h4 0 _ v0 rfl rfl
  cases r0 with
  | v _ =>
   refine (BdF.place_nil w).mono ?_
   rintro r w' ⟨rfl,hb⟩
   exact ⟨_,_,rfl,rfl,.v _,hb⟩
theorem bounds_place_fault_pc (e:Nat→Addr) (x:D) (at_:Int):PC Tryz.prog (errG3 e) 60 [D.i 91 (D.q [x,I at_] 0)] (· = I at_):=by
 intro κ w vs h1 h2 h3 h4
 match vs,h3 with
 | [v0],_ =>
  have r0:=h4 0 _ v0 rfl rfl
  obtain ⟨hT,tok⟩:=hT_of h2
  cases r0 with
  | i r0=>cases r0 with
   | q vals hb hv hd =>
    have c0:=hv 1 (by simp)
    have d0:=hd 1 _ rfl
    generalize hx:vals 1=x0 at c0 d0
    cases d0 with
    | v _ =>
     refine (BdF.place_fault _ _ at_ w hT (h1 _ tok) (h1 _ hb) c0).mono ?_
     rintro r w' ⟨rfl,hb⟩
     exact ⟨_,_,rfl,rfl,.v _,hb⟩
theorem bounds_number_nil_pc (e:Nat→Addr):PC Tryz.prog (errG3 e) 59 [D.v .nilIface] (· = I 0):=by
 intro κ w vs h1 h2 h3 h4
 match vs,h3 with
 | [v0],_ =>
  have r0:=h4 0 _ v0 rfl rfl
  obtain ⟨hR,rok⟩:=hR_of h2
  cases r0 with
  | v _ =>
   refine (BdS.number_nil _ w hR (h1 _ rok)).mono ?_
   rintro r w' ⟨rfl,hb⟩
   exact ⟨_,_,rfl,rfl,.v _,hb⟩
theorem bounds_number_range_pc (e:Nat→Addr) (k:Int):PC Tryz.prog (errG3 e) 59 [rangeD e k] (· = I 14):=by
 intro κ w vs h1 h2 h3 h4
 match vs,h3 with
 | [v0],_ =>
  have r0:=h4 0 _ v0 rfl rfl
  obtain ⟨hT,tok⟩:=hT_of h2
  obtain ⟨hR,rok⟩:=hR_of h2
  unfold rangeD at r0
  cases r0 with
  | i r0=>cases r0 with
   | q vals hb hv hd =>
    have c0:=hv 0 (by simp)
    have d0:=hd 0 _ rfl
    unfold sentD at d0
    generalize hx:vals 0=x0 at c0 d0
    cases d0 with
    | v _ =>
     refine (BdS.number_range _ _ (e 7) w hT (h1 _ tok) (h1 _ hb) c0 hR (h1 _ rok)).mono ?_
     rintro r w' ⟨rfl,hb⟩
     exact ⟨_,_,rfl,rfl,.v _,hb⟩
theorem bounds_number_struct_pc (e:Nat→Addr) (n at_:Int):PC Tryz.prog (errG3 e) 59 [structD n at_] (· = I n):=by
  intro κ w vs h1 h2 h3 h4
  match vs,h3 with
  | [v0],_ =>
    have r0:=h4 0 _ v0 rfl rfl
    obtain ⟨hT,tok⟩:=hT_of h2
    unfold structD at r0
    cases r0 with
    | i r0 => cases r0 with
      | q vals hb hv hd =>
        have c0:=hv 0 (by simp)
        have d0:=hd 0 _ rfl
        generalize hx:vals 0=x0 at c0 d0
        cases d0 with
        | i d0=>cases d0 with
          | q vals2 hb2 hv2 hd2 =>
            have c2:=hv2 0 (by simp)
            have d2:=hd2 0 _ rfl
            generalize hx2:vals2 0=x2 at c2 d2
            cases d2 with
            | v _ =>
              refine (BdS.number_structure _ _ _ _ n w hT (h1 _ tok) (h1 _ hb) c0 (h1 _ hb2) (by simpa using c2)).mono ?_
              rintro r w' ⟨rfl,hb⟩
              exact ⟨_,_,rfl,rfl,.v _,hb⟩
def condI (c:Config):Int:=if ¬ outI c=0 then outI c else if ¬ timesI c=0 then timesI c else waitsI c
def checkD (e:Nat→Addr) (c:Config):D:=if (checkP c).1=0 then condD e (condI c) else structD (checkP c).1 (checkP c).2
def fitsP (c:Config):Int×Int:=if (checkP c).1=0 then (if condI c=0 then (0,0) else (14,condI c)) else checkP c
end Go.Proofs.YtgklghpkfmoogaaGreatDoor.Pl
