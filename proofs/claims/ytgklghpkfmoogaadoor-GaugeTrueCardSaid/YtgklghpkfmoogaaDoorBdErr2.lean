/- Package bounds' number and place. -/
import Derived.Test.YtgklghpkfmoogaaDoorBdA
import Derived.Test.YtgklghpkfmoogaaDoorBdErr
namespace Go.Proofs.YtgklghpkfmoogaaDoor.Pl
open Go.RowKit Go.Proofs.YtgklghpkfmoogaaDoor.Sm Go.Proofs.YtgklghpkfmoogaaDoor.Dp
set_option maxHeartbeats 4000000
set_option maxRecDepth 100000
set_option linter.unusedVariables false
set_option linter.unusedSimpArgs false
theorem hT_of {e:Nat→Addr} {w:World} {ok:Nat→Prop} (h2:∀ x ∈ errG3 e,GlC w ok x):w.cell? ⟨8,0,none⟩=some (.iface 113 (.agg #[.pointer (some ⟨9,53,none⟩)]))∧ok 8:=by
 obtain ⟨ty,tok,_⟩:=h2 _ (errG3_type e)
 refine ⟨?_,tok⟩
 generalize hp:(⟨8,0,none⟩:Addr)=p at ty
 cases ty with
 | q vals hb hv hd =>
  have c0:=hv 0 (by simp)
  have d0:=hd 0 _ rfl
  generalize hx:vals 0=x0 at c0 d0
  cases d0 with
  | v _=>exact c0
theorem hR_of {e:Nat→Addr} {w:World} {ok:Nat→Prop} (h2:∀ x ∈ errG3 e,GlC w ok x):w.cell? ⟨0,0,none⟩=some (.iface 128 (.pointer (some (e 7))))∧ok 0:=by
 obtain ⟨ty,tok,_⟩:=h2 _ (errG3_range e)
 refine ⟨?_,tok⟩
 generalize hp:(⟨0,0,none⟩:Addr)=p at ty
 cases ty with
 | q vals hb hv hd =>
  have c0:=hv 0 (by simp)
  have d0:=hd 0 _ rfl
  generalize hx:vals 0=x0 at c0 d0
  cases d0 with
  | v _=>exact c0
def condI (c:Config):Int:=if ¬ outI c=0 then outI c else if ¬ timesI c=0 then timesI c else waitsI c
def checkD (e:Nat→Addr) (c:Config):D:=if (checkP c).1=0 then condD e (condI c) else structD (checkP c).1 (checkP c).2
def fitsP (c:Config):Int×Int:=if (checkP c).1=0 then (if condI c=0 then (0,0) else (14,condI c)) else checkP c
end Go.Proofs.YtgklghpkfmoogaaDoor.Pl
