/- Deep reckoning: an array of numbers as an argument of a law. No function of the program in it. -/
import Derived.Test.YtdomlccfjnkbjaaDpC
namespace Go.Proofs.Ytdomlccfjnkbjaa.Dp
open Go.ChangeShapes Go.WideShapes Go.ChangeAt Go.RowKit Go.Proofs.Ytdomlccfjnkbjaa.Sm
set_option maxHeartbeats 1000000
set_option linter.unusedVariables false
theorem okWide_array {P:Program} {w:World} {r:Reach} {base:Nat} {t e:TypeId} {n:Nat} {v:Value} (ht:P.underlying t=some (.array n e)) (h:Value.okWide P w r base t v):∃ cs,v = .agg cs∧cs.size=P.cellsOf t:=by
 simp only [Value.okWide,ht] at h
 obtain ⟨cs,h1,h2,_⟩:=h
 exact ⟨cs,h1,h2⟩
def ArrV (k:IntKind) (n:Nat) (v:Value) (l:List Int):Prop:=v = .agg (l.map fun x=>Value.int k x).toArray∧l.length=n∧∀ x ∈ l,(Lit.int k x).wf=true
theorem arr_of_trod {P:Program} {H:Type} {enc:TypeId×Value→H} {W:World} {r:Reach} {b0:Nat} {v:Value} {d:DataW H} {p:List MemPlace} {t e:TypeId} {k:IntKind} {n:Nat} (hu:P.underlying t=some (.array n e)) (hs:shOf P 5 t=some (List.replicate n (.int k))) (hv:Value.okWide P W r b0 t v) (h:DataW.Trod enc P W 0 (fun _=>true) true t v d p):∃ l,ArrV k n v l:=by
 obtain ⟨cs,rfl,hsz⟩:=okWide_array hu hv
 obtain ⟨l⟩:=cs
 obtain ⟨fuel,hf⟩:=h
 obtain ⟨ds,hc⟩:=trod_came 5 _ _ fuel _ _ hs hf
 have hl:ds.length=n:=by simpa using hc.fits.len
 have hcl:l.length=n:=by rw [← hl]; exact hc.len
 have each:∀ i,i<n→∃ x:Int,l[i]? = some (.int k x)∧(Lit.int k x).wf=true:=by
  intro i hi
  have hd:ds[i]? = some ds[i]:=List.getElem?_eq_getElem oM
  have hv:l[i]? = some l[i]:=List.getElem?_eq_getElem oM
  have hft:=hc.fits.fit i (.int k) _ (by simp [hi]) hd
  have hr:=hc.rep i _ _ hd hv
  generalize ds[i]=dd at hft hr
  generalize l[i]=ll at hv hr
  cases hft with
  | int hw =>
   cases hr
   exact ⟨_,hv,hw⟩
 obtain ⟨y,hy⟩:=Deep.choose_lt each
 refine ⟨(List.range n).map y,?_,by simp,fun x hx => ?_⟩
 ·congr 2
  apply List.ext_getElem?
  intro i
  rcases Nat.lt_or_ge i n with hi|hi
  ·rw [(hy i hi).1]
   simp [hi]
  ·rw [List.getElem?_eq_none oM,List.getElem?_eq_none (by simpa using hi)]
 ·obtain ⟨i,hi,rfl⟩:=List.mem_map.1 hx
  exact (hy i (List.mem_range.1 hi)).2
def PairV (k:IntKind) (v:Value) (x:Int×Int):Prop:=v = .agg #[.int k x.1,.int k x.2]∧(Lit.int k x.1).wf=true∧(Lit.int k x.2).wf=true
theorem pair_of_trod {P:Program} {H:Type} {enc:TypeId×Value→H} {W:World} {r:Reach} {b0:Nat} {v:Value} {d:DataW H} {p:List MemPlace} {t e:TypeId} {k:IntKind} (hu:P.underlying t=some (.array 2 e)) (hs:shOf P 5 t=some [.int k,.int k]) (hv:Value.okWide P W r b0 t v) (h:DataW.Trod enc P W 0 (fun _=>true) true t v d p):∃ x,PairV k v x:=by
 obtain ⟨l,h1,h2,h3⟩:=arr_of_trod (n:=2) hu hs hv h
 match l,h2 with
 | [a,b],_=>exact ⟨(a,b),h1,h3 a (by simp),h3 b (by simp)⟩
end Go.Proofs.Ytdomlccfjnkbjaa.Dp
