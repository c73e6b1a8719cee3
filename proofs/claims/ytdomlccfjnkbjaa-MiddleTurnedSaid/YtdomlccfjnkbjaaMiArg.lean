/- Lists of small numbers as arguments of a law. -/
import Derived.Test.YtdomlccfjnkbjaaLsArg
import Derived.Test.YtdomlccfjnkbjaaDpPair
namespace Go.Proofs.Ytdomlccfjnkbjaa.Pl
open Go.ChangeShapes Go.WideShapes Go.ChangeAt Go.RowKit Go.Proofs.Ytdomlccfjnkbjaa.Sm Go.Proofs.Ytdomlccfjnkbjaa.Dp
set_option maxHeartbeats 4000000
set_option maxRecDepth 100000
set_option linter.unusedVariables false
set_option linter.unusedSimpArgs false
theorem intK_of {k:IntKind} {lo hi:Int} (hb:∀ x,(Lit.int k x).wf=true→lo≤x∧x≤hi) (ds:List D) (h:Fits [.int k] ds):∃ x:Int,ds=[D.v (.int k x)]∧(lo≤x∧x≤hi):=by
 have hl:=h.len
 match ds,hl with
 | [d0],_ =>
  have hf:=h.fit 0 _ d0 rfl rfl
  cases hf with
  | @int k n hw=>exact ⟨n,rfl,hb n hw⟩
theorem Fit.intsK {k:IntKind} {lo hi:Int} {d:D} (hb:∀ x,(Lit.int k x).wf=true→lo≤x∧x≤hi) (h:Fit (.sl [.int k]) d):∃ l:List Int,(∀ x ∈ l,lo≤x∧x≤hi)∧l.length≤maxLen∧∀ (w:World) (ok:Nat→Prop) (v:Value),RepC w ok d v→RepC w ok (sl' 1 (fun x=>[D.v (.int k x)]) l) v:=by
 exact Fit.list (enc:=fun x=>[D.v (.int k x)]) (Ok:=fun x=>lo≤x∧x≤hi) h (intK_of hb)
def IntsK (k:IntKind) (lo hi:Int) (w:World) (a:Option Addr) (len cap:Nat) (l:List Int):Prop:=RepC w (fun g=>g<w.heap.size) (sl' 1 (fun x=>[D.v (.int k x)]) l) (.slice a len cap)∧l.length≤maxLen∧∀ t ∈ l,lo≤t∧t≤hi
def TwoV (w:World) (v:Value) (x:List Int×List Int):Prop:=RepC w (fun g=>g<w.heap.size) (D.r [sl' 1 (fun x=>[D.v (.int .i32 x)]) x.1,sl' 1 (fun x=>[D.v (.int .i32 x)]) x.2]) v∧(∀ t ∈ x.1, -2147483648≤t∧t≤2147483647)∧∀ t ∈ x.2, -2147483648≤t∧t≤2147483647
section
variable {H:Type} {enc:TypeId×Value→H} {W:World} {a:Option Addr} {len cap:Nat} {d:DataW H} {p:List MemPlace}
theorem intsK_of {k:IntKind} {lo hi:Int} {t:TypeId} (hb:∀ x,(Lit.int k x).wf=true→lo≤x∧x≤hi) (hs:shOf Try.prog 8 t=some [.sl [.int k]]) (h:DataW.Trod enc Try.prog W 0 (fun _=>true) true t (.slice a len cap) d p):∃ l,IntsK k lo hi W a len cap l:=by
 obtain ⟨d0,h1,h2⟩:=slice_came (e:=[.int k]) hs h
 obtain ⟨l,h5,h3,h4⟩:=Fit.intsK hb h1
 exact ⟨l,h4 _ _ _ h2,h3,h5⟩
theorem two_of_trod {r:Reach} {b0:Nat} {v:Value} (hv:Value.okWide Try.prog W r b0 37 v) (h:DataW.Trod enc Try.prog W 0 (fun _=>true) true 37 v d p):∃ x,TwoV W v x:=by
 obtain ⟨cs,rfl,hsz⟩:=okWide_array Try.underlying37 hv
 obtain ⟨l⟩:=cs
 obtain ⟨fuel,hf⟩:=h
 obtain ⟨ds,hc⟩:=trod_came 8 _ _ fuel _ _ (show shOf Try.prog 8 37=some [.sl [.int .i32],.sl [.int .i32]] by kernel_rfl) hf
 have hl:=hc.fits.len
 have hcl:=hc.len
 match ds,hl,l,hcl with
 | [d0,d1],_,[v0,v1],_ =>
  obtain ⟨l0,h5,_,h4⟩:=Fit.intsK (fun x=>bounds_i32) (hc.fits.fit 0 _ d0 rfl rfl)
  obtain ⟨l1,k5,_,k4⟩:=Fit.intsK (fun x=>bounds_i32) (hc.fits.fit 1 _ d1 rfl rfl)
  refine ⟨(l0,l1),.r (vs:=[v0,v1]) rfl fun j d v e1 e2 => ?_,h5,k5⟩
  match j,e1,e2 with
  | 0,e1,e2=>cases e1; cases e2; exact h4 _ _ _ (hc.rep 0 d0 v0 rfl rfl)
  | 1,e1,e2=>cases e1; cases e2; exact k4 _ _ _ (hc.rep 1 d1 v1 rfl rfl)
end
theorem four_of {q:Int} (h:0≤q∧q≤255):∃ f:Nat,(IntKind.i64.wrap q).tmod 4=(f:Int)∧f≤3:=by
 have h1:(IntKind.i64.wrap q).tmod 4=q%4:=by rw [Ev.wrap_i64 oM oM,Int.tmod_eq_emod_of_nonneg h.1]
 exact ⟨(q%4).toNat,by rw [h1]; omega,by omega⟩
end Go.Proofs.Ytdomlccfjnkbjaa.Pl
