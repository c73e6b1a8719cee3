/- Lists as arguments of a law. -/
import Derived.Test.YtdomlccfjnkbjaaPlArg
import Derived.Test.YtdomlccfjnkbjaaGdArg
import Derived.Test.YtdomlccfjnkbjaaDpOb
import Derived.Test.YtdomlccfjnkbjaaDpC
namespace Go.Proofs.Ytdomlccfjnkbjaa.Pl
open Go.ChangeShapes Go.WideShapes Go.ChangeAt Go.RowKit Go.Proofs.Ytdomlccfjnkbjaa.Sm Go.Proofs.Ytdomlccfjnkbjaa.Dp
set_option maxHeartbeats 4000000
set_option maxRecDepth 100000
set_option linter.unusedVariables false
set_option linter.unusedSimpArgs false
theorem Fit.listC {α : Type} [Inhabited α] {e:List Sh} {enc : α → List D} {Ok : α → Prop} {d:D} (h:Fit (.sl e) d) (hel:∀ ds,Fits e ds→∃ x,((enc x).length=e.length∧(enc x).all D.one=true∧∀ (j:Nat) (d':D),(enc x)[j]? = some d'→∃ d,ds[j]? = some d∧∀ (w:World) (ok:Nat→Prop) (v:Value),RepC w ok d v→RepC w ok d' v)∧Ok x):∃ l:List α,(∀ x ∈ l,Ok x)∧l.length≤maxLen∧∀ (w:World) (ok:Nat→Prop) (v:Value),RepC w ok d v→RepC w ok (sl' e.length enc l) v:=by
 cases h with
 | @sl e n f hn hl h =>
  have each:∀ i,i<n→∃ x,((enc x).length=e.length∧(enc x).all D.one=true∧∀ (j:Nat) (d':D),(enc x)[j]? = some d'→∃ d,(f i)[j]? = some d∧∀ (w:World) (ok:Nat→Prop) (v:Value),RepC w ok d v→RepC w ok d' v)∧Ok x:=fun i hi=>hel (f i) ⟨hl i hi,fun j s d h1 h2=>h i j s d hi h1 h2⟩
  obtain ⟨y,hy⟩:=Deep.choose_lt each
  refine ⟨(List.range n).map y,fun x hx => ?_,by simpa using hn,fun w ok v hr => ?_⟩
  ·obtain ⟨i,hi,rfl⟩:=List.mem_map.1 hx
   exact (hy i (List.mem_range.1 hi)).2
  ·unfold sl'
   have hlen:((List.range n).map y).length=n:=by simp
   rw [hlen]
   refine RepC.seqw hr fun i hi => ?_
   have e1:((List.range n).map y).getD i default=y i:=by simp [List.getD_eq_getElem?_getD,hi]
   rw [e1]
   exact (hy i hi).1
theorem byte_of (ds:List D) (h:Fits [.int .u8] ds):∃ x:UInt8,ds=u8d x∧True:=by
 have hl:=h.len
 match ds,hl with
 | [d0],_ =>
  have hf:=h.fit 0 _ d0 rfl rfl
  cases hf with
  | @int k n hw =>
   have hb:=bounds_u8 hw
   refine ⟨UInt8.ofNat n.toNat,?_,trivial⟩
   have e:((UInt8.ofNat n.toNat).toNat:Int)=n:=by
    rw [UInt8.toNat_ofNat']
    omega
   unfold u8d
   rw [e]
theorem Fit.bytes {d:D} (h:Fit (.sl [.int .u8]) d):∃ l:List UInt8,l.length≤maxLen∧∀ (w:World) (ok:Nat→Prop) (v:Value),RepC w ok d v→RepC w ok (bytesD l) v:=by
 obtain ⟨l,_,h2,h3⟩:=Fit.list (enc:=u8d) (Ok:=fun _=>True) h byte_of
 exact ⟨l,h2,h3⟩
theorem Fit.intsL {d:D} (h:Fit (.sl [.int .i64]) d):∃ l:List Int,(∀ x ∈ l,Is64 x)∧l.length≤maxLen∧∀ (w:World) (ok:Nat→Prop) (v:Value),RepC w ok d v→RepC w ok (sl' 1 (fun x=>[I x]) l) v :=
 Fit.list (enc:=fun x=>[I x]) (Ok:=Is64) h int_of
section
variable {H:Type} {enc:TypeId×Value→H} {W:World} {a:Option Addr} {len cap:Nat} {d:DataW H} {p:List MemPlace}
theorem slice_came {t:TypeId} {e:List Sh} (hs:shOf Try.prog 8 t=some [.sl e]) (h:DataW.Trod enc Try.prog W 0 (fun _=>true) true t (.slice a len cap) d p):∃ d0,Fit (.sl e) d0∧RepC W (fun g=>g<W.heap.size) d0 (.slice a len cap):=by
 obtain ⟨fuel,hf⟩:=h
 obtain ⟨ds,hc⟩:=trod_came 8 _ _ fuel _ _ hs hf
 have hl:=hc.fits.len
 match ds,hl with
 | [d0],_=>exact ⟨d0,hc.fits.fit 0 _ d0 rfl rfl,hc.rep 0 d0 _ rfl rfl⟩
def IntsV (w:World) (a:Option Addr) (len cap:Nat) (l:List Int):Prop:=RepC w (fun g=>g<w.heap.size) (sl' 1 (fun x=>[I x]) l) (.slice a len cap)∧l.length≤maxLen
theorem longs_of_trod (h:DataW.Trod enc Try.prog W 0 (fun _=>true) true 22 (.slice a len cap) d p):∃ l,IntsV W a len cap l:=by
 obtain ⟨d0,h1,h2⟩:=slice_came (e:=[.int .i64]) kR h
 obtain ⟨l,_,h3,h4⟩:=Fit.intsL h1
 exact ⟨l,h4 _ _ _ h2,h3⟩
end
end Go.Proofs.Ytdomlccfjnkbjaa.Pl
