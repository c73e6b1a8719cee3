/- Chapter 11: lists of what is said, and frames, as arguments of a law. -/
import Derived.Test.YtdomlccfjnkbjaaGreatDoorAiSeven
import Derived.Test.YtdomlccfjnkbjaaGreatDoorDpCut
import Derived.Test.YtdomlccfjnkbjaaGreatDoorGdOne
import Derived.Test.YtdomlccfjnkbjaaGreatDoorDpC
import Derived.Test.YtdomlccfjnkbjaaGreatDoorFrAlive
import Derived.Test.YtdomlccfjnkbjaaGreatDoorSmA
namespace Go.Proofs.YtdomlccfjnkbjaaGreatDoor.Pl
open Go.RowKit Go.Proofs.YtdomlccfjnkbjaaGreatDoor.Sm Go.Proofs.YtdomlccfjnkbjaaGreatDoor.Dp
open Go.Proofs.YtdomlccfjnkbjaaGreatDoor.Fr (bare frD frC decX errOf frOf noOf atOf WfA wfA_dec bytesOf mayB)
set_option maxHeartbeats 4000000
set_option maxRecDepth 100000
set_option linter.unusedVariables false
set_option linter.unusedSimpArgs false
section
variable {c:Config} {part:Int} {x:Guard} {ppm:Int} {says:List Say} {lost:List Int}
def below (n:Nat) (s:Say):Bool:=decide (0≤s.slot)&&decide (s.slot<(n:Int))
end
section
variable {c:Config} {part:Int} {x:Guard} {ppm:Int} {says says':List Say} {lost lost':List Int}
end
end Go.Proofs.YtdomlccfjnkbjaaGreatDoor.Pl
namespace Go.Proofs.YtdomlccfjnkbjaaGreatDoor.Pl
open Go.ChangeShapes Go.WideShapes Go.ChangeAt Go.RowKit Go.Proofs.YtdomlccfjnkbjaaGreatDoor.Sm Go.Proofs.YtdomlccfjnkbjaaGreatDoor.Dp
set_option maxHeartbeats 4000000
set_option maxRecDepth 100000
set_option linter.unusedVariables false
set_option linter.unusedSimpArgs false
theorem Fit.listC {α : Type} [Inhabited α] {e:List Sh} {enc : α → List D} {Ok : α → Prop} {d:D} (h:Fit (.sl e) d) (hel:∀ ds,Fits e ds→∃ x,((enc x).length=e.length∧(enc x).all D.one=true∧∀ (j:Nat) (d':D),(enc x)[j]? = some d'→∃ d,ds[j]? = some d∧∀ (w:World) (ok:Nat→Prop) (v:Value),RepC w ok d v→RepC w ok d' v)∧Ok x):∃ l:List α,(∀ x ∈ l,Ok x)∧l.length≤maxLen∧∀ (w:World) (ok:Nat→Prop) (v:Value),RepC w ok d v→RepC w ok (sl' e.length enc l) v:=by
 cases h with
 | @sl e n f hn hl h =>
  have each:∀ i,i<n→∃ x,((enc x).length=e.length∧(enc x).all D.one=true∧∀ (j:Nat) (d':D),(enc x)[j]? = some d'→∃ d,(f i)[j]? = some d∧∀ (w:World) (ok:Nat→Prop) (v:Value),RepC w ok d v→RepC w ok d' v)∧Ok x:=fun i hi=>hel (f i) ⟨hl i hi,fun j s d h1 h2=>h i j s d hi h1 h2⟩
  obtain ⟨y,hy⟩:=Deep.choose_lt each
  refine ⟨(List.range n).map y,fun x hx => ?_,by simpa using hn,fun w ok v hr => ?_⟩
  ·obtain ⟨i,hi,rfl⟩:=List.mem_map.1 hx
   exact (hy i (List.mem_range.1 hi)).2
  ·unfold sl'
   have hlen:((List.range n).map y).length=n:=by simp
   rw [hlen]
   refine RepC.seqw hr fun i hi => ?_
   have e1:((List.range n).map y).getD i default=y i:=by simp [List.getD_eq_getElem?_getD,hi]
   rw [e1]
   exact (hy i hi).1
theorem byte_of (ds:List D) (h:Fits [.int .u8] ds):∃ x:UInt8,ds=u8d x∧True:=by
 have hl:=h.len
 match ds,hl with
 | [d0],_ =>
  have hf:=h.fit 0 _ d0 rfl rfl
  cases hf with
  | @int k n hw =>
   have hb:=bounds_u8 hw
   refine ⟨UInt8.ofNat n.toNat,?_,trivial⟩
   have e:((UInt8.ofNat n.toNat).toNat:Int)=n:=by
    rw [UInt8.toNat_ofNat']
    omega
   unfold u8d
   rw [e]
theorem Fit.bytes {d:D} (h:Fit (.sl [.int .u8]) d):∃ l:List UInt8,l.length≤maxLen∧∀ (w:World) (ok:Nat→Prop) (v:Value),RepC w ok d v→RepC w ok (bytesD l) v:=by
 obtain ⟨l,_,h2,h3⟩:=Fit.list (enc:=u8d) (Ok:=fun _=>True) h byte_of
 exact ⟨l,h2,h3⟩
theorem Fit.intsL {d:D} (h:Fit (.sl [.int .i64]) d):∃ l:List Int,(∀ x ∈ l,Is64 x)∧l.length≤maxLen∧∀ (w:World) (ok:Nat→Prop) (v:Value),RepC w ok d v→RepC w ok (sl' 1 (fun x=>[I x]) l) v :=
 Fit.list (enc:=fun x=>[I x]) (Ok:=Is64) h int_of
section
variable {H:Type} {enc:TypeId×Value→H} {W:World} {a:Option Addr} {len cap:Nat} {d:DataW H} {p:List MemPlace}
theorem slice_came {t:TypeId} {e:List Sh} (hs:shOf Tryz.prog 8 t=some [.sl e]) (h:DataW.Trod enc Tryz.prog W 0 (fun _=>true) true t (.slice a len cap) d p):∃ d0,Fit (.sl e) d0∧RepC W (fun g=>g<W.heap.size) d0 (.slice a len cap):=by
 obtain ⟨fuel,hf⟩:=h
 obtain ⟨ds,hc⟩:=trod_came 8 _ _ fuel _ _ hs hf
 have hl:=hc.fits.len
 match ds,hl with
 | [d0],_=>exact ⟨d0,hc.fits.fit 0 _ d0 rfl rfl,hc.rep 0 d0 _ rfl rfl⟩
def IntsV (w:World) (a:Option Addr) (len cap:Nat) (l:List Int):Prop:=RepC w (fun g=>g<w.heap.size) (sl' 1 (fun x=>[I x]) l) (.slice a len cap)∧l.length≤maxLen
theorem ints_of_trod (h:DataW.Trod enc Tryz.prog W 0 (fun _=>true) true 22 (.slice a len cap) d p):∃ l,IntsV W a len cap l:=by
 obtain ⟨d0,h1,h2⟩:=slice_came (e:=[.int .i64]) kR h
 obtain ⟨l,_,h3,h4⟩:=Fit.intsL h1
 exact ⟨l,h4 _ _ _ h2,h3⟩
end
end Go.Proofs.YtdomlccfjnkbjaaGreatDoor.Pl
namespace Go.Proofs.YtdomlccfjnkbjaaGreatDoor.Pl
open Go.ChangeShapes Go.WideShapes Go.ChangeAt Go.RowKit Go.Proofs.YtdomlccfjnkbjaaGreatDoor.Sm Go.Proofs.YtdomlccfjnkbjaaGreatDoor.Dp
open Go.Proofs.YtdomlccfjnkbjaaGreatDoor.Fr (bare frD frC decX errOf frOf noOf atOf WfA wfA_dec bytesOf mayB)
set_option maxHeartbeats 4000000
set_option maxRecDepth 100000
set_option linter.unusedVariables false
set_option linter.unusedSimpArgs false
def shFrame:List Sh:=[.int .i64,.int .i64,.int .i64,.int .i64,.int .i64,.int .i64,.bool,.int .i64,.int .i64,.sl [.int .i64],.int .i64,.int .i64,.int .i64,.sl [.int .u8]]
def shSaid:List Sh:=shFrame++[.sl [.int .u8],.int .i64,.int .i64,.bool]
theorem said_of (ds:List D) (h:Fits shSaid ds):∃ s:Said,((Said.d s).length=shSaid.length∧(Said.d s).all D.one=true∧∀ (j:Nat) (d':D),(Said.d s)[j]? = some d'→∃ d,ds[j]? = some d∧∀ (w:World) (ok:Nat→Prop) (v:Value),RepC w ok d v→RepC w ok d' v)∧WfA s.f:=by
 have hl:=h.len
 match ds,hl with
 | [d0,d1,d2,d3,d4,d5,d6,d7,d8,d9,d10,d11,d12,d13,d14,d15,d16,d17],_ =>
  obtain ⟨n0,rfl,w0⟩:=Fit.i64 (h.fit 0 _ d0 rfl rfl)
  obtain ⟨n1,rfl,w1⟩:=Fit.i64 (h.fit 1 _ d1 rfl rfl)
  obtain ⟨n2,rfl,w2⟩:=Fit.i64 (h.fit 2 _ d2 rfl rfl)
  obtain ⟨n3,rfl,w3⟩:=Fit.i64 (h.fit 3 _ d3 rfl rfl)
  obtain ⟨n4,rfl,w4⟩:=Fit.i64 (h.fit 4 _ d4 rfl rfl)
  obtain ⟨n5,rfl,w5⟩:=Fit.i64 (h.fit 5 _ d5 rfl rfl)
  obtain ⟨n6,rfl⟩:=Fit.b (h.fit 6 _ d6 rfl rfl)
  obtain ⟨n7,rfl,w7⟩:=Fit.i64 (h.fit 7 _ d7 rfl rfl)
  obtain ⟨n8,rfl,w8⟩:=Fit.i64 (h.fit 8 _ d8 rfl rfl)
  obtain ⟨n9,w9,_,r9⟩:=Fit.intsL (h.fit 9 _ d9 rfl rfl)
  obtain ⟨n10,rfl,w10⟩:=Fit.i64 (h.fit 10 _ d10 rfl rfl)
  obtain ⟨n11,rfl,w11⟩:=Fit.i64 (h.fit 11 _ d11 rfl rfl)
  obtain ⟨n12,rfl,w12⟩:=Fit.i64 (h.fit 12 _ d12 rfl rfl)
  obtain ⟨n13,_,r13⟩:=Fit.bytes (h.fit 13 _ d13 rfl rfl)
  obtain ⟨n14,_,r14⟩:=Fit.bytes (h.fit 14 _ d14 rfl rfl)
  obtain ⟨n15,rfl,w15⟩:=Fit.i64 (h.fit 15 _ d15 rfl rfl)
  obtain ⟨n16,rfl,w16⟩:=Fit.i64 (h.fit 16 _ d16 rfl rfl)
  obtain ⟨n17,rfl⟩:=Fit.b (h.fit 17 _ d17 rfl rfl)
  refine ⟨⟨⟨n0,n1,n2,n3,n4,n5,n6,n7,n8,n9,n10,n11,n12,n13⟩,n14,n15,n16,n17⟩,⟨rfl,rfl,fun j d' hj => ?_⟩,⟨w0,w1,w2,w3,w4,w5,w7,w8,w10,w11,w12⟩,w9⟩
  match j,hj with
  | 0,hj=>cases hj; exact ⟨_,rfl,fun _ _ _ h=>h⟩
  | 1,hj=>cases hj; exact ⟨_,rfl,fun _ _ _ h=>h⟩
  | 2,hj=>cases hj; exact ⟨_,rfl,fun _ _ _ h=>h⟩
  | 3,hj=>cases hj; exact ⟨_,rfl,fun _ _ _ h=>h⟩
  | 4,hj=>cases hj; exact ⟨_,rfl,fun _ _ _ h=>h⟩
  | 5,hj=>cases hj; exact ⟨_,rfl,fun _ _ _ h=>h⟩
  | 6,hj=>cases hj; exact ⟨_,rfl,fun _ _ _ h=>h⟩
  | 7,hj=>cases hj; exact ⟨_,rfl,fun _ _ _ h=>h⟩
  | 8,hj=>cases hj; exact ⟨_,rfl,fun _ _ _ h=>h⟩
  | 9,hj=>cases hj; exact ⟨_,rfl,r9⟩
  | 10,hj=>cases hj; exact ⟨_,rfl,fun _ _ _ h=>h⟩
  | 11,hj=>cases hj; exact ⟨_,rfl,fun _ _ _ h=>h⟩
  | 12,hj=>cases hj; exact ⟨_,rfl,fun _ _ _ h=>h⟩
  | 13,hj=>cases hj; exact ⟨_,rfl,r13⟩
  | 14,hj=>cases hj; exact ⟨_,rfl,r14⟩
  | 15,hj=>cases hj; exact ⟨_,rfl,fun _ _ _ h=>h⟩
  | 16,hj=>cases hj; exact ⟨_,rfl,fun _ _ _ h=>h⟩
  | 17,hj=>cases hj; exact ⟨_,rfl,fun _ _ _ h=>h⟩
  | j+18,hj=>exact absurd hj (by simp [Said.d,frD,frC])
section
variable {H:Type} {enc:TypeId×Value→H} {W:World} {a:Option Addr} {len cap:Nat} {d:DataW H} {p:List MemPlace}
def SaidsV (w:World) (a:Option Addr) (len cap:Nat) (l:List Said):Prop:=RepC w (fun g=>g<w.heap.size) (sl' 18 Said.d l) (.slice a len cap)∧l.length≤maxLen∧∀ s ∈ l,WfA s.f
theorem saids_of_trod (h:DataW.Trod enc Tryz.prog W 0 (fun _=>true) true 43 (.slice a len cap) d p):∃ l,SaidsV W a len cap l:=by
 obtain ⟨d0,h1,h2⟩:=slice_came (e:=shSaid) kR h
 obtain ⟨l,h5,h3,h4⟩:=Fit.listC (enc:=Said.d) (Ok:=fun s=>WfA s.f) h1 said_of
 exact ⟨l,h4 _ _ _ h2,h3,h5⟩
end
end Go.Proofs.YtdomlccfjnkbjaaGreatDoor.Pl
