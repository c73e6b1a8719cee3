/- Chapter 14: contents, and what is heard, as arguments of a law. -/
import Derived.Test.YtkhdnlkdcikdmaaVoCmp
import Derived.Test.YtkhdnlkdcikdmaaDpB
import Derived.Test.YtkhdnlkdcikdmaaDpOb
import Derived.Test.YtkhdnlkdcikdmaaDpC
namespace Go.Proofs.Ytkhdnlkdcikdmaa.Vo
open Go.ChangeShapes Go.WideShapes Go.ChangeAt Go.RowKit Go.Proofs.Ytkhdnlkdcikdmaa.Sm Go.Proofs.Ytkhdnlkdcikdmaa.Dp
open Go.Proofs.Ytkhdnlkdcikdmaa.Fr (bare frD frC)
set_option maxHeartbeats 4000000
set_option maxRecDepth 100000
set_option linter.unusedVariables false
set_option linter.unusedSimpArgs false
theorem i64 {d:D} (h:Fit (.int .i64) d):∃ n,d=I n:=by
 cases h with
 | int h=>exact ⟨_,rfl⟩
theorem bool {d:D} (h:Fit .bool d):∃ b,d=D.v (.bool b):=by
 cases h with
 | bool b=>exact ⟨b,rfl⟩
def Tells {α : Type} (enc : α → List D) (e:List Sh) (ds:List D) (x : α):Prop:=(enc x).length=e.length∧(enc x).all D.one=true∧∀ (j:Nat) (d':D),(enc x)[j]? = some d'→∃ d,ds[j]? = some d∧∀ (w:World) (ok:Nat→Prop) (v:Value),RepC w ok d v→RepC w ok d' v
theorem list {α : Type} [Inhabited α] {e:List Sh} {enc : α → List D} {d:D} (h:Fit (.sl e) d) (hel:∀ ds,Fits e ds→∃ x,Tells enc e ds x):∃ l:List α,l.length≤maxLen∧∀ (w:World) (ok:Nat→Prop) (v:Value),RepC w ok d v→RepC w ok (sl' e.length enc l) v:=by
 cases h with
 | @sl e n f hn hl h =>
  have each:∀ i,i<n→∃ x,Tells enc e (f i) x:=fun i hi=>hel (f i) ⟨hl i hi,fun j s d h1 h2=>h i j s d hi h1 h2⟩
  obtain ⟨y,hy⟩:=Deep.choose_lt each
  refine ⟨(List.range n).map y,by simpa using hn,fun w ok v hr => ?_⟩
  unfold sl'
  have hlen:((List.range n).map y).length=n:=by simp
  rw [hlen]
  refine RepC.seqw hr fun i hi => ?_
  have e1:((List.range n).map y).getD i default=y i:=by simp [List.getD_eq_getElem?_getD,hi]
  rw [e1]
  exact hy i hi
theorem int_of (ds:List D) (h:Fits [.int .i64] ds):∃ x,Tells (fun x=>[I x]) [.int .i64] ds x:=by
 have hl:=h.len
 match ds,hl with
 | [d0],_ =>
  obtain ⟨n,rfl⟩:=i64 (h.fit 0 _ d0 rfl rfl)
  exact ⟨n,rfl,rfl,fun j d' hj=>⟨d',hj,fun _ _ _ h=>h⟩⟩
theorem byte_of (ds:List D) (h:Fits [.int .u8] ds):∃ x,Tells u8d [.int .u8] ds x:=by
 have hl:=h.len
 match ds,hl with
 | [d0],_ =>
  have hf:=h.fit 0 _ d0 rfl rfl
  cases hf with
  | @int k n hw =>
   have hb:=bounds_u8 hw
   have e:((UInt8.ofNat n.toNat).toNat:Int)=n:=by
    rw [UInt8.toNat_ofNat']
    omega
   refine ⟨UInt8.ofNat n.toNat,rfl,rfl,fun j d' hj=>⟨d',?_,fun _ _ _ h=>h⟩⟩
   unfold u8d at hj
   rw [e] at hj
   exact hj
theorem ints {d:D} (h:Fit (.sl [.int .i64]) d):∃ l:List Int,l.length≤maxLen∧∀ (w:World) (ok:Nat→Prop) (v:Value),RepC w ok d v→RepC w ok (sl' 1 (fun x=>[I x]) l) v:=list h int_of
theorem bytes {d:D} (h:Fit (.sl [.int .u8]) d):∃ l:List UInt8,l.length≤maxLen∧∀ (w:World) (ok:Nat→Prop) (v:Value),RepC w ok d v→RepC w ok (bytesD l) v:=list h byte_of
def shCnt:List Sh:=[.int .i64,.sl [.int .i64]]
def shHeard:List Sh:=[.int .i64,.int .i64,.int .i64,.int .i64,.int .i64,.int .i64,.int .i64,.bool,.int .i64,.int .i64,.sl [.int .i64],.int .i64,.int .i64,.int .i64,.sl [.int .u8],.int .i64]
theorem cnt_of (ds:List D) (h:Fits shCnt ds):∃ c,Tells Pl.Content.d shCnt ds c:=by
 have hl:=h.len
 match ds,hl with
 | [d0,d1],_ =>
  obtain ⟨n0,rfl⟩:=i64 (h.fit 0 _ d0 rfl rfl)
  obtain ⟨n1,_,r1⟩:=ints (h.fit 1 _ d1 rfl rfl)
  refine ⟨⟨n0,n1⟩,rfl,rfl,fun j d' hj => ?_⟩
  match j,hj with
  | 0,hj=>cases hj; exact ⟨_,rfl,fun _ _ _ h=>h⟩
  | 1,hj=>cases hj; exact ⟨_,rfl,r1⟩
  | j+2,hj=>exact absurd hj (by simp [Pl.Content.d])
theorem heard_of (ds:List D) (h:Fits shHeard ds):∃ s,Tells Pl.Heard.d shHeard ds s:=by
 have hl:=h.len
 match ds,hl with
 | [d0,d1,d2,d3,d4,d5,d6,d7,d8,d9,d10,d11,d12,d13,d14,d15],_ =>
  obtain ⟨n0,rfl⟩:=i64 (h.fit 0 _ d0 rfl rfl)
  obtain ⟨n1,rfl⟩:=i64 (h.fit 1 _ d1 rfl rfl)
  obtain ⟨n2,rfl⟩:=i64 (h.fit 2 _ d2 rfl rfl)
  obtain ⟨n3,rfl⟩:=i64 (h.fit 3 _ d3 rfl rfl)
  obtain ⟨n4,rfl⟩:=i64 (h.fit 4 _ d4 rfl rfl)
  obtain ⟨n5,rfl⟩:=i64 (h.fit 5 _ d5 rfl rfl)
  obtain ⟨n6,rfl⟩:=i64 (h.fit 6 _ d6 rfl rfl)
  obtain ⟨n7,rfl⟩:=bool (h.fit 7 _ d7 rfl rfl)
  obtain ⟨n8,rfl⟩:=i64 (h.fit 8 _ d8 rfl rfl)
  obtain ⟨n9,rfl⟩:=i64 (h.fit 9 _ d9 rfl rfl)
  obtain ⟨n10,_,r10⟩:=ints (h.fit 10 _ d10 rfl rfl)
  obtain ⟨n11,rfl⟩:=i64 (h.fit 11 _ d11 rfl rfl)
  obtain ⟨n12,rfl⟩:=i64 (h.fit 12 _ d12 rfl rfl)
  obtain ⟨n13,rfl⟩:=i64 (h.fit 13 _ d13 rfl rfl)
  obtain ⟨n14,_,r14⟩:=bytes (h.fit 14 _ d14 rfl rfl)
  obtain ⟨n15,rfl⟩:=i64 (h.fit 15 _ d15 rfl rfl)
  refine ⟨⟨n0,⟨n1,n2,n3,n4,n5,n6,n7,n8,n9,n10,n11,n12,n13,n14⟩,n15⟩,rfl,rfl,fun j d' hj => ?_⟩
  match j,hj with
  | 0,hj=>cases hj; exact ⟨_,rfl,fun _ _ _ h=>h⟩
  | 1,hj=>cases hj; exact ⟨_,rfl,fun _ _ _ h=>h⟩
  | 2,hj=>cases hj; exact ⟨_,rfl,fun _ _ _ h=>h⟩
  | 3,hj=>cases hj; exact ⟨_,rfl,fun _ _ _ h=>h⟩
  | 4,hj=>cases hj; exact ⟨_,rfl,fun _ _ _ h=>h⟩
  | 5,hj=>cases hj; exact ⟨_,rfl,fun _ _ _ h=>h⟩
  | 6,hj=>cases hj; exact ⟨_,rfl,fun _ _ _ h=>h⟩
  | 7,hj=>cases hj; exact ⟨_,rfl,fun _ _ _ h=>h⟩
  | 8,hj=>cases hj; exact ⟨_,rfl,fun _ _ _ h=>h⟩
  | 9,hj=>cases hj; exact ⟨_,rfl,fun _ _ _ h=>h⟩
  | 10,hj=>cases hj; exact ⟨_,rfl,r10⟩
  | 11,hj=>cases hj; exact ⟨_,rfl,fun _ _ _ h=>h⟩
  | 12,hj=>cases hj; exact ⟨_,rfl,fun _ _ _ h=>h⟩
  | 13,hj=>cases hj; exact ⟨_,rfl,fun _ _ _ h=>h⟩
  | 14,hj=>cases hj; exact ⟨_,rfl,r14⟩
  | 15,hj=>cases hj; exact ⟨_,rfl,fun _ _ _ h=>h⟩
  | j+16,hj=>exact absurd hj (by simp [Pl.Heard.d,frD,frC])
def IntsV (w:World) (a:Option Addr) (len cap:Nat) (l:List Int):Prop:=RepC w (fun g=>g<w.heap.size) (sl' 1 (fun x=>[I x]) l) (.slice a len cap)∧l.length≤maxLen
def CntsV (w:World) (a:Option Addr) (len cap:Nat) (l:List Pl.Content):Prop:=RepC w (fun g=>g<w.heap.size) (sl' 2 Pl.Content.d l) (.slice a len cap)∧l.length≤maxLen
def HeardsV (w:World) (a:Option Addr) (len cap:Nat) (l:List Pl.Heard):Prop:=RepC w (fun g=>g<w.heap.size) (sl' 16 Pl.Heard.d l) (.slice a len cap)∧l.length≤maxLen
def CntV (w:World) (v:Value) (c:Pl.Content):Prop:=RepC w (fun g=>g<w.heap.size) (.r (Pl.Content.d c)) v
section
variable {H:Type} {enc:TypeId×Value→H} {W:World} {a:Option Addr} {len cap:Nat} {d:DataW H} {p:List MemPlace}
theorem came {t:TypeId} {e:List Sh} (hs:shOf Try.prog 8 t=some [.sl e]) (h:DataW.Trod enc Try.prog W 0 (fun _=>true) true t (.slice a len cap) d p):∃ d0,Fit (.sl e) d0∧RepC W (fun g=>g<W.heap.size) d0 (.slice a len cap):=by
 obtain ⟨fuel,hf⟩:=h
 obtain ⟨ds,hc⟩:=trod_came 8 _ _ fuel _ _ hs hf
 have hl:=hc.fits.len
 match ds,hl with
 | [d0],_=>exact ⟨d0,hc.fits.fit 0 _ d0 rfl rfl,hc.rep 0 d0 _ rfl rfl⟩
theorem ints_of_trod (h:DataW.Trod enc Try.prog W 0 (fun _=>true) true 35 (.slice a len cap) d p):∃ l,IntsV W a len cap l:=by
 obtain ⟨d0,h1,h2⟩:=came (e:=[.int .i64]) kR h
 obtain ⟨l,h3,h4⟩:=ints h1
 exact ⟨l,h4 _ _ _ h2,h3⟩
theorem cnts_of_trod (h:DataW.Trod enc Try.prog W 0 (fun _=>true) true 22 (.slice a len cap) d p):∃ l,CntsV W a len cap l:=by
 obtain ⟨d0,h1,h2⟩:=came (e:=shCnt) kR h
 obtain ⟨l,h3,h4⟩:=list (enc:=Pl.Content.d) h1 cnt_of
 exact ⟨l,h4 _ _ _ h2,h3⟩
theorem heards_of_trod (h:DataW.Trod enc Try.prog W 0 (fun _=>true) true 29 (.slice a len cap) d p):∃ l,HeardsV W a len cap l:=by
 obtain ⟨d0,h1,h2⟩:=came (e:=shHeard) kR h
 obtain ⟨l,h3,h4⟩:=list (enc:=Pl.Heard.d) h1 heard_of
 exact ⟨l,h4 _ _ _ h2,h3⟩
theorem cnt_of_trod {r:Reach} {b0:Nat} {v:Value} (hv:Value.okWide Try.prog W r b0 37 v) (h:DataW.Trod enc Try.prog W 0 (fun _=>true) true 37 v d p):∃ c,CntV W v c:=by
 obtain ⟨cs,rfl,hsz⟩:=okWide_struct Try.underlying37 hv
 obtain ⟨l⟩:=cs
 obtain ⟨fuel,hf⟩:=h
 obtain ⟨ds,hc⟩:=trod_came 5 _ _ fuel _ _ (show shOf Try.prog 5 37=some shCnt by kernel_rfl) hf
 have hlen:l.length=2:=(hc.len:l.length=ds.length).trans hc.fits.len
 obtain ⟨c,_,_,h3⟩:=cnt_of ds hc.fits
 refine ⟨c,.r hlen fun j d v h1 h2 => ?_⟩
 obtain ⟨d1,e1,e2⟩:=h3 j d h1
 exact e2 _ _ _ (hc.rep j d1 v e1 h2)
end
theorem calls_of {G:List (Nat×List D)} {f:FuncId} {ds:List D} {x:Value} {w:World} {vs:List Value} (h:PC Try.prog G f ds (· = D.v x)) (hG:∀ y ∈ G,GlC w (fun g=>g<w.heap.size) y) (hl:vs.length=ds.length) (hr:∀ (j:Nat) (d:D) (v:Value),ds[j]? = some d→vs[j]? = some v→RepC w (fun g=>g<w.heap.size) d v):Calls Try.prog f vs.toArray w fun e w'=>e = .returned x∧Below w.heap.size w w':=by
 refine (h (fun g=>g<w.heap.size) w vs (fun _ h=>h) hG hl hr).mono ?_
 rintro e w' ⟨v,d,rfl,rfl,hv,hb⟩
 cases hv
 exact ⟨rfl,hb⟩
theorem four_of {q:Int} (h:0≤q∧q≤255):∃ f:Nat,(IntKind.i64.wrap q).tmod 4=(f:Int)∧f≤3:=by
 have h1:(IntKind.i64.wrap q).tmod 4=q%4:=by rw [Ev.wrap_i64 oM oM,Int.tmod_eq_emod_of_nonneg h.1]
 exact ⟨(q%4).toNat,by rw [h1]; omega,by omega⟩
theorem eight_of {q:Int} (h:0≤q∧q≤255):∃ f:Nat,(IntKind.i64.wrap q).tmod 8=(f:Int)∧f≤7:=by
 have h1:(IntKind.i64.wrap q).tmod 8=q%8:=by rw [Ev.wrap_i64 oM oM,Int.tmod_eq_emod_of_nonneg h.1]
 exact ⟨(q%8).toNat,by rw [h1]; omega,by omega⟩
end Go.Proofs.Ytkhdnlkdcikdmaa.Vo
