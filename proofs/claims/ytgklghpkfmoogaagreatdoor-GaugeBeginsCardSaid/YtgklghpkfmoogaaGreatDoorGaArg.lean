/- What is heard, and numbers of 32 bits, as arguments of a law. -/
import Derived.Test.YtgklghpkfmoogaaGreatDoorLsArg
import Derived.Test.YtgklghpkfmoogaaGreatDoorFrDeep
namespace Go.Proofs.YtgklghpkfmoogaaGreatDoor.Pl
open Go.ChangeShapes Go.WideShapes Go.ChangeAt Go.RowKit Go.Proofs.YtgklghpkfmoogaaGreatDoor.Sm Go.Proofs.YtgklghpkfmoogaaGreatDoor.Dp
open Go.Proofs.YtgklghpkfmoogaaGreatDoor.Fr (bare frD frC)
set_option maxHeartbeats 4000000
set_option maxRecDepth 100000
set_option linter.unusedVariables false
set_option linter.unusedSimpArgs false
def shHeard:List Sh:=[.int .i64,.int .i64,.int .i64,.int .i64,.int .i64,.int .i64,.int .i64,.bool,.int .i64,.int .i64,.sl [.int .i64],.int .i64,.int .i64,.int .i64,.sl [.int .u8],.int .i64]
theorem heard_of (ds:List D) (h:Fits shHeard ds):∃ s:Heard,((Heard.d s).length=shHeard.length∧(Heard.d s).all D.one=true∧∀ (j:Nat) (d':D),(Heard.d s)[j]? = some d'→∃ d,ds[j]? = some d∧∀ (w:World) (ok:Nat→Prop) (v:Value),RepC w ok d v→RepC w ok d' v)∧True:=by
 have hl:=h.len
 match ds,hl with
 | [d0,d1,d2,d3,d4,d5,d6,d7,d8,d9,d10,d11,d12,d13,d14,d15],_ =>
  obtain ⟨n0,rfl,w0⟩:=Fit.i64 (h.fit 0 _ d0 rfl rfl)
  obtain ⟨n1,rfl,w1⟩:=Fit.i64 (h.fit 1 _ d1 rfl rfl)
  obtain ⟨n2,rfl,w2⟩:=Fit.i64 (h.fit 2 _ d2 rfl rfl)
  obtain ⟨n3,rfl,w3⟩:=Fit.i64 (h.fit 3 _ d3 rfl rfl)
  obtain ⟨n4,rfl,w4⟩:=Fit.i64 (h.fit 4 _ d4 rfl rfl)
  obtain ⟨n5,rfl,w5⟩:=Fit.i64 (h.fit 5 _ d5 rfl rfl)
  obtain ⟨n6,rfl,w6⟩:=Fit.i64 (h.fit 6 _ d6 rfl rfl)
  obtain ⟨n7,rfl⟩:=Fit.b (h.fit 7 _ d7 rfl rfl)
  obtain ⟨n8,rfl,w8⟩:=Fit.i64 (h.fit 8 _ d8 rfl rfl)
  obtain ⟨n9,rfl,w9⟩:=Fit.i64 (h.fit 9 _ d9 rfl rfl)
  obtain ⟨n10,w10,_,r10⟩:=Fit.intsL (h.fit 10 _ d10 rfl rfl)
  obtain ⟨n11,rfl,w11⟩:=Fit.i64 (h.fit 11 _ d11 rfl rfl)
  obtain ⟨n12,rfl,w12⟩:=Fit.i64 (h.fit 12 _ d12 rfl rfl)
  obtain ⟨n13,rfl,w13⟩:=Fit.i64 (h.fit 13 _ d13 rfl rfl)
  obtain ⟨n14,_,r14⟩:=Fit.bytes (h.fit 14 _ d14 rfl rfl)
  obtain ⟨n15,rfl,w15⟩:=Fit.i64 (h.fit 15 _ d15 rfl rfl)
  refine ⟨⟨n0,⟨n1,n2,n3,n4,n5,n6,n7,n8,n9,n10,n11,n12,n13,n14⟩,n15⟩,⟨rfl,rfl,fun j d' hj => ?_⟩,trivial⟩
  match j,hj with
  | 0,hj=>cases hj; exact ⟨_,rfl,fun _ _ _ h=>h⟩
  | 1,hj=>cases hj; exact ⟨_,rfl,fun _ _ _ h=>h⟩
  | 2,hj=>cases hj; exact ⟨_,rfl,fun _ _ _ h=>h⟩
  | 3,hj=>cases hj; exact ⟨_,rfl,fun _ _ _ h=>h⟩
  | 4,hj=>cases hj; exact ⟨_,rfl,fun _ _ _ h=>h⟩
  | 5,hj=>cases hj; exact ⟨_,rfl,fun _ _ _ h=>h⟩
  | 6,hj=>cases hj; exact ⟨_,rfl,fun _ _ _ h=>h⟩
  | 7,hj=>cases hj; exact ⟨_,rfl,fun _ _ _ h=>h⟩
  | 8,hj=>cases hj; exact ⟨_,rfl,fun _ _ _ h=>h⟩
  | 9,hj=>cases hj; exact ⟨_,rfl,fun _ _ _ h=>h⟩
  | 10,hj=>cases hj; exact ⟨_,rfl,r10⟩
  | 11,hj=>cases hj; exact ⟨_,rfl,fun _ _ _ h=>h⟩
  | 12,hj=>cases hj; exact ⟨_,rfl,fun _ _ _ h=>h⟩
  | 13,hj=>cases hj; exact ⟨_,rfl,fun _ _ _ h=>h⟩
  | 14,hj=>cases hj; exact ⟨_,rfl,r14⟩
  | 15,hj=>cases hj; exact ⟨_,rfl,fun _ _ _ h=>h⟩
  | j+16,hj=>exact absurd hj (by simp [Heard.d,frD,frC])
def HeardsV (w:World) (a:Option Addr) (len cap:Nat) (l:List Heard):Prop:=RepC w (fun g=>g<w.heap.size) (sl' 16 Heard.d l) (.slice a len cap)∧l.length≤maxLen
def Ints32V (w:World) (a:Option Addr) (len cap:Nat) (l:List Int):Prop:=RepC w (fun g=>g<w.heap.size) (sl' 1 (fun x=>[D.v (.int .i32 x)]) l) (.slice a len cap)∧l.length≤maxLen∧∀ t ∈ l, -2147483648≤t∧t≤2147483647
theorem int32_of (ds:List D) (h:Fits [.int .i32] ds):∃ x:Int,ds=[D.v (.int .i32 x)]∧(-2147483648≤x∧x≤2147483647):=by
 have hl:=h.len
 match ds,hl with
 | [d0],_ =>
  have hf:=h.fit 0 _ d0 rfl rfl
  cases hf with
  | @int k n hw=>exact ⟨n,rfl,bounds_i32 hw⟩
section
variable {H:Type} {enc:TypeId×Value→H} {W:World} {a:Option Addr} {len cap:Nat} {d:DataW H} {p:List MemPlace}
theorem heards_of_trod (h:DataW.Trod enc Tryz.prog W 0 (fun _=>true) true 22 (.slice a len cap) d p):∃ l,HeardsV W a len cap l:=by
 obtain ⟨d0,h1,h2⟩:=slice_came (e:=shHeard) kR h
 obtain ⟨l,_,h3,h4⟩:=Fit.listC (enc:=Heard.d) (Ok:=fun _=>True) h1 heard_of
 exact ⟨l,h4 _ _ _ h2,h3⟩
theorem ints32_of_trod (h:DataW.Trod enc Tryz.prog W 0 (fun _=>true) true 34 (.slice a len cap) d p):∃ l,Ints32V W a len cap l:=by
 obtain ⟨d0,h1,h2⟩:=slice_came (e:=[.int .i32]) kR h
 obtain ⟨l,h5,h3,h4⟩:=Fit.list (enc:=fun x=>[D.v (.int .i32 x)]) (Ok:=fun x => -2147483648≤x∧x≤2147483647) h1 int32_of
 exact ⟨l,h4 _ _ _ h2,h3,h5⟩
end
end Go.Proofs.YtgklghpkfmoogaaGreatDoor.Pl
