/- slices.Clone of ints and of bytes, nil or not, as contracts. -/
import Derived.Shelf.SlicesE.Clone
import Derived.Test.YtkhdnlkdcikdmaaDpC
namespace Go.Proofs.Ytkhdnlkdcikdmaa.Pl
open Go.Proofs Go.Shelf Go.RowKit Go.Lib Go.Proofs.Ytkhdnlkdcikdmaa.Sm Go.Proofs.Ytkhdnlkdcikdmaa.Dp
set_option maxHeartbeats 4000000
set_option maxRecDepth 100000
set_option linter.unusedVariables false
set_option linter.unusedSimpArgs false
def cloneIL_ren:Go.Shelf.Ren:=⟨fun|41=>33|n=>n,fun|22=>35|23=>3|4=>4|n=>n,fun n=>n⟩
theorem cloneIL:SlLaysE0.n41 Try.prog cloneIL_ren where
 mixed:=by kernel_rfl
 f41:=⟨"slices.Clone[[]int,int]",by decide,Try.func33.trans (congrArg some kR)⟩
 t4:=Try.underlying4
 a4:=Try.isAgg4
 z4:=Try.sizeOf4
 v4:=Try.zeroValue4
 t22:=Try.underlying35
 a22:=Try.isAgg35
 z22:=Try.sizeOf35
 v22:=Try.zeroValue35
def cloneBL_ren:Go.Shelf.Ren:=⟨fun|41=>34|n=>n,fun|22=>38|23=>5|4=>4|n=>n,fun n=>n⟩
theorem cloneBL:SlLaysE0.n41 Try.prog cloneBL_ren where
 mixed:=by kernel_rfl
 f41:=⟨"slices.Clone[[]byte,byte]",by decide,Try.func34.trans (congrArg some kR)⟩
 t4:=Try.underlying4
 a4:=Try.isAgg4
 z4:=Try.sizeOf4
 v4:=Try.zeroValue4
 t22:=Try.underlying38
 a22:=Try.isAgg38
 z22:=Try.sizeOf38
 v22:=Try.zeroValue38
section
variable {P:Program} {ρ : Go.Shelf.Ren}
theorem clone_any (L:SlLaysE0.n41 P ρ) (i0:TypeInfo) (z:Value) (bytes:Nat) (hi:P.info? (ρ.t 23)=some i0) (hz0:i0.zero=some z) (hz1:i0.size=1) (hz2:i0.bytes=bytes) (hzs:z.cells.size=1) (z23:∀ w,(Go.sizeOf (ρ.t 23)).run P w = .ok 1 w) (ad:Addr) (n c:Nat) (news:List Value) (w:World) (hl:news.length=n) (hn:n≤maxLen) (hbig:n*bytes≤140737488355328)
  (hc:∀ j u,news[j]? = some u→w.cell? (ad.add j)=some u) (h1:∀ u ∈ news,u.oneCell'=true) :
  Calls P (ρ.f 41) #[.slice (some ad) n c] w fun e w'=>∃ v',e = .returned v'∧w'.ownsRow w.heap.size (ρ.t 23) 1 v' n news∧Below w.heap.size w w':=by
 have mixed:=L.mixed; have t4:=L.t4; have a4:=L.a4; have z4:=L.z4; have v4:=L.v4; have t22:=L.t22; have a22:=L.a22; have z22:=L.z22; have v22:=L.v22
 have q22:∀ (w:World) (a:Option Addr) (n c n' c':Nat),(binOp .eql (ρ.t 22) (.slice a n c) (.slice none n' c')).run P w = .ok (.bool a.isNone) w:=fun w a n c n' c'=>Lib.run_eql_slice_nil w _ _ a n c n' c' L.t22
 have u22:∀ w,Sem.run P (underlying (ρ.t 22)) w = .ok (TypeDesc.slice (ρ.t 23)) w:=run_underlying t22
 have A:Aside (∀ j u,news[j]? = some u→w.cell? (ad.add j)=some u):=hc
 clear hc
 obtain ⟨_,_,FG⟩:=L.f41
 go_enter FG,SlBodyN.n41_ntmps ρ
 go_wp2_with (at_builtin; refine wpList_append_own _ rfl _ _ (ρ.t 22) rfl w.heap.size (ρ.t 23) i0 z 1 bytes t22 hi hz0 hz1 hz2 hzs (by decide) _ _ _ rfl (World.ownsRow_made w #[] 0 (Nat.le_refl _) (Nat.zero_le _) (by simp)) ad n c news rfl ?qc1 ?qc2 ?qc3 ?qc4 ?qc5 ?qc6 ?_)
 case qc1=>rw [Nat.mul_one]; exact hl
 case qc2=>exact fun j u hj=>Lib.cell?_alloc_some _ (A.out j u hj)
 case qc3=>exact h1
 case qc4=>rw [Nat.zero_add]; exact hn
 case qc5=>rw [Nat.zero_add]; exact hbig
 case qc6=>simp
 intro v' w1 hown hgrow hnil
 go_wp2
 go_ret
 refine ⟨v',rfl,by simpa using hown,?_⟩
 exact ((Below.refl _ w).alloc (Nat.le_refl _) _).grown hgrow (by simp) (by intro k hk; simp [Value.ownBlock] at hk; omega)
theorem clone_pc (L:SlLaysE0.n41 P ρ) {i0:TypeInfo} {z:Value} {bytes:Nat} (hi:P.info? (ρ.t 23)=some i0) (hz0:i0.zero=some z) (hz1:i0.size=1) (hz2:i0.bytes=bytes) (hzs:z.cells.size=1) (hb8:bytes≤8) (z23:∀ w,(Go.sizeOf (ρ.t 23)).run P w = .ok 1 w) {α : Type} [Inhabited α] (enc : α → Value) (h1:∀ x,(enc x).oneCell'=true) (xs:List α) (hx:xs.length<1000000):PC P [] (ρ.f 41) [sl' 1 (fun x=>[D.v (enc x)]) xs] (· = sl' 1 (fun x=>[D.v (enc x)]) xs):=by
 intro κ w vs hκ _ hl hd
 match vs,hl with
 | [v],_ =>
  have hr:RepC w κ (sl' 1 (fun x=>[D.v (enc x)]) xs) v:=hd 0 _ _ rfl rfl
  have key:∀ (ad:Addr) (c:Nat),(∀ j u,(xs.map enc)[j]? = some u→w.cell? (ad.add j)=some u)→Calls P (ρ.f 41) #[.slice (some ad) xs.length c] w fun e w'=>∃ v d,e = .returned v∧d=sl' 1 (fun x=>[D.v (enc x)]) xs∧RepC w' (fun g=>(κ g∨w.heap.size≤g)∧g<w'.heap.size) d v∧Below w.heap.size w w':=fun ad c hc=>by
   refine (clone_any L i0 z bytes hi hz0 hz1 hz2 hzs z23 ad xs.length c (xs.map enc) w (by rw [List.length_map]) (by unfold maxLen; omega) (Nat.le_trans (Nat.mul_le_mul_left _ hb8) oM) hc (fun u hu=>by
    obtain ⟨x,_,rfl⟩:=List.mem_map.1 hu
    exact h1 x)).mono ?_
   rintro e w' ⟨v',rfl,ho,hb⟩
   exact ⟨v',_,rfl,rfl,(owns_rep ho h1).mono fun g hg=>⟨⟨.inr hg.1,hg.2⟩,rfl⟩,hb⟩
  have hr2:=hr
  unfold sl' at hr
  generalize hn:xs.length=n at hr
  cases hr with
  | s0 z f a c ha hc =>
   cases a with
   | none =>
    refine (AnyE.slices_Clone_nil L 0 c w).mono ?_
    rintro e w' ⟨rfl,rfl⟩
    refine ⟨_,_,rfl,rfl,?_,Below.refl _ _⟩
    unfold sl'
    rw [hn]
    exact .s0 _ _ _ _ (fun _=>rfl) (Nat.zero_le _)
   | some ad =>
    have h:=key ad c fun j u hj=>by
     rw [List.length_eq_zero_iff.1 hn] at hj
     simp at hj
    rw [hn] at h
    exact h
  | @s _ _ _ b off c vals hb' hnc hcm hz hv hd' =>
   have h:=key ⟨b,off,none⟩ c fun j u hj=>by
    rw [List.getElem?_map] at hj
    obtain ⟨x,hx2,rfl⟩:=Option.map_eq_some_iff.1 hj
    have hjn:j<n:=by rw [← hn]; exact (List.getElem?_eq_some_iff.1 hx2).1
    have hc1:=hv j 0 hjn (by decide)
    have hc2:=repC_v (hd' j 0 _ hjn rfl)
    rw [Nat.mul_one,Nat.add_zero,hc2,List.getD_eq_getElem?_getD,hx2] at hc1
    rw [Addr.add_lit]
    exact hc1
   rw [hn] at h
   exact h
end
theorem clone_int (xs:List Int) (hx:xs.length<1000000):PC Try.prog [] 33 [sl' 1 (fun x=>[I x]) xs] (· = sl' 1 (fun x=>[I x]) xs):=by
 have hi0:(Try.prog.info? (cloneIL_ren.t 23)).map (fun i=>(i.zero,i.size,i.bytes))=some (some (Value.int .i64 0),1,8):=by kernel_rfl
 obtain ⟨i0,q1,q2⟩:=Option.map_eq_some_iff.1 hi0
 simp only [Prod.mk.injEq] at q2
 exact clone_pc cloneIL q1 q2.1 q2.2.1 q2.2.2 rfl (by decide) Try.sizeOf3 (Value.int .i64) (fun _=>rfl) xs hx
theorem clone_byte (xs:List UInt8) (hx:xs.length<1000000):PC Try.prog [] 34 [bytesD xs] (· = bytesD xs):=by
 have hi0:(Try.prog.info? (cloneBL_ren.t 23)).map (fun i=>(i.zero,i.size,i.bytes))=some (some (Value.int .u8 0),1,1):=by kernel_rfl
 obtain ⟨i0,q1,q2⟩:=Option.map_eq_some_iff.1 hi0
 simp only [Prod.mk.injEq] at q2
 exact clone_pc cloneBL q1 q2.1 q2.2.1 q2.2.2 rfl (by decide) Try.sizeOf5 (fun b:UInt8=>Value.int .u8 (b.toNat:Int)) (fun _=>rfl) xs hx
end Go.Proofs.Ytkhdnlkdcikdmaa.Pl
