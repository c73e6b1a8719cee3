/- Chapter 14: slices.SortFunc of indexes, as a contract. -/
import Derived.Shelf.SlSortCmp.Whole1
import Derived.Test.YtkhdnlkdcikdmaaVoLay
import Derived.Test.YtkhdnlkdcikdmaaVoMath
import Derived.Test.YtkhdnlkdcikdmaaDpC
import Derived.Test.YtkhdnlkdcikdmaaDpB
import Derived.Test.YtkhdnlkdcikdmaaDpDrawn
namespace Go.Proofs.Ytkhdnlkdcikdmaa.Pl
open Go.RowKit Go.Proofs.Ytkhdnlkdcikdmaa.Sm Go.Proofs.Ytkhdnlkdcikdmaa.Dp
set_option maxHeartbeats 4000000
set_option maxRecDepth 100000
set_option linter.unusedVariables false
set_option linter.unusedSimpArgs false
theorem repC_c {w:World} {ok:Nat→Prop} {f:FuncId} {d:D} {v:Value} (h:RepC w ok (.c f [d]) v):∃ u,v = .func (.func f) #[] #[u]∧RepC w ok d u:=by
 cases h with
 | @c _ _ vs hl hd =>
  match vs,hl with
  | [u],_=>exact ⟨u,rfl,hd 0 d u rfl rfl⟩
theorem world_grow {w w':World} (h:Below w.heap.size w w') (hd:w.drawn≤w'.drawn):∃ q os,w'=Go.Sort.grow (w.drewN q) os:=by
 refine ⟨w'.drawn-w.drawn,w'.heap.extract w.heap.size w'.heap.size,?_⟩
 have hh:w'.heap=w.heap++w'.heap.extract w.heap.size w'.heap.size:=by
  have h1:=h.size
  apply Array.ext_getElem?
  intro k
  rw [Array.getElem?_append]
  split
  ·rename_i hk
   exact h.block k hk
  ·rename_i hk
   rw [Array.getElem?_extract]
   split
   ·rw [show w.heap.size+(k-w.heap.size)=k by omega]
   ·rw [Array.getElem?_eq_none oM]
 have ho:=h.os
 have ht:=h.tape
 have hp:=h.output
 obtain ⟨heap,tape,drawn,os,output⟩:=w'
 simp only at hh ho ht hp hd ⊢
 subst ho ht hp
 show World.mk heap w.tape drawn w.os w.output=World.mk (w.heap++heap.extract w.heap.size heap.size) w.tape (w.drawn+(drawn-w.drawn)) w.os w.output
 rw [← hh,Nat.add_sub_cancel' hd]
theorem ext_all {α : Type} (a:Array α) {n:Nat} (h:a.size=n):a.extract 0 n=a:=by
 subst h
 exact Array.extract_size
theorem fin_map (n:Nat):(List.finRange n).map (fun x:Fin n=>(x.val:Int))=idxL n:=by
 refine List.ext_getElem? fun k => ?_
 unfold idxL
 rw [List.getElem?_map,List.getElem?_map]
 rcases Nat.lt_or_ge k n with h|h
 ·rw [List.getElem?_range h,List.getElem?_eq_getElem (by simpa using h),List.getElem_finRange]
  rfl
 ·rw [List.getElem?_eq_none (by simpa using h),List.getElem?_eq_none (by simpa using h)]
  rfl
theorem swo_of {α : Type} {c : α → α → Int} (h:IsOrd c):Go.Sort.SWO (Go.Proofs.ltOf c) where
 irrefl:=fun x=>by
  unfold Go.Proofs.ltOf
  rw [(h.zero x x).2 rfl]
  rfl
 trans:=fun x y z h1 h2=>by
  unfold Go.Proofs.ltOf at *
  simp only [decide_eq_true_eq] at *
  have h3:=h.trans x y z oM oM
  have h4:¬ c x z=0:=fun e=>by
   have e2:=(h.zero x z).1 e
   subst e2
   have:=h.swap x y
   omega
  omega
 ntrans:=fun x y z h1 h2=>by
  unfold Go.Proofs.ltOf at *
  simp only [decide_eq_false_iff_not] at *
  have a1:=h.swap x y
  have a2:=h.swap y z
  have a3:=h.swap x z
  have a4:=h.trans z y x oM oM
  omega
def cfI (l:List Content) (x y:Fin l.length):Int:=ordX l (x.val:Int) (y.val:Int)
theorem cfI_ord (l:List Content):IsOrd (cfI l):=(ordX_ord l).map (fun x:Fin l.length=>(x.val:Int)) (fun x y h=>Fin.ext oM)
def encF (n:Nat) (x:Fin n):Value := .int .i64 (x.val:Int)
theorem sorted_is {l:List Content} [Inhabited (Fin l.length)] {d':Array (Fin l.length)} (hp:Go.Sort.PermIn 0 l.length (List.finRange l.length).toArray d') (hs:Go.Sort.SortedIn (Go.Proofs.ltOf (cfI l)) 0 l.length d'):d'.toList.map (fun x:Fin l.length=>(x.val:Int))=ordL l:=by
 obtain ⟨hsz,_,hperm⟩:=hp
 have hsz2:d'.size=l.length:=by rw [hsz]; simp
 rw [ext_all d' hsz2,ext_all _ (by simp)] at hperm
 refine ord_unique ?_ ?_
 ·rw [← fin_map]
  exact hperm.map _
 ·rw [List.pairwise_map,List.pairwise_iff_getElem]
  intro i j hi hj hij
  have hi':i<d'.size:=by simpa using hi
  have hj':j<d'.size:=by simpa using hj
  have:=hs i j (Nat.zero_le _) hij oM
  rw [getElem!_pos d' j hj',getElem!_pos d' i hi'] at this
  unfold Go.Proofs.ltOf cfI at this
  simp only [decide_eq_false_iff_not] at this
  have h2:=(ordX_ord l).swap (d'[i].val:Int) (d'[j].val:Int)
  show ordX l (d'.toList[i].val:Int) (d'.toList[j].val:Int)≤0
  simp only [Array.getElem_toList]
  omega
theorem sortF_pm (l:List Content) (hl:l.length<1000000) (hA:∀ k,(l.getD k default).ages.length<1000000) (n:Nat) (hn:l.length=n) (h0:0<n):PM Try.prog [] 29 [.h 0 n,.c 30 [.q [sl' 2 Content.d l] 0]] (Dp.Obj.row 3 1 n (fun j=>[I ((idxL n).getD j default)])) (fun d ob=>d=D.t []∧ob=Dp.Obj.row 3 1 n (fun j=>[I ((ordL l).getD j default)])):=by
 intro κ w x vs hκ hx1 _ hO hlen hd
 match vs,hlen with
 | [v0,v1],_ =>
  have hr:=hd 0 _ _ rfl rfl
  have hr1:=hd 1 _ _ rfl rfl
  have hc1:RepC w κ (.c 30 [.q [sl' 2 Content.d l] 0]) v1:=by
   cases hr1 with
   | one h=>cases h with
    | c h=>exact h
  obtain ⟨u,rfl,hu⟩:=repC_c hc1
  cases hr with
  | one hr=>cases hr with
   | c hr=>cases hr
   | h0 hr=>exact absurd h0 oM
   | @h _ _ g c hr hnc0 =>
    subst hn
    obtain rfl:x=some (g,c):=by simpa using hr
    rcases hO with ⟨e,_⟩|⟨g2,c2,cur,e,hh,hnc,hcm,hsz,hel⟩
    ·cases e
    injection e with e
    injection e with e1 e2
    subst e1 e2
    have hgl:=(hx1 _ rfl).1
    have hgk:=(hx1 _ rfl).2
    have hcur:∀ i,i<l.length→cur[i]? = some (.int .i64 (i:Int)):=fun i hi=>by
     obtain ⟨v,k1,k2⟩:=(hel i hi).2.2 0 _ rfl
     rw [Nat.mul_one,Nat.add_zero] at k1
     rw [k1,repC_v k2,idx_at hi]
    letI:Inhabited (Fin l.length):=⟨⟨0,h0⟩⟩
    have hds:(List.finRange l.length).toArray.size=l.length:=by simp
    have hdg:∀ j (hj:j<l.length),((List.finRange l.length).toArray[j]! : Fin l.length)=⟨j,hj⟩:=fun j hj=>by
     rw [getElem!_pos _ j (by rw [hds]; exact hj)]
     simp
    have H:Go.Sort.Holds (encF l.length) w g 0 (List.finRange l.length).toArray:=fun j hj=>by
     rw [hds] at hj
     refine ⟨?_,?_⟩
     ·rw [cell_of_row w g (0+j) cur _ (0,0) hh,Nat.zero_add,hcur j hj,hdg j hj]
      rfl
     ·unfold World.frozen?
      simp [hh]
    have hcmp:Go.Proofs.CmpLays1 Try.prog 30 #[u] (encF l.length) (cfI l) g 0 (List.finRange l.length).toArray.size w:=by
     intro m os dk _ p q
     have hsw:(Go.Proofs.sortWorld (encF l.length) w g 0 m dk os).heap=(w.heap.modify g (Go.Sort.onCells (Go.Sort.putCells (encF l.length) 0 dk)))++os:=rfl
     have hss:w.heap.size≤(Go.Proofs.sortWorld (encF l.length) w g 0 m dk os).heap.size:=by
      rw [hsw]
      simp
     have h:=ord_pc l hl hA p.val q.val p.isLt q.isLt κ (Go.Proofs.sortWorld (encF l.length) w g 0 m dk os) [.int .i64 (p.val:Int),.int .i64 (q.val:Int),u] (fun b hb=>Nat.lt_of_lt_of_le (hκ b hb) hss) (fun y hy=>by cases hy) rfl fun j d v a1 a2=>by
      match j,a1,a2 with
      | 0,a1,a2=>cases a1; cases a2; exact .v _
      | 1,a1,a2=>cases a1; cases a2; exact .v _
      | 2,a1,a2 =>
       cases a1
       cases a2
       refine hu.mono fun b hb=>⟨hb,?_⟩
       rw [hsw,Array.getElem?_append_left (by simpa using hκ b hb),Array.getElem?_modify,if_neg]
       intro e
       subst e
       exact hgk hb
     refine (calls_drawn h fun e w' ⟨v,_,he,_⟩=>⟨v,he⟩).mono ?_
     rintro e w' ⟨⟨v,d,rfl,rfl,hv,hb⟩,hdr⟩
     refine ⟨?_,world_grow hb hdr⟩
     rw [repC_v hv]
     rfl
    have hrun:=Go.Proofs.Any.slices_SortFunc sortFL (encF l.length) (fun _=>rfl) (cfI l) (swo_of (cfI_ord l)) 30 #[u] g 0 c (List.finRange l.length).toArray w (Go.Proofs.enters_of Try.func30 kR rfl) hcmp H hgl (by rw [hds]; omega)
    rw [hds] at hrun
    refine hrun.mono ?_
    rintro e w' ⟨rfl,d',k,os,hp,hs,rfl⟩
    have hsz2:d'.size=l.length:=by rw [hp.1,hds]
    have hlist:=sorted_is hp hs
    have hheap:(Go.Proofs.sortWorld (encF l.length) w g 0 k d' os).heap=(w.heap.modify g (Go.Sort.onCells (Go.Sort.putCells (encF l.length) 0 d')))++os:=rfl
    have hg:(Go.Proofs.sortWorld (encF l.length) w g 0 k d' os).heap[g]? = some (.cells (Go.Sort.putCells (encF l.length) 0 d' cur) 3 (0,0)):=by
     rw [hheap,Array.getElem?_append_left (by simpa using hgl),Array.getElem?_modify,if_pos rfl,hh]
     rfl
    refine ⟨.tuple #[],.t [],_,rfl,⟨rfl,rfl⟩,.t (vs:=[]) rfl (fun j d v h=>by simp at h),.inr ⟨g,c,_,rfl,hg,hnc,hcm,by simp [Go.Sort.putCells,hsz],fun i hi=>⟨rfl,rfl,fun j d hj => ?_⟩⟩,rfl,rfl,rfl,?_,fun b hb' hne => ?_⟩
    ·match j,hj with
     | 0,hj =>
      cases hj
      refine ⟨_,?_,.v _⟩
      have hc:=hcur i hi
      rw [Nat.mul_one,Nat.add_zero]
      unfold Go.Sort.putCells
      rw [Array.getElem?_mapIdx,hc,Option.map_some,if_pos ⟨Nat.zero_le _,by omega⟩,Nat.sub_zero]
      unfold encF
      congr 2
      rw [← hlist,List.getD_eq_getElem?_getD,List.getElem?_map,getElem!_pos d' i oM,List.getElem?_eq_getElem (by simpa using (show i<d'.size by omega))]
      simp
    ·rw [hheap]
     simp
    ·rw [hheap,Array.getElem?_append_left (by simpa using hb'),Array.getElem?_modify,if_neg]
     intro e
     subst e
     exact hne c rfl
end Go.Proofs.Ytkhdnlkdcikdmaa.Pl
