/- slices.Clone and slices.Sort of numbers of 64 bits, as contracts. -/
import Derived.Test.YtdomlccfjnkbjaaMiLay
import Derived.Test.YtdomlccfjnkbjaaMiMath
import Derived.Test.YtdomlccfjnkbjaaDpC
import Derived.Test.YtdomlccfjnkbjaaDpB
namespace Go.Proofs.Ytdomlccfjnkbjaa.Pl
open Go.RowKit Go.Proofs.Ytdomlccfjnkbjaa.Sm Go.Proofs.Ytdomlccfjnkbjaa.Dp
set_option maxHeartbeats 4000000
set_option maxRecDepth 100000
set_option linter.unusedVariables false
set_option linter.unusedSimpArgs false
theorem clone_pi (xs:List Int) (h0:0<xs.length) (hb:xs.length<1000000):PI Try.prog [] 14 [sl' 1 (fun x=>[I x]) xs] [] (fun d m=>d = .h 0 xs.length∧m=[Dp.Obj.row 2 1 xs.length (fun j=>[I (xs.getD j default)])]):=by
 intro κ w ρ vs hM hκ hG hl hd
 match vs,hl with
 | [v0],_ =>
  have hr:=hd 0 _ _ rfl rfl
  obtain rfl : ρ = []:=List.length_eq_zero_iff.1 hM.len
  have hrc:RepC w (okW κ w []) (sl' 1 (fun x=>[I x]) xs) v0:=by
   cases hr with
   | one hr=>cases hr with
    | c hr=>exact hr
  unfold sl' at hrc
  generalize hn:xs.length=n at hrc h0 hb ⊢
  cases hrc with
  | s0 z f a c ha hc=>omega
  | @s _ _ _ b off c vals hb' hnc hcm hz hv hd' =>
   have hvx:∀ i,i<n→vals i 0 = .int .i64 (xs.getD i default):=fun i hi=>repC_v (hd' i 0 _ hi rfl)
   have hi0:(Try.prog.info? (cloneL_ren.t 23)).map (fun i=>(i.zero,i.size,i.bytes))=some (some (Value.int .i64 0),1,8):=by kernel_rfl
   obtain ⟨i0,q1,q2⟩:=Option.map_eq_some_iff.1 hi0
   simp only [Prod.mk.injEq] at q2
   refine (AnyE.slices_Clone cloneL i0 (.int .i64 0) 1 8 q1 q2.1 q2.2.1 q2.2.2 rfl (by decide) Try.sizeOf2 b off n c (xs.map (Value.int .i64)) w (by rw [List.length_map]; omega) (by unfold maxLen; omega) oM ?_ ?_).mono ?_
   ·intro j u hj
    rw [List.getElem?_map] at hj
    obtain ⟨x,hx,rfl⟩:=Option.map_eq_some_iff.1 hj
    have hjn:j<n:=by rw [← hn]; exact (List.getElem?_eq_some_iff.1 hx).1
    have h1:=hv j 0 hjn (by decide)
    rw [Nat.mul_one,Nat.add_zero,hvx j hjn,List.getD_eq_getElem?_getD,hx] at h1
    exact h1
   ·intro u hu
    obtain ⟨x,_,rfl⟩:=List.mem_map.1 hu
    rfl
   ·rintro e w' ⟨v',rfl,ho,hne,hbel⟩
    rcases ho.2 with ⟨hv',_⟩|⟨g,cap,cur,rfl,hg,hh,hnc',hcm',hsz,htk⟩
    ·exact absurd hv' hne
    have hgl:g<w'.heap.size:=(Array.getElem?_eq_some_iff.1 hh).1
    refine ⟨_,.h 0 n,[Dp.Obj.row 2 1 n (fun j=>[I (xs.getD j default)])],[some (g,cap)],rfl,⟨rfl,rfl⟩,.one (.h rfl hnc'),⟨rfl,fun b' x hx => ?_,fun b1 b2 x1 x2 e1 e2 _ => ?_,fun b' o ho' => ?_⟩,fun i x hx=>by simp at hx,fun b' x hx => ?_,hbel.os,hbel.tape,hbel.output,hbel.size,fun k hk _=>hbel.block k hk⟩
    ·match b',hx with
     | 0,hx=>cases hx; exact ⟨hκ g hg,hgl⟩
    ·match b1,e1,b2,e2 with
     | 0,_,0,_=>rfl
    ·match b',ho' with
     | 0,ho' =>
      cases ho'
      refine .inr ⟨g,cap,cur,rfl,hh,hnc',hcm',hsz,fun i hi=>⟨rfl,rfl,fun j d hj => ?_⟩⟩
      match j,hj with
      | 0,hj =>
       cases hj
       refine ⟨.int .i64 (xs.getD i default),?_,.v _⟩
       have h2:(xs.map (Value.int .i64))[i]? = some (.int .i64 (xs.getD i default)):=by
        rw [List.getElem?_map,List.getD_eq_getElem?_getD,List.getElem?_eq_getElem oM]
        rfl
       rw [← htk,List.getElem?_take,if_pos oM] at h2
       rw [Nat.mul_one,Nat.add_zero]
       simpa using h2
    ·match b',hx with
     | 0,hx=>cases hx; exact .inl hg
theorem sort_pm (xs:List Int) (n:Nat) (hx:xs.length=n) (h0:0<n) (hb:n<1000000):PM Try.prog [] 15 [.h 0 n] (Dp.Obj.row 2 1 n (fun j=>[I (xs.getD j default)])) (fun d ob=>d=D.t []∧ob=Dp.Obj.row 2 1 n (fun j=>[I ((srtI xs).getD j default)])):=by
 intro κ w x vs hκ hx1 _ hO hl hd
 match vs,hl with
 | [v0],_ =>
  have hr:=hd 0 _ _ rfl rfl
  cases hr with
  | one hr=>cases hr with
   | c hr=>cases hr
   | h0 hr=>exact absurd h0 oM
   | @h _ _ g c hr hn =>
    subst hx
    obtain rfl:x=some (g,c):=by simpa using hr
    rcases hO with ⟨e,_⟩|⟨g2,c2,cur,e,hh,hnc,hcm,hsz,hel⟩
    ·cases e
    injection e with e
    injection e with e1 e2
    subst e1 e2
    have hgl:=(hx1 _ rfl).1
    have hcur:∀ i,i<xs.length→cur[i]? = some (.int .i64 (xs.getD i default)):=fun i hi=>by
     obtain ⟨v,k1,k2⟩:=(hel i hi).2.2 0 _ rfl
     rw [Nat.mul_one,Nat.add_zero] at k1
     rw [k1,repC_v k2]
    have H:Sort.Holds (Value.int .i64) w g 0 xs.toArray:=fun j hj=>by
     have hj':j<xs.length:=by simpa using hj
     refine ⟨?_,?_⟩
     ·rw [cell_of_row w g (0+j) cur _ (0,0) hh,Nat.zero_add,hcur j hj']
      congr 2
      rw [getElem!_pos _ j hj,List.getD_eq_getElem?_getD,List.getElem?_eq_getElem hj']
      rfl
     ·unfold World.frozen?
      simp [hh]
    refine (AnyM.slices_Sort_int sortL g 0 c xs w H hgl oM).mono ?_
    rintro e w' ⟨rfl,k,os,rfl⟩
    have hheap:(Sort.grow (Sort.putRow (Value.int .i64) (Sort.ahead w k) g 0 (xs.mergeSort fun x y=>decide (x≤y)).toArray) os).heap=(w.heap.modify g (Sort.onCells (Sort.putCells (Value.int .i64) 0 (srtI xs).toArray)))++os:=rfl
    have hg:(Sort.grow (Sort.putRow (Value.int .i64) (Sort.ahead w k) g 0 (xs.mergeSort fun x y=>decide (x≤y)).toArray) os).heap[g]? = some (.cells (Sort.putCells (Value.int .i64) 0 (srtI xs).toArray cur) 2 (0,0)):=by
     rw [hheap,Array.getElem?_append_left (by simpa using hgl),Array.getElem?_modify,if_pos rfl,hh]
     rfl
    refine ⟨.tuple #[],.t [],_,rfl,⟨rfl,rfl⟩,.t (vs:=[]) rfl (fun j d v h=>by simp at h),.inr ⟨g,c,_,rfl,hg,hnc,hcm,by simp [Sort.putCells,hsz],fun i hi=>⟨rfl,rfl,fun j d hj => ?_⟩⟩,rfl,rfl,rfl,?_,fun b hb' hne => ?_⟩
    ·match j,hj with
     | 0,hj =>
      cases hj
      refine ⟨_,?_,.v _⟩
      have hc:=hcur i hi
      have hsl:(srtI xs).length=xs.length:=srt_len xs
      rw [Nat.mul_one,Nat.add_zero]
      unfold Sort.putCells
      rw [Array.getElem?_mapIdx,hc,Option.map_some,if_pos ⟨Nat.zero_le _,by simp only [List.size_toArray]; omega⟩,Nat.sub_zero]
      congr 2
      rw [getElem!_pos _ i (by simp only [List.size_toArray]; omega),List.getD_eq_getElem?_getD,List.getElem?_eq_getElem oM]
      rfl
    ·rw [hheap]
     simp
    ·rw [hheap,Array.getElem?_append_left (by simpa using hb'),Array.getElem?_modify,if_neg]
     intro e
     subst e
     exact hne c rfl
end Go.Proofs.Ytdomlccfjnkbjaa.Pl
