/- Numbers in rising order. No function of the program in it. -/
import Derived.Test.YtdomlccfjnkbjaaDpNil
namespace Go.Proofs.Ytdomlccfjnkbjaa.Pl
open Go.RowKit Go.Proofs.Ytdomlccfjnkbjaa.Sm Go.Proofs.Ytdomlccfjnkbjaa.Dp
set_option maxHeartbeats 4000000
set_option maxRecDepth 100000
set_option linter.unusedVariables false
set_option linter.unusedSimpArgs false
def srtI (xs:List Int):List Int:=xs.mergeSort fun x y=>decide (x≤y)
theorem srt_perm (xs:List Int):(srtI xs).Perm xs:=List.mergeSort_perm xs _
theorem srt_len (xs:List Int):(srtI xs).length=xs.length:=(srt_perm xs).length_eq
theorem srt_sorted (xs:List Int):(srtI xs).Pairwise (· ≤ ·):=by
 have h:=List.pairwise_mergeSort (le:=fun x y:Int=>decide (x≤y)) (fun a b c h1 h2=>by simp at *; omega) (fun a b=>by simp; omega) xs
 exact h.imp fun h=>by simpa using h
theorem srt_unique {xs ys:List Int} (hp:ys.Perm xs) (hs:ys.Pairwise (· ≤ ·)):ys=srtI xs :=
 List.Perm.eq_of_pairwise (fun a b _ _ h1 h2=>Int.le_antisymm h1 h2) hs (srt_sorted xs) (hp.trans (srt_perm xs).symm)
theorem srt_congr {xs ys:List Int} (hp:ys.Perm xs):srtI ys=srtI xs:=srt_unique ((srt_perm ys).trans hp) (srt_sorted ys)
theorem le_iff:∀ {ys:List Int},ys.Pairwise (· ≤ ·)→∀ {k:Nat},k<ys.length→∀ x:Int,ys.getD k default≤x↔k<ys.countP (fun y=>decide (y≤x))
 | [],_,k,h,_=>absurd h (Nat.not_lt_zero k)
 | y::ys,hs,k,hk,x=>by
  rw [List.pairwise_cons] at hs
  by_cases hy:y≤x
  ·rw [List.countP_cons_of_pos (by simpa using hy)]
   match k with
   | 0=>simpa using hy
   | k+1 =>
    have:=le_iff hs.2 (k:=k) (by simpa using hk) x
    rw [List.getD_cons_succ,this]
    omega
  ·have h0:ys.countP (fun y=>decide (y≤x))=0:=by
    rw [List.countP_eq_zero]
    intro z hz
    have:=hs.1 z hz
    simp
    omega
   rw [List.countP_cons_of_neg (by simpa using hy),h0]
   refine ⟨fun h => ?_,fun h=>absurd h (Nat.not_lt_zero k)⟩
   match k with
   | 0=>exact absurd h (by simpa using hy)
   | k+1 =>
    rw [List.getD_cons_succ] at h
    have hk':k<ys.length:=by simpa using hk
    have hm:ys.getD k default ∈ ys:=by rw [List.getD_eq_getElem?_getD,List.getElem?_eq_getElem hk']; exact List.getElem_mem hk'
    have:=hs.1 _ hm
    omega
theorem srt_le {xs:List Int} {k:Nat} (hk:k<xs.length) (x:Int):(srtI xs).getD k default≤x↔k<xs.countP (fun y=>decide (y≤x)):=by
 rw [le_iff (srt_sorted xs) (by rw [srt_len]; exact hk) x,(srt_perm xs).countP_eq]
def cutB (n:Nat) (f:Int):Bool:=decide (0≤f)&&decide (f<((n:Int)+1)/2)
def cutL (xs:List Int) (f:Int):List Int:=if cutB xs.length f=true then ((srtI xs).drop f.toNat).take (xs.length-2*f.toNat) else []
theorem cutB_iff {n:Nat} {f:Int}:cutB n f=true↔0≤f∧2*f<(n:Int):=by
 unfold cutB
 rw [Bool.and_eq_true,decide_eq_true_eq,decide_eq_true_eq]
 omega
theorem cutL_len {xs:List Int} {f:Int} (h:cutB xs.length f=true):(cutL xs f).length=xs.length-2*f.toNat:=by
 have h1:=cutB_iff.1 h
 rw [cutL,if_pos h,List.length_take,List.length_drop,srt_len]
 omega
theorem cutL_at {xs:List Int} {f:Int} (h:cutB xs.length f=true) {i:Nat} (hi:i<xs.length-2*f.toNat):(cutL xs f).getD i default=(srtI xs).getD (f.toNat+i) default:=by
 have h1:=cutB_iff.1 h
 rw [cutL,if_pos h,List.getD_eq_getElem?_getD,List.getD_eq_getElem?_getD,List.getElem?_take,if_pos hi,List.getElem?_drop]
theorem count_append (xs ys:List Int) (x:Int):(xs++ys).countP (fun y=>decide (y≤x))=xs.countP (fun y=>decide (y≤x))+ys.countP (fun y=>decide (y≤x)):=List.countP_append
theorem count_near {d:Int}:∀ {xs ys:List Int},xs.length=ys.length→(∀ i,i<xs.length→ys.getD i default≤xs.getD i default+d)→∀ x,xs.countP (fun y=>decide (y≤x))≤ys.countP (fun y=>decide (y≤x+d))
 | [],[],_,_,_=>Nat.le_refl _
 | [],_::_,h,_,_=>by simp at h
 | _::_,[],h,_,_=>by simp at h
 | a::xs,b::ys,hl,h,x=>by
  have h0:=h 0 (by simp)
  have ih:=count_near (d:=d) (xs:=xs) (ys:=ys) (by simpa using hl) (fun i hi=>by simpa using h (i+1) (by simpa using hi)) x
  simp only [List.getD_cons_zero] at h0
  by_cases ha:a≤x
  ·rw [List.countP_cons_of_pos (by simpa using ha),List.countP_cons_of_pos (by simp; omega)]
   omega
  ·rw [List.countP_cons_of_neg (by simpa using ha),List.countP_cons]
   omega
theorem srt_near {d:Int} {xs ys:List Int} (hl:xs.length=ys.length) (h:∀ i,i<xs.length→ys.getD i default≤xs.getD i default+d) {k:Nat} (hk:k<xs.length):(srtI ys).getD k default≤(srtI xs).getD k default+d:=by
 rw [srt_le oM]
 exact Nat.lt_of_lt_of_le ((srt_le hk _).1 (Int.le_refl _)) (count_near hl h _)
theorem srt_up {xs:List Int} {i k:Nat} (hik:i≤k) (hk:k<xs.length):(srtI xs).getD i default≤(srtI xs).getD k default:=by
 rw [srt_le oM]
 exact Nat.lt_of_le_of_lt hik ((srt_le hk _).1 (Int.le_refl _))
theorem count_all {xs:List Int} {x:Int} (h:∀ y ∈ xs,y≤x):xs.countP (fun y=>decide (y≤x))=xs.length:=by
 rw [List.countP_eq_length]
 intro y hy
 simpa using h y hy
theorem count_none {xs:List Int} {x:Int} (h:∀ y ∈ xs,x<y):xs.countP (fun y=>decide (y≤x))=0:=by
 rw [List.countP_eq_zero]
 intro y hy
 have:=h y hy
 simp
 omega
theorem within {ws xs:List Int} {f:Nat} {lo hi:Int} (hw:ws.length≤f) (hx:∀ y ∈ xs,lo≤y∧y≤hi) (h:2*f<(ws++xs).length) :
  lo≤(srtI (ws++xs)).getD f default∧(srtI (ws++xs)).getD f default≤hi∧lo≤(srtI (ws++xs)).getD ((ws++xs).length-1-f) default∧(srtI (ws++xs)).getD ((ws++xs).length-1-f) default≤hi:=by
 have hn:(ws++xs).length=ws.length+xs.length:=List.length_append
 have h1:lo≤(srtI (ws++xs)).getD f default:=by
  refine Int.not_lt.1 fun hlt => ?_
  have h2:=(srt_le (xs:=ws++xs) (k:=f) oM (lo-1)).1 oM
  rw [count_append,count_none (xs:=xs) fun y hy=>by have:=hx y hy; omega] at h2
  have:=List.countP_le_length (p:=fun y=>decide (y≤lo-1)) (l:=ws)
  omega
 have h2:(srtI (ws++xs)).getD ((ws++xs).length-1-f) default≤hi:=by
  rw [srt_le oM,count_append,count_all (xs:=xs) fun y hy=>(hx y hy).2]
  omega
 have h3:=srt_up (xs:=ws++xs) (i:=f) (k:=(ws++xs).length-1-f) oM oM
 exact ⟨h1,by omega,by omega,h2⟩
theorem cross {ws vs xs ys:List Int} {f:Nat} {d:Int} (hw:ws.length=f) (hv:vs.length=f) (hl:xs.length=ys.length) (hn:2*f+1≤xs.length) (h:∀ i,i<xs.length→ys.getD i default≤xs.getD i default+d) :
  (srtI (vs++ys)).getD f default≤(srtI (ws++xs)).getD ((ws++xs).length-1-f) default+d:=by
 have hn1:(ws++xs).length=ws.length+xs.length:=List.length_append
 have hn2:(vs++ys).length=vs.length+ys.length:=List.length_append
 rw [srt_le oM,count_append]
 have h1:=(srt_le (xs:=ws++xs) (k:=(ws++xs).length-1-f) oM _).1 (Int.le_refl _)
 rw [count_append] at h1
 have h2:=count_near hl h ((srtI (ws++xs)).getD ((ws++xs).length-1-f) default)
 have h3:=List.countP_le_length (p:=fun y=>decide (y≤(srtI (ws++xs)).getD ((ws++xs).length-1-f) default)) (l:=ws)
 omega
theorem srt_map (xs:List Int) (c:Int):srtI (xs.map (· + c))=(srtI xs).map (· + c):=by
 refine (srt_unique ((srt_perm xs).map _) ?_).symm
 rw [List.pairwise_map]
 exact (srt_sorted xs).imp fun h=>by omega
theorem ins_sorted {ys:List Int} {x:Int} {k:Nat} (hk:k≤ys.length) (hs:ys.Pairwise (· ≤ ·)) (h1:∀ i,i<k→ys.getD i default≤x) (h2:k<ys.length→x<ys.getD k default):(ys.take k++[x]++ys.drop k).Pairwise (· ≤ ·):=by
 have ht:∀ y ∈ ys.take k,y≤x:=by
  intro y hy
  obtain ⟨i,hi,rfl⟩:=List.mem_iff_getElem.1 hy
  rw [List.length_take] at hi
  have:=h1 i oM
  rw [List.getD_eq_getElem?_getD,List.getElem?_eq_getElem oM,Option.getD_some] at this
  rw [List.getElem_take]
  exact this
 have hd:∀ y ∈ ys.drop k,x≤y:=by
  intro y hy
  obtain ⟨i,hi,rfl⟩:=List.mem_iff_getElem.1 hy
  rw [List.length_drop] at hi
  have h3:=h2 oM
  rw [List.getD_eq_getElem?_getD,List.getElem?_eq_getElem oM,Option.getD_some] at h3
  rw [List.getElem_drop]
  have h4:ys[k]≤ys[k+i]:=by
   rcases Nat.eq_zero_or_pos i with rfl|hp
   ·exact Int.le_refl _
   ·exact (List.pairwise_iff_getElem.1 hs) k (k+i) oM oM oM
  omega
 rw [List.append_assoc,List.pairwise_append]
 refine ⟨hs.sublist (List.take_sublist _ _),?_,fun a ha b hb => ?_⟩
 ·rw [List.singleton_append,List.pairwise_cons]
  exact ⟨hd,hs.sublist (List.drop_sublist _ _)⟩
 ·rw [List.singleton_append,List.mem_cons] at hb
  have:=ht a ha
  rcases hb with rfl|hb
  ·exact this
  ·have:=hd b hb; omega
theorem ins_perm (ys:List Int) (x:Int) (k:Nat):(ys.take k++[x]++ys.drop k).Perm (ys++[x]):=by
 have h:(ys.take k++ys.drop k++[x]).Perm (ys++[x]):=by rw [List.take_append_drop]
 refine .trans ?_ h
 rw [List.append_assoc,List.append_assoc]
 exact List.Perm.append_left _ List.perm_append_comm
end Go.Proofs.Ytdomlccfjnkbjaa.Pl
