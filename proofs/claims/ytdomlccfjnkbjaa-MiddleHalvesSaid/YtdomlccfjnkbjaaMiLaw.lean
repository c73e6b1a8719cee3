/- Chapter 13: what the laws lean on. -/
import Derived.Test.YtdomlccfjnkbjaaMiThree
namespace Go.Proofs.Ytdomlccfjnkbjaa.Pl
open Go.RowKit Go.Proofs.Ytdomlccfjnkbjaa.Sm Go.Proofs.Ytdomlccfjnkbjaa.Dp
set_option maxHeartbeats 4000000
set_option maxRecDepth 100000
set_option linter.unusedVariables false
set_option linter.unusedSimpArgs false
def upN (g:Nat→Int) (i:Nat):List Int:=(List.range i).map g
theorem upN_one (g:Nat→Int) (i:Nat):upN g (i+1)=upN g i++[g i]:=by simp [upN,List.range_succ]
theorem upN_len (g:Nat→Int) (i:Nat):(upN g i).length=i:=by simp [upN]
theorem upN_at (g:Nat→Int) {i k:Nat} (h:k<i):(upN g i).getD k default=g k:=by simp [upN,List.getD_eq_getElem?_getD,h]
theorem upN_mem {g:Nat→Int} {i:Nat} {x:Int} (h:x ∈ upN g i):∃ k,k<i∧x=g k:=by
 obtain ⟨k,h1,h2⟩:=List.mem_map.1 h
 exact ⟨k,List.mem_range.1 h1,h2.symm⟩
theorem upN_is {g:Nat→Int} {xs:List Int} (h:∀ k,k<xs.length→g k=xs.getD k default):upN g xs.length=xs:=by
 refine List.ext_getElem (upN_len _ _) fun k h1 h2 => ?_
 have:=upN_at g h2
 rw [List.getD_eq_getElem?_getD,List.getElem?_eq_getElem h1,Option.getD_some] at this
 rw [this,h k h2,List.getD_eq_getElem?_getD,List.getElem?_eq_getElem h2,Option.getD_some]
theorem mem_at {xs:List Int} {k:Nat} (h:k<xs.length):xs.getD k default ∈ xs:=by
 rw [List.getD_eq_getElem?_getD,List.getElem?_eq_getElem h]
 exact List.getElem_mem h
theorem at_of {xs:List Int} {x:Int} (h:x ∈ xs):∃ k,k<xs.length∧x=xs.getD k default:=by
 obtain ⟨k,h1,h2⟩:=List.mem_iff_getElem.1 h
 exact ⟨k,h1,by rw [List.getD_eq_getElem?_getD,List.getElem?_eq_getElem h1,Option.getD_some,h2]⟩
theorem srt_mem {xs:List Int} {k:Nat} (hk:k<xs.length):(srtI xs).getD k default ∈ xs:=(srt_perm xs).mem_iff.1 (mem_at (by rw [srt_len]; exact hk))
theorem times_of {xs:List Int} (h:∀ x ∈ xs, -1099511627776≤x∧x≤1099511627776):timesB xs=true:=by
 unfold timesB
 rw [allN_iff]
 intro i hi
 have:=h _ (mem_at hi)
 unfold timeB
 rw [Bool.and_eq_true,decide_eq_true_eq,decide_eq_true_eq]
 exact this
theorem mid_short {xs:List Int} {f:Nat} (h:¬ 2*f<xs.length):midB xs (f:Int)=false:=by
 have hb:cutB xs.length (f:Int)=false:=by
  rw [← Bool.not_eq_true,cutB_iff]
  omega
 unfold midB
 rw [hb]
 rfl
theorem mid_val {xs:List Int} {f:Nat} (hx:∀ x ∈ xs, -1099511627776≤x∧x≤1099511627776) (h:2*f<xs.length) (hs:xs.length<1000000):midB xs (f:Int)=true∧midI xs (f:Int)=((srtI xs).getD f default+(srtI xs).getD (xs.length-1-f) default)/2 ∧ -1099511627776≤midI xs (f:Int)∧midI xs (f:Int)≤1099511627776:=by
 have hc:cutB xs.length (f:Int)=true:=cutB_iff.2 oM
 have hm:midB xs (f:Int)=true:=by unfold midB; rw [hc,times_of hx]; rfl
 have hl:=cutL_len hc
 rw [Int.toNat_natCast] at hl
 have e0:=cutL_at hc (i:=0) (by rw [Int.toNat_natCast]; omega)
 have e1:=cutL_at hc (i:=xs.length-2*f-1) (by rw [Int.toNat_natCast]; omega)
 rw [Int.toNat_natCast] at e0 e1
 rw [Nat.add_zero] at e0
 rw [show f+(xs.length-2*f-1)=xs.length-1-f by omega] at e1
 have b0:=hx _ (srt_mem (xs:=xs) (k:=f) oM)
 have b1:=hx _ (srt_mem (xs:=xs) (k:=xs.length-1-f) oM)
 have ew:(IntKind.i64.wrap (((cutL xs (f:Int)).length:Int)-1)).toNat=xs.length-2*f-1:=by
  rw [Ev.wrap_i64 oM oM,hl]
  omega
 have ev:midI xs (f:Int)=((srtI xs).getD f default+(srtI xs).getD (xs.length-1-f) default)/2:=by
  rw [midI,if_pos hm,floorI,if_neg (by decide),endsI,ew,e0,e1,Ev.wrap_i64 oM oM]
 refine ⟨hm,ev,?_,?_⟩ <;> rw [ev] <;> omega
theorem map_at {xs:List Int} {g:Int→Int} {k:Nat} (h:k<xs.length):(xs.map g).getD k default=g (xs.getD k default):=by simp [List.getD_eq_getElem?_getD,h]
theorem turned_end {xs:List Int} {b:Int} {f:Nat} (hx:∀ x ∈ xs, -2147483648≤x∧x≤2147483647) (hb : -2147483648≤b∧b≤2147483647) (hs:xs.length≤60) (h:2*f<xs.length) :
  midB xs (f:Int)=true∧midB xs.reverse (f:Int)=true∧midB (xs.map (· + b)) (f:Int)=true∧midI xs (f:Int)=midI xs.reverse (f:Int)∧midI (xs.map (· + b)) (f:Int)=IntKind.i64.wrap (midI xs (f:Int)+b):=by
 have h1:=mid_val (xs:=xs) (f:=f) (fun x hx'=>by have:=hx x hx'; omega) h oM
 have h2:=mid_val (xs:=xs.reverse) (f:=f) (fun x hx'=>by have:=hx x (List.mem_reverse.1 hx'); omega) (by rw [List.length_reverse]; exact h) (by rw [List.length_reverse]; omega)
 have h3:=mid_val (xs:=xs.map (· + b)) (f:=f) (fun x hx'=>by obtain ⟨y,hy,rfl⟩:=List.mem_map.1 hx'; have:=hx y hy; omega) (by rw [List.length_map]; exact h) (by rw [List.length_map]; omega)
 rw [srt_congr (List.reverse_perm xs),List.length_reverse] at h2
 rw [srt_map,List.length_map,map_at (by rw [srt_len]; omega),map_at (by rw [srt_len]; omega)] at h3
 refine ⟨h1.1,h2.1,h3.1,by rw [h1.2.1,h2.2.1],?_⟩
 rw [Ev.wrap_i64 oM oM,h3.2.1,h1.2.1]
 omega
theorem within_end {vs rs:List Int} {lo hi:Int} {f:Nat} (hv:∀ x ∈ vs, -1099511627776≤x∧x≤1099511627776) (hx:∀ x ∈ rs, -2147483648≤x∧x≤2147483647) (hr:∀ x ∈ rs,lo≤x∧x≤hi) (hw:vs.length≤f) (h:2*f<(vs++rs).length) (hs:(vs++rs).length<1000000) :
  midB (vs++rs) (f:Int)=true∧lo≤midI (vs++rs) (f:Int)∧midI (vs++rs) (f:Int)≤hi:=by
 have h1:=mid_val (xs:=vs++rs) (f:=f) (fun x hx'=>by
  rcases List.mem_append.1 hx' with h9|h9
  ·exact hv x h9
  ·have:=hx x h9; omega) h hs
 have h2:=within hw hr h
 refine ⟨h1.1,?_,?_⟩ <;> rw [h1.2.1] <;> omega
theorem near_end {A B:Nat→Int} {n f:Nat} {d:Int} (ha:∀ k,k<n → -4294967296≤A k∧A k≤4294967296) (hb:∀ k,k<n → -4294967296≤B k∧B k≤4294967296) (hd:∀ k,k<n→B k≤A k+d∧A k≤B k+d) (h:2*f<n) (hs:n<1000000) :
  midB (upN A n) (f:Int)=true∧midB (upN B n) (f:Int)=true∧IntKind.i64.wrap (midI (upN A n) (f:Int)-midI (upN B n) (f:Int))≤d∧IntKind.i64.wrap (midI (upN B n) (f:Int)-midI (upN A n) (f:Int))≤d:=by
 have la:=upN_len A n
 have lb:=upN_len B n
 have h1:=mid_val (xs:=upN A n) (f:=f) (fun x hx=>by obtain ⟨k,hk,rfl⟩:=upN_mem hx; have:=ha k hk; omega) oM oM
 have h2:=mid_val (xs:=upN B n) (f:=f) (fun x hx=>by obtain ⟨k,hk,rfl⟩:=upN_mem hx; have:=hb k hk; omega) oM oM
 have n1:=fun k hk=>srt_near (k:=k) (d:=d) (xs:=upN A n) (ys:=upN B n) oM (fun i hi=>by rw [la] at hi; rw [upN_at _ hi,upN_at _ hi]; exact (hd i hi).1) hk
 have n2:=fun k hk=>srt_near (k:=k) (d:=d) (xs:=upN B n) (ys:=upN A n) oM (fun i hi=>by rw [lb] at hi; rw [upN_at _ hi,upN_at _ hi]; exact (hd i hi).2) hk
 have a1:=n1 f oM
 have a2:=n1 (n-1-f) oM
 have a3:=n2 f oM
 have a4:=n2 (n-1-f) oM
 rw [la] at h1
 rw [lb] at h2
 refine ⟨h1.1,h2.1,?_,?_⟩ <;> rw [Ev.wrap_i64 oM oM,h1.2.1,h2.2.1] <;> omega
theorem upN_cut (g:Nat→Int) {f n:Nat} (h:f≤n):upN g n=upN g f++upN (fun k=>g (f+k)) (n-f):=by
 refine List.ext_getElem (by rw [List.length_append,upN_len,upN_len,upN_len]; omega) fun k h1 h2 => ?_
 rw [List.getElem_append]
 simp only [upN,List.getElem_map,List.getElem_range,List.length_map,List.length_range]
 split
 ·rfl
 ·congr 1
  omega
theorem halves_end {X Y:Nat→Int} {n f:Nat} {d lo hi:Int} (hs:n≤40) (h:3*f+1≤n) (hx:∀ k,k<n → -4294967296≤X k∧X k≤4294967296) (hy:∀ k,k<n → -4294967296≤Y k∧Y k≤4294967296) (hd0:0≤d∧d≤255) (hlo : -70000≤lo) (hhi:hi≤140000)
  (hr:∀ k,f≤k→k<n→(lo≤X k∧X k≤hi)∧(lo≤Y k∧Y k≤hi)) (hd:∀ k,f≤k→k<n→Y k≤X k+d∧X k≤Y k+d) :
  midB (upN X n) (f:Int)=true∧midB (upN Y n) (f:Int)=true∧IntKind.i64.wrap (midI (upN X n) (f:Int)-midI (upN Y n) (f:Int))≤IntKind.i64.wrap (IntKind.i64.wrap (IntKind.i64.wrap ((IntKind.i64.wrap (hi-lo)).tdiv 2)+d)+1)∧IntKind.i64.wrap (midI (upN Y n) (f:Int)-midI (upN X n) (f:Int))≤IntKind.i64.wrap (IntKind.i64.wrap (IntKind.i64.wrap ((IntKind.i64.wrap (hi-lo)).tdiv 2)+d)+1):=by
 have hlh:=hr f (Nat.le_refl _) oM
 have la:=upN_len X n
 have lb:=upN_len Y n
 have h1:=mid_val (xs:=upN X n) (f:=f) (fun x hx'=>by obtain ⟨k,hk,rfl⟩:=upN_mem hx'; have:=hx k hk; omega) oM oM
 have h2:=mid_val (xs:=upN Y n) (f:=f) (fun x hx'=>by obtain ⟨k,hk,rfl⟩:=upN_mem hx'; have:=hy k hk; omega) oM oM
 have lw:=upN_len X f
 have lv:=upN_len Y f
 have lx:=upN_len (fun k=>X (f+k)) (n-f)
 have ly:=upN_len (fun k=>Y (f+k)) (n-f)
 have w1:=within (ws:=upN X f) (xs:=upN (fun k=>X (f+k)) (n-f)) (f:=f) (lo:=lo) (hi:=hi) oM (fun y hy'=>by obtain ⟨k,hk,rfl⟩:=upN_mem hy'; exact (hr (f+k) oM oM).1) (by rw [List.length_append]; omega)
 have w2:=within (ws:=upN Y f) (xs:=upN (fun k=>Y (f+k)) (n-f)) (f:=f) (lo:=lo) (hi:=hi) oM (fun y hy'=>by obtain ⟨k,hk,rfl⟩:=upN_mem hy'; exact (hr (f+k) oM oM).2) (by rw [List.length_append]; omega)
 have c1:=cross (d:=d) (ws:=upN X f) (vs:=upN Y f) (xs:=upN (fun k=>X (f+k)) (n-f)) (ys:=upN (fun k=>Y (f+k)) (n-f)) (f:=f) lw lv oM oM (fun i hi'=>by rw [lx] at hi'; rw [upN_at _ hi',upN_at _ hi']; exact (hd (f+i) oM oM).1)
 have c2:=cross (d:=d) (ws:=upN Y f) (vs:=upN X f) (xs:=upN (fun k=>Y (f+k)) (n-f)) (ys:=upN (fun k=>X (f+k)) (n-f)) (f:=f) lv lw oM oM (fun i hi'=>by rw [ly] at hi'; rw [upN_at _ hi',upN_at _ hi']; exact (hd (f+i) oM oM).2)
 rw [← upN_cut X oM] at w1 c1 c2
 rw [← upN_cut Y oM] at w2 c1 c2
 rw [la] at h1 w1 c1
 rw [lb] at h2 w2 c2
 have e1:IntKind.i64.wrap (hi-lo)=hi-lo:=Ev.wrap_i64 oM oM
 have e2:(hi-lo).tdiv 2=(hi-lo)/2:=Int.tdiv_eq_ediv_of_nonneg oM
 rw [e1,e2,Ev.wrap_i64 (x:=(hi-lo)/2) oM oM,Ev.wrap_i64 (x:=(hi-lo)/2+d) oM oM,Ev.wrap_i64 (x:=(hi-lo)/2+d+1) oM oM]
 refine ⟨h1.1,h2.1,?_,?_⟩ <;> rw [Ev.wrap_i64 oM oM,h1.2.1,h2.2.1] <;> omega
end Go.Proofs.Ytdomlccfjnkbjaa.Pl
