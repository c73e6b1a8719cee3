/- Chapter 14: order of contents, runs of the same, who wins. No function of the program in it. -/
import Derived.Test.YtkhdnlkdcikdmaaVoCmp
namespace Go.Proofs.Ytkhdnlkdcikdmaa.Pl
open Go.RowKit Go.Proofs.Ytkhdnlkdcikdmaa.Sm Go.Proofs.Ytkhdnlkdcikdmaa.Dp
open Go.Proofs.Ytkhdnlkdcikdmaa.Fr (bare frD frC)
set_option maxHeartbeats 4000000
set_option maxRecDepth 100000
set_option linter.unusedVariables false
set_option linter.unusedSimpArgs false
structure IsOrd {α : Type} (c : α → α → Int):Prop where
 swap:∀ x y,c y x = -c x y
 trans:∀ x y z,c x y≤0→c y z≤0→c x z≤0
 zero:∀ x y,c x y=0↔x=y
theorem cmpI_ord:IsOrd cmpI where
 swap:=cmpI_swap
 trans:=fun x y z=>by unfold cmpI; split <;> (try split) <;> (try split) <;> (try split) <;> (try split) <;> (try split) <;> omega
 zero:=fun x y=>cmpI_zero
theorem lex_swap:∀ xs ys,lexL ys xs = -lexL xs ys
 | [],[]=>rfl
 | [],_::_=>rfl
 | _::_,[]=>rfl
 | x::xs,y::ys=>by
  rw [lexL,lexL,cmpI_swap x y]
  by_cases h:cmpI x y=0
  ·rw [if_pos h,if_pos oM,lex_swap xs ys]
  ·rw [if_neg h,if_neg oM]
theorem lex_trans:∀ xs ys zs,lexL xs ys≤0→lexL ys zs≤0→lexL xs zs≤0
 | [],_,[],_,_=>by simp [lexL]
 | [],_,_::_,_,_=>by simp [lexL]
 | _::_,[],_,h,_=>absurd h (by simp [lexL])
 | _::_,_::_,[],_,h=>absurd h (by simp [lexL])
 | x::xs,y::ys,z::zs,h1,h2=>by
  rw [lexL] at h1 h2 ⊢
  by_cases e1:cmpI x y=0
  ·rw [if_pos e1] at h1
   obtain rfl:=cmpI_zero.1 e1
   by_cases e2:cmpI x z=0
   ·rw [if_pos e2] at h2 ⊢
    exact lex_trans xs ys zs h1 h2
   ·rw [if_neg e2] at h2 ⊢
    exact h2
  ·rw [if_neg e1] at h1
   by_cases e2:cmpI y z=0
   ·obtain rfl:=cmpI_zero.1 e2
    rw [if_neg e1]
    exact h1
   ·rw [if_neg e2] at h2
    have h3:=cmpI_ord.trans x y z h1 h2
    have h4:¬ cmpI x z=0:=fun h=>by
     obtain rfl:=cmpI_zero.1 h
     have:=cmpI_swap x y
     omega
    rw [if_neg h4]
    exact h3
theorem lex_ord:IsOrd lexL:=⟨lex_swap,lex_trans,fun _ _=>lex_zero⟩
theorem IsOrd.pair {α β : Type} {f : α → α → Int} {g : β → β → Int} (hf:IsOrd f) (hg:IsOrd g):IsOrd (fun p q : α × β => if f p.1 q.1=0 then g p.2 q.2 else f p.1 q.1) where
 swap:=fun p q=>by
  have h:=hf.swap p.1 q.1
  by_cases e:f p.1 q.1=0
  ·rw [if_pos e,if_pos oM,hg.swap p.2 q.2]
  ·rw [if_neg e,if_neg oM,h]
 trans:=fun p q r h1 h2=>by
  (try dsimp only at h1 h2 ⊢)
  by_cases e1:f p.1 q.1=0
  ·rw [if_pos e1] at h1
   rw [(hf.zero _ _).1 e1]
   by_cases e2:f q.1 r.1=0
   ·rw [if_pos e2] at h2 ⊢
    exact hg.trans _ _ _ h1 h2
   ·rw [if_neg e2] at h2 ⊢
    exact h2
  ·rw [if_neg e1] at h1
   by_cases e2:f q.1 r.1=0
   ·rw [← (hf.zero _ _).1 e2,if_neg e1]
    exact h1
   ·rw [if_neg e2] at h2
    have h3:=hf.trans _ _ _ h1 h2
    have h4:¬ f p.1 r.1=0:=fun h=>by
     rw [← (hf.zero _ _).1 h] at h2 e2
     have:=hf.swap p.1 q.1
     omega
    rw [if_neg h4]
    exact h3
 zero:=fun p q=>by
  rw [Prod.ext_iff,← hf.zero,← hg.zero]
  by_cases e:f p.1 q.1=0
  ·rw [if_pos e]
   exact ⟨fun h=>⟨e,h⟩,fun h=>h.2⟩
  ·rw [if_neg e]
   exact ⟨fun h=>absurd h e,fun h=>absurd h.1 e⟩
theorem IsOrd.map {α β : Type} {c : α → α → Int} (h:IsOrd c) (m : β → α) (hm:∀ x y,m x=m y→x=y):IsOrd (fun x y=>c (m x) (m y)) :=
 ⟨fun x y=>h.swap _ _,fun x y z=>h.trans _ _ _,fun x y=>(h.zero _ _).trans ⟨hm x y,fun e=>by rw [e]⟩⟩
theorem cmpC_ord:IsOrd cmpC:=by
 have h:=(cmpI_ord.pair lex_ord).map (fun c:Content=>(c.cycle,c.ages)) (fun x y h=>by
  cases x
  cases y
  simpa using h)
 have e:cmpC=fun x y=>if cmpI x.cycle y.cycle=0 then lexL x.ages y.ages else cmpI x.cycle y.cycle:=by
  funext x y
  unfold cmpC
  by_cases h:x.cycle=y.cycle
  ·rw [if_pos h,if_pos (cmpI_zero.2 h)]
  ·rw [if_neg h,if_neg (fun h2=>h (cmpI_zero.1 h2))]
 rw [e]
 exact h
def atC (l:List Content) (i:Int):Content:=l.getD i.toNat default
theorem ordX_is (l:List Content) (i k:Int):ordX l i k=if cmpC (atC l i) (atC l k)=0 then cmpI i k else cmpC (atC l i) (atC l k):=by
 unfold ordX atC orL orL orL
 split
 ·split <;> omega
 ·rfl
theorem ordX_ord (l:List Content):IsOrd (ordX l):=by
 have h:=(cmpC_ord.pair cmpI_ord).map (fun i:Int=>(atC l i,i)) (fun x y h=>(Prod.ext_iff.1 h).2)
 have e:ordX l=fun i k=>if cmpC (atC l i) (atC l k)=0 then cmpI i k else cmpC (atC l i) (atC l k):=by
  funext i k
  exact ordX_is l i k
 rw [e]
 exact h
theorem ordX_cmp {l:List Content} {i k:Int} (h:ordX l i k≤0):cmpC (atC l i) (atC l k)≤0:=by
 rw [ordX_is] at h
 split at h <;> omega
theorem ordX_same {l:List Content} {i k:Int} (h:ordX l i k≤0) (e:atC l i=atC l k):i≤k:=by
 rw [ordX_is,if_pos ((cmpC_ord.zero _ _).2 e)] at h
 unfold cmpI at h
 split at h
 ·omega
 ·split at h <;> omega
def idxL (n:Nat):List Int:=(List.range n).map fun i:Nat=>(i:Int)
theorem idx_len (n:Nat):(idxL n).length=n:=by simp [idxL]
theorem idx_at {n k:Nat} (h:k<n):(idxL n).getD k default=(k:Int):=by
 unfold idxL
 rw [List.getD_eq_getElem?_getD,List.getElem?_map,List.getElem?_range h]
 rfl
theorem idx_one (n:Nat):idxL (n+1)=idxL n++[(n:Int)]:=by unfold idxL; rw [List.range_succ,List.map_append]; rfl
def ordL (l:List Content):List Int:=(idxL l.length).mergeSort fun i k=>decide (ordX l i k≤0)
theorem ord_perm (l:List Content):(ordL l).Perm (idxL l.length):=List.mergeSort_perm _ _
theorem ord_sorted (l:List Content):(ordL l).Pairwise (fun i k=>ordX l i k≤0):=by
 have h:=List.pairwise_mergeSort (le:=fun i k:Int=>decide (ordX l i k≤0)) (fun a b c h1 h2=>by
  simp only [decide_eq_true_eq] at *
  exact (ordX_ord l).trans _ _ _ h1 h2) (fun a b=>by
  have:=(ordX_ord l).swap a b
  simp only [Bool.or_eq_true,decide_eq_true_eq]
  omega) (idxL l.length)
 exact h.imp fun h=>by simpa using h
theorem ord_unique {l:List Content} {ys:List Int} (hp:ys.Perm (idxL l.length)) (hs:ys.Pairwise (fun i k=>ordX l i k≤0)):ys=ordL l :=
 List.Perm.eq_of_pairwise (fun a b _ _ h1 h2=>by
  have:=(ordX_ord l).swap a b
  exact ((ordX_ord l).zero a b).1 oM) hs (ord_sorted l) (hp.trans (ord_perm l).symm)
theorem ord_len (l:List Content):(ordL l).length=l.length:=by rw [(ord_perm l).length_eq,idx_len]
theorem getD_mem {α : Type} [Inhabited α] {xs:List α} {k:Nat} (h:k<xs.length):xs.getD k default ∈ xs:=by
 rw [List.getD_eq_getElem?_getD,List.getElem?_eq_getElem h]
 exact List.getElem_mem h
theorem getD_of_mem {α : Type} [Inhabited α] {xs:List α} {x : α} (h:x ∈ xs):∃ k,k<xs.length∧xs.getD k default=x:=by
 obtain ⟨k,hk,e⟩:=List.getElem_of_mem h
 exact ⟨k,hk,by rw [List.getD_eq_getElem?_getD,List.getElem?_eq_getElem hk]; exact e⟩
theorem mem_idx {n:Nat} {x:Int}:x ∈ idxL n↔0≤x∧x<n:=by
 unfold idxL
 rw [List.mem_map]
 constructor
 ·rintro ⟨i,hi,rfl⟩
  rw [List.mem_range] at hi
  omega
 ·intro h
  exact ⟨x.toNat,List.mem_range.2 oM,by omega⟩
theorem ord_in {l:List Content} {k:Nat} (h:k<l.length):0≤(ordL l).getD k default∧(ordL l).getD k default<(l.length:Int):=mem_idx.1 ((ord_perm l).mem_iff.1 (getD_mem (by rw [ord_len]; exact h)))
theorem ord_has {l:List Content} {i:Nat} (h:i<l.length):∃ k,k<l.length∧(ordL l).getD k default=(i:Int):=by
 have h2:=getD_of_mem ((ord_perm l).mem_iff.2 (mem_idx.2 (show 0≤(i:Int)∧(i:Int)<l.length by omega)))
 rw [ord_len] at h2
 exact h2
theorem pw_getD {α : Type} [Inhabited α] {R : α → α → Prop} {xs:List α} (h:xs.Pairwise R) {a b:Nat} (hab:a<b) (hb:b<xs.length):R (xs.getD a default) (xs.getD b default):=by
 rw [List.pairwise_iff_getElem] at h
 rw [List.getD_eq_getElem?_getD,List.getD_eq_getElem?_getD,List.getElem?_eq_getElem hb,List.getElem?_eq_getElem (show a<xs.length by omega)]
 exact h a b oM hb hab
theorem ord_le {l:List Content} {a b:Nat} (hab:a<b) (hb:b<l.length):ordX l ((ordL l).getD a default) ((ordL l).getD b default)≤0:=pw_getD (ord_sorted l) hab (by rw [ord_len]; exact hb)
def inC (l:List Content) (k:Nat):Content:=atC l ((ordL l).getD k default)
theorem idx_map (l:List Content):(idxL l.length).map (atC l)=l:=by
 refine List.ext_getElem? fun k => ?_
 unfold idxL
 rw [List.map_map,List.getElem?_map]
 rcases Nat.lt_or_ge k l.length with h|h
 ·rw [List.getElem?_range h,List.getElem?_eq_getElem h]
  show some (l.getD _ _)=_
  rw [Int.toNat_natCast,List.getD_eq_getElem?_getD,List.getElem?_eq_getElem h]
  rfl
 ·rw [List.getElem?_eq_none h,List.getElem?_eq_none (by simpa using h)]
  rfl
theorem map_getD {α β : Type} [Inhabited α] [Inhabited β] {f : α → β} {xs:List α} {k:Nat} (h:k<xs.length):(xs.map f).getD k default=f (xs.getD k default):=by
 rw [List.getD_eq_getElem?_getD,List.getD_eq_getElem?_getD,List.getElem?_map,List.getElem?_eq_getElem h]
 rfl
theorem count_mid {α : Type} [DecidableEq α] [Inhabited α] {c : α}:∀ {cs:List α} {p r:Nat},p+r≤cs.length→(∀ k,k<cs.length→(cs.getD k default=c↔p≤k∧k<p+r))→cs.count c=r
 | [],p,r,h,_=>by
  simp only [List.length_nil] at h
  rw [List.count_nil]
  omega
 | x::xs,0,0,h,h1=>by
  have h2:=h1 0 (by simp)
  rw [List.count_cons_of_ne (fun e=>by have:=h2.1 e; omega)]
  exact count_mid (cs:=xs) (p:=0) (r:=0) (by simp) fun k hk=>by
   have:=h1 (k+1) (by simpa using hk)
   rw [List.getD_cons_succ] at this
   rw [this]
   omega
 | x::xs,0,r+1,h,h1=>by
  have h2:x=c:=(h1 0 (by simp)).2 oM
  rw [h2,List.count_cons_self]
  rw [count_mid (cs:=xs) (p:=0) (r:=r) (by simp at h ⊢; omega) fun k hk=>by
   have:=h1 (k+1) (by simpa using hk)
   rw [List.getD_cons_succ] at this
   rw [this]
   omega]
 | x::xs,p+1,r,h,h1=>by
  have h2:=h1 0 (by simp)
  rw [List.count_cons_of_ne (fun e=>by have:=h2.1 e; omega)]
  exact count_mid (cs:=xs) (p:=p) (r:=r) (by simp at h ⊢; omega) fun k hk=>by
   have:=h1 (k+1) (by simpa using hk)
   rw [List.getD_cons_succ] at this
   rw [this]
   omega
theorem tw_spec {α : Type} [Inhabited α] (q : α → Bool):∀ xs:List α,(xs.takeWhile q).length≤xs.length∧(∀ k,k<(xs.takeWhile q).length→q (xs.getD k default)=true)∧((xs.takeWhile q).length=xs.length∨q (xs.getD (xs.takeWhile q).length default)=false)
 | []=>⟨Nat.le_refl _,fun k hk=>absurd hk (Nat.not_lt_zero k),.inl rfl⟩
 | x::xs=>by
  have ih:=tw_spec q xs
  by_cases h:q x=true
  ·rw [List.takeWhile_cons_of_pos h,List.length_cons,List.length_cons]
   refine ⟨by omega,fun k hk => ?_,?_⟩
   ·match k with
    | 0=>exact h
    | k+1=>exact ih.2.1 k oM
   ·rcases ih.2.2 with h2|h2
    ·exact .inl oM
    ·exact .inr h2
  ·rw [List.takeWhile_cons_of_neg h]
   exact ⟨Nat.zero_le _,fun k hk=>absurd hk (Nat.not_lt_zero k),.inr (by simpa using h)⟩
theorem tw_unique {α : Type} [Inhabited α] {q : α → Bool} {xs:List α} {n m:Nat} (h1:n≤xs.length) (h2:∀ k,k<n→q (xs.getD k default)=true) (h3:n=xs.length∨q (xs.getD n default)=false) (g1:m≤xs.length) (g2:∀ k,k<m→q (xs.getD k default)=true) (g3:m=xs.length∨q (xs.getD m default)=false):n=m:=by
 rcases Nat.lt_trichotomy n m with h|h|h
 ·rcases h3 with h3|h3
  ·omega
  ·rw [g2 n h] at h3
   cases h3
 ·exact h
 ·rcases g3 with g3|g3
  ·omega
  ·rw [h2 m h] at g3
   cases g3
theorem drop_getD {α : Type} [Inhabited α] (xs:List α) (p k:Nat):(xs.drop p).getD k default=xs.getD (p+k) default:=by rw [List.getD_eq_getElem?_getD,List.getD_eq_getElem?_getD,List.getElem?_drop]
def runN (l:List Content) (os:List Int) (p:Nat):Nat:=((os.drop p).takeWhile fun i=>decide (atC l i=atC l (os.getD p default))).length
theorem run_is {l:List Content} {os:List Int} {p n:Nat} (hn:p+n≤os.length) (h1:∀ k,k<n→atC l (os.getD (p+k) default)=atC l (os.getD p default)) (h2:p+n=os.length∨¬ atC l (os.getD (p+n) default)=atC l (os.getD p default)):runN l os p=n:=by
 have h:=tw_spec (fun i=>decide (atC l i=atC l (os.getD p default))) (os.drop p)
 refine tw_unique (q:=fun i=>decide (atC l i=atC l (os.getD p default))) h.1 h.2.1 h.2.2 (by rw [List.length_drop]; omega) (fun k hk => ?_) ?_
 ·rw [drop_getD]
  exact decide_eq_true (h1 k hk)
 ·rw [drop_getD,List.length_drop]
  rcases h2 with h2|h2
  ·exact .inl oM
  ·exact .inr (decide_eq_false h2)
theorem run_spec {l:List Content} {os:List Int} {p:Nat} (hp:p<os.length):1≤runN l os p∧p+runN l os p≤os.length∧(∀ k,k<runN l os p→atC l (os.getD (p+k) default)=atC l (os.getD p default))∧(p+runN l os p=os.length∨¬ atC l (os.getD (p+runN l os p) default)=atC l (os.getD p default)):=by
 have h:=tw_spec (fun i=>decide (atC l i=atC l (os.getD p default))) (os.drop p)
 rw [show ((os.drop p).takeWhile fun i=>decide (atC l i=atC l (os.getD p default))).length=runN l os p from rfl,List.length_drop] at h
 simp only [drop_getD,decide_eq_true_eq,decide_eq_false_iff_not] at h
 refine ⟨?_,by omega,h.2.1,h.2.2.imp (fun h=>by omega) id⟩
 rcases Nat.eq_zero_or_pos (runN l os p) with h0|h0
 ·rcases h.2.2 with h2|h2
  ·omega
  ·rw [h0] at h2
   exact absurd rfl h2
 ·exact h0
def cntI (l:List Content) (c:Content):Int:=(l.count c:Nat)
def winN (l:List Content):Nat→Int×Int
 | 0=>(-1,0)
 | i+1=>if cntI l (l.getD i default)>(winN l i).2 then ((i:Int),cntI l (l.getD i default)) else winN l i
def winI (l:List Content):Int×Int:=winN l l.length
theorem cnt_pos {l:List Content} {i:Nat} (h:i<l.length):0<cntI l (l.getD i default):=by
 have:=List.count_pos_iff.2 (getD_mem h)
 unfold cntI
 omega
theorem win_first {l:List Content}:∀ {i:Nat},i≤l.length→(i=0∧winN l i=(-1,0))∨∃ b:Nat,b<i∧winN l i=((b:Int),cntI l (l.getD b default))∧∀ k,k<i→cntI l (l.getD k default)<cntI l (l.getD b default)∨(cntI l (l.getD k default)=cntI l (l.getD b default)∧b≤k)
 | 0,_ => .inl ⟨rfl,rfl⟩
 | i+1,h=>by
  right
  have hp:=cnt_pos (l:=l) (i:=i) oM
  rw [winN]
  rcases win_first (l:=l) (i:=i) oM with ⟨h0,e⟩|⟨b,hb,e,hm⟩
  ·rw [e,if_pos hp]
   exact ⟨i,by omega,rfl,fun k hk => .inr ⟨by rw [show k=i by omega],by omega⟩⟩
  ·rw [e]
   dsimp only
   split
   ·rename_i hgt
    refine ⟨i,by omega,rfl,fun k hk => ?_⟩
    rcases Nat.lt_succ_iff_lt_or_eq.1 hk with h2|rfl
    ·have:=hm k h2
     omega
    ·exact .inr ⟨rfl,Nat.le_refl _⟩
   ·rename_i hgt
    refine ⟨b,by omega,rfl,fun k hk => ?_⟩
    rcases Nat.lt_succ_iff_lt_or_eq.1 hk with h2|rfl
    ·exact hm k h2
    ·omega
theorem win_spec {l:List Content} (h:0<l.length):∃ b:Nat,b<l.length∧winI l=((b:Int),cntI l (l.getD b default))∧∀ k,k<l.length→cntI l (l.getD k default)<cntI l (l.getD b default)∨(cntI l (l.getD k default)=cntI l (l.getD b default)∧b≤k):=by
 rcases win_first (l:=l) (Nat.le_refl l.length) with h0|h0
 ·omega
 ·exact h0
theorem win_nil {l:List Content} (h:l.length=0):winI l=(-1,0):=by unfold winI; rw [h]; rfl
theorem win_of {l:List Content} {b:Nat} (hb:b<l.length) (hm:∀ k,k<l.length→cntI l (l.getD k default)<cntI l (l.getD b default)∨(cntI l (l.getD k default)=cntI l (l.getD b default)∧b≤k)):winI l=((b:Int),cntI l (l.getD b default)):=by
 obtain ⟨c,hc,e,hn⟩:=win_spec (l:=l) oM
 have h1:=hm c hc
 have h2:=hn b hb
 have e2:b=c:=by omega
 subst e2
 exact e
theorem in_ms (l:List Content):((ordL l).map (atC l)).Perm l:=by
 have h:=(ord_perm l).map (atC l)
 rw [idx_map] at h
 exact h
theorem in_at {l:List Content} {k:Nat} (h:k<l.length):((ordL l).map (atC l)).getD k default=inC l k:=map_getD (by rw [ord_len]; exact h)
def Apt (l:List Content) (p:Nat):Prop:=∀ k m,k<p→p≤m→m<l.length→¬ inC l k=inC l m
theorem in_run {l:List Content} {p r:Nat} (hA:Apt l p) (hr:1≤r) (hn:p+r≤l.length) (h1:∀ k,k<r→inC l (p+k)=inC l p) (h2:p+r=l.length∨¬ inC l (p+r)=inC l p):cntI l (inC l p)=r∧Apt l (p+r)∧∀ k,k<l.length→inC l k=inC l p→p≤k∧k<p+r:=by
 have far:∀ m,p+r≤m→m<l.length→cmpC (inC l p) (inC l m)<0:=fun m m1 m2=>by
  rcases h2 with h2|h2
  ·omega
  ·have a1:=ordX_cmp (ord_le (l:=l) (a:=p) (b:=p+r) oM oM)
   have a2:cmpC (inC l (p+r)) (inC l m)≤0:=by
    rcases Nat.lt_or_ge (p+r) m with h|h
    ·exact ordX_cmp (ord_le h m2)
    ·rw [show m=p+r by omega,(cmpC_ord.zero _ _).2 rfl]
     exact Int.le_refl _
   have a3:=cmpC_ord.trans _ _ _ a1 a2
   have a4:¬ cmpC (inC l p) (inC l m)=0:=fun e=>by
    have e2:=(cmpC_ord.zero _ _).1 e
    rw [← e2] at a2
    have a5:=cmpC_ord.swap (inC l p) (inC l (p+r))
    have a6:cmpC (inC l p) (inC l (p+r))≤0:=a1
    exact h2 ((cmpC_ord.zero _ _).1 oM)
   have a7:cmpC (inC l p) (inC l m)≤0:=a3
   omega
 have all:∀ k,k<l.length→(inC l k=inC l p↔p≤k∧k<p+r):=fun k hk=>by
  constructor
  ·intro e
   refine ⟨Nat.le_of_not_lt fun h=>hA k p h (Nat.le_refl _) oM e,Nat.lt_of_not_le fun h => ?_⟩
   have:=far k h hk
   rw [e,(cmpC_ord.zero _ _).2 rfl] at this
   omega
  ·rintro ⟨k1,k2⟩
   have:=h1 (k-p) oM
   rw [show p+(k-p)=k by omega] at this
   exact this
 refine ⟨?_,fun k m hk hm hm2 e => ?_,fun k hk e=>(all k hk).1 e⟩
 ·have:=count_mid (cs:=(ordL l).map (atC l)) (c:=inC l p) (p:=p) (r:=r) (by rw [List.length_map,ord_len]; omega) fun k hk=>by
   rw [List.length_map,ord_len] at hk
   rw [in_at hk,all k hk]
  rw [(in_ms l).count_eq] at this
  unfold cntI
  rw [this]
 ·rcases Nat.lt_or_ge k p with h|h
  ·exact hA k m h oM hm2 e
  ·have e2:=(all k oM).2 ⟨h,hk⟩
   have e3:=(all m hm2).1 (by rw [← e,e2])
   omega
def WinP (l:List Content) (p:Nat) (a m:Int):Prop:=p≤l.length∧Apt l p∧((p=0∧a = -1∧m=0)∨∃ b:Nat,b<l.length∧a=(b:Int)∧m=cntI l (l.getD b default)∧∀ k,k<p→cntI l (inC l k)<m∨(cntI l (inC l k)=m∧(b:Int)≤(ordL l).getD k default))
theorem winP_zero (l:List Content):WinP l 0 (-1) 0:=⟨Nat.zero_le _,fun k m hk=>absurd hk (Nat.not_lt_zero k),.inl ⟨rfl,rfl,rfl⟩⟩
theorem winP_step {l:List Content} {p:Nat} {a m:Int} (h:WinP l p a m) (hp:p<l.length):(((runN l (ordL l) p:Nat):Int)>m∨(((runN l (ordL l) p:Nat):Int)=m∧(ordL l).getD p default<a)→WinP l (p+runN l (ordL l) p) ((ordL l).getD p default) (runN l (ordL l) p:Nat))∧(¬ (((runN l (ordL l) p:Nat):Int)>m∨(((runN l (ordL l) p:Nat):Int)=m∧(ordL l).getD p default<a))→WinP l (p+runN l (ordL l) p) a m):=by
 have hr:=run_spec (l:=l) (os:=ordL l) (p:=p) (by rw [ord_len]; exact hp)
 rw [ord_len] at hr
 generalize hR:runN l (ordL l) p=r at hr ⊢
 have hI:=in_run h.2.1 hr.1 hr.2.1 hr.2.2.1 hr.2.2.2
 have ho:=ord_in hp
 have hrun:∀ k,p≤k→k<p+r→cntI l (inC l k)=r∧(ordL l).getD p default≤(ordL l).getD k default:=fun k k1 k2=>by
  have e:=hr.2.2.1 (k-p) oM
  rw [show p+(k-p)=k by omega] at e
  have e2:inC l k=inC l p:=e
  refine ⟨by rw [e2]; exact hI.1,?_⟩
  rcases Nat.lt_or_ge p k with h3|h3
  ·exact ordX_same (ord_le h3 oM) e.symm
  ·rw [show k=p by omega]
   exact Int.le_refl _
 constructor
 ·intro hc
  refine ⟨hr.2.1,hI.2.1,.inr ⟨((ordL l).getD p default).toNat,by omega,by omega,?_,fun k hk => ?_⟩⟩
  ·rw [← hI.1]
   rfl
  ·rcases Nat.lt_or_ge k p with h3|h3
   ·rcases h.2.2 with h0|⟨b,b1,b2,b3,b4⟩
    ·omega
    ·have:=b4 k h3
     omega
   ·have:=hrun k h3 hk
    exact .inr ⟨this.1,by omega⟩
 ·intro hc
  rcases h.2.2 with h0|⟨b,b1,b2,b3,b4⟩
  ·omega
  refine ⟨hr.2.1,hI.2.1,.inr ⟨b,b1,b2,b3,fun k hk => ?_⟩⟩
  rcases Nat.lt_or_ge k p with h3|h3
  ·exact b4 k h3
  ·have:=hrun k h3 hk
   omega
theorem winP_end {l:List Content} {p:Nat} {a m:Int} (h:WinP l p a m) (hp:l.length≤p):winI l=(a,m):=by
 have hpl:=h.1
 rcases h.2.2 with ⟨h0,rfl,rfl⟩|⟨b,b1,rfl,rfl,b4⟩
 ·exact win_nil oM
 ·refine win_of b1 fun i hi => ?_
  obtain ⟨k,hk,e⟩:=ord_has hi
  have e2:inC l k=l.getD i default:=by unfold inC atC; rw [e,Int.toNat_natCast]
  have:=b4 k oM
  rw [e2,e] at this
  omega
end Go.Proofs.Ytkhdnlkdcikdmaa.Pl
