/- What is reached from part 0: the sweeps of package plan and the levels of the document find the same. -/
import Derived.Test.YtdomlccfjnkbjaaGreatDoorPlTwelve
namespace Go.Proofs.YtdomlccfjnkbjaaGreatDoor.Pl
open Go.RowKit Go.Proofs.YtdomlccfjnkbjaaGreatDoor.Sm Go.Proofs.YtdomlccfjnkbjaaGreatDoor.Dp
set_option maxHeartbeats 1000000
set_option linter.unusedVariables false
set_option linter.unusedSimpArgs false
inductive Rch (ls:List Link) (o:Nat):Nat→Prop
 | zero:Rch ls o o
 | ab (i:Nat) (hi:i<ls.length) (h:Rch ls o (ls.getD i default).a.toNat):Rch ls o (ls.getD i default).b.toNat
 | ba (i:Nat) (hi:i<ls.length) (h:Rch ls o (ls.getD i default).b.toNat):Rch ls o (ls.getD i default).a.toNat
theorem Rch.in_ {ls:List Link} {o:Nat} {S:Nat→Prop} (h0:S o) (hc:∀ i,i<ls.length→(S (ls.getD i default).a.toNat↔S (ls.getD i default).b.toNat)) {j:Nat} (h:Rch ls o j):S j:=by
 induction h with
 | zero=>exact h0
 | ab i hi _ ih=>exact (hc i hi).1 ih
 | ba i hi _ ih=>exact (hc i hi).2 ih
def InN (ls:List Link) (n:Nat):Prop:=∀ i,i<ls.length→(ls.getD i default).a.toNat<n∧(ls.getD i default).b.toNat<n
theorem sweep_ind {α : Type} {ls:List Link} {f:Link → α → α} (P : α → Prop) {x : α} (h0:P x) (hs:∀ i y,i<ls.length→P y→P (f (ls.getD i default) y)):∀ n,n≤ls.length→P (sweep ls f x n)
 | 0,_=>h0
 | n+1,h=>hs n _ h (sweep_ind P h0 hs n oM)
theorem relaxA_get {k:Int} {l:Link} {d:List Int} {n:Nat} (hl:d.length=n) (ha:l.a.toNat<n) (hb:l.b.toNat<n) (j:Nat):(relaxA k l d).getD j default=if j=l.b.toNat∧d.getD l.a.toNat default=k∧d.getD l.b.toNat default<0 then k+1 else d.getD j default:=by
 unfold relaxA
 split
 ·rw [getD_set (hi:=by omega)]; grind
 ·grind
theorem relaxB_get {k:Int} {l:Link} {d:List Int} {n:Nat} (hl:d.length=n) (ha:l.a.toNat<n) (hb:l.b.toNat<n) (j:Nat):(relaxB k l d).getD j default=if j=l.a.toNat∧d.getD l.b.toNat default=k∧d.getD l.a.toNat default<0 then k+1 else d.getD j default:=by
 unfold relaxB
 split
 ·rw [getD_set (hi:=by omega)]; grind
 ·grind
structure Lev (ls:List Link) (o n:Nat) (k:Int) (d0 d:List Int):Prop where
 len:d.length=n
 keep:∀ j,0≤d0.getD j default→d.getD j default=d0.getD j default
 new:∀ j,d0.getD j default<0→d.getD j default=d0.getD j default∨(d.getD j default=k+1∧Rch ls o j∧∃ m,m<n∧d0.getD m default=k)
theorem relax_lev {ls:List Link} {o n:Nat} {k:Int} {d0 d:List Int} (hk:0≤k) (hin:InN ls n) (hr:∀ j,j<n→0≤d0.getD j default→Rch ls o j) (i:Nat) (hi:i<ls.length) (h:Lev ls o n k d0 d):Lev ls o n k d0 (relax k (ls.getD i default) d):=by
 have ha:=(hin i hi).1
 have hb:=(hin i hi).2
 have hk1:∀ j,d.getD j default=k→d0.getD j default=k:=fun j hj=>by
  rcases Int.lt_or_le (d0.getD j default) 0 with h1|h1
  ·rcases h.new j h1 with h2|h2 <;> omega
  ·rw [← h.keep j h1]; exact hj
 have hA:=relaxA_get (k:=k) h.len ha hb
 have hlA:(relaxA k (ls.getD i default) d).length=n:=by unfold relaxA; split <;> simp [h.len]
 have hB:=relaxB_get (k:=k) hlA ha hb
 have rab:d0.getD (ls.getD i default).a.toNat default=k→Rch ls o (ls.getD i default).b.toNat:=fun h1 => .ab i hi (hr _ ha oM)
 have rba:d0.getD (ls.getD i default).b.toNat default=k→Rch ls o (ls.getD i default).a.toNat:=fun h1 => .ba i hi (hr _ hb oM)
 refine ⟨(relax_len k _ d).trans h.len,fun j hj => ?_,fun j hj => ?_⟩
 ·have h1:=h.keep j hj
  show (relaxB k (ls.getD i default) (relaxA k (ls.getD i default) d)).getD j default=_
  rw [hB,hA,hA,hA]
  grind
 ·have h1:=h.new j hj
  show (relaxB k (ls.getD i default) (relaxA k (ls.getD i default) d)).getD j default=_∨(relaxB k (ls.getD i default) (relaxA k (ls.getD i default) d)).getD j default=_∧_
  have e1:=hk1 (ls.getD i default).a.toNat
  have e2:=hk1 (ls.getD i default).b.toNat
  rw [hB,hA,hA,hA]
  grind
theorem relax_keep {k:Int} {l:Link} {d:List Int} {n:Nat} (hl:d.length=n) (ha:l.a.toNat<n) (hb:l.b.toNat<n) (j:Nat) (hj:0≤d.getD j default):(relax k l d).getD j default=d.getD j default:=by
 have hlA:(relaxA k l d).length=n:=by unfold relaxA; split <;> simp [hl]
 show (relaxB k l (relaxA k l d)).getD j default=_
 rw [relaxB_get hlA ha hb,relaxA_get hl ha hb,relaxA_get hl ha hb,relaxA_get hl ha hb]
 grind
theorem relax_hit {k:Int} {l:Link} {d:List Int} {n:Nat} (hk:0≤k) (hl:d.length=n) (ha:l.a.toNat<n) (hb:l.b.toNat<n):(d.getD l.a.toNat default=k→0≤(relax k l d).getD l.b.toNat default)∧(d.getD l.b.toNat default=k→0≤(relax k l d).getD l.a.toNat default):=by
 have hlA:(relaxA k l d).length=n:=by unfold relaxA; split <;> simp [hl]
 have e:∀ j,(relax k l d).getD j default=_:=fun j=>by
  show (relaxB k l (relaxA k l d)).getD j default=_
  rw [relaxB_get hlA ha hb,relaxA_get hl ha hb,relaxA_get hl ha hb,relaxA_get hl ha hb]
 rw [e,e]
 grind
theorem sweep_lev {ls:List Link} {o n:Nat} {k:Int} {d0:List Int} (hk:0≤k) (hin:InN ls n) (hl:d0.length=n) (hr:∀ j,j<n→0≤d0.getD j default→Rch ls o j) (m:Nat) (hm:m≤ls.length):Lev ls o n k d0 (sweep ls (relax k) d0 m) :=
 sweep_ind (Lev ls o n k d0) ⟨hl,fun _ _=>rfl,fun _ _ => .inl rfl⟩ (fun i y hi hy=>relax_lev hk hin hr i hi hy) m hm
theorem sweep_closed {ls:List Link} {o n:Nat} {k:Int} {d0:List Int} (hk:0≤k) (hin:InN ls n) (hl:d0.length=n) (hr:∀ j,j<n→0≤d0.getD j default→Rch ls o j):∀ m,m≤ls.length→∀ i,i<m→(d0.getD (ls.getD i default).a.toNat default=k→0≤(sweep ls (relax k) d0 m).getD (ls.getD i default).b.toNat default)∧(d0.getD (ls.getD i default).b.toNat default=k→0≤(sweep ls (relax k) d0 m).getD (ls.getD i default).a.toNat default)
 | 0,_,i,hi=>by omega
 | m+1,hm,i,hi=>by
  have L:=sweep_lev (o:=o) hk hin hl hr m oM
  have hb:=hin m oM
  rcases Nat.lt_or_ge i m with h1|h1
  ·have ih:=sweep_closed (o:=o) hk hin hl hr m oM i h1
   refine ⟨fun h => ?_,fun h => ?_⟩
   ·rw [sweep,relax_keep L.len hb.1 hb.2 _ (ih.1 h)]; exact ih.1 h
   ·rw [sweep,relax_keep L.len hb.1 hb.2 _ (ih.2 h)]; exact ih.2 h
  ·obtain rfl:i=m:=by omega
   have hh:=relax_hit hk L.len hb.1 hb.2
   refine ⟨fun h => ?_,fun h => ?_⟩
   ·rw [sweep]; exact hh.1 (by rw [L.keep _ oM]; exact h)
   ·rw [sweep]; exact hh.2 (by rw [L.keep _ oM]; exact h)
structure LevN (ls:List Link) (o n k:Nat) (d:List Int):Prop where
 len:d.length=n
 top:∀ j,d.getD j default≤k
 sound:∀ j,j<n→0≤d.getD j default→Rch ls o j
 closed:∀ i,i<ls.length→(0≤d.getD (ls.getD i default).a.toNat default→d.getD (ls.getD i default).a.toNat default<k→0≤d.getD (ls.getD i default).b.toNat default)∧(0≤d.getD (ls.getD i default).b.toNat default→d.getD (ls.getD i default).b.toNat default<k→0≤d.getD (ls.getD i default).a.toNat default)
 down:∀ j,0<d.getD j default→∃ m,m<n∧d.getD m default=d.getD j default-1
 orig:0≤d.getD o default
theorem levN_zero {ls:List Link} {o n:Nat} (ho:o<n):LevN ls o n 0 (dists0 n o):=by
 have e:∀ j,(dists0 n o).getD j default=if j=o then 0 else if j<n then -1 else 0:=fun j=>by
  unfold dists0
  rw [getD_set (hi:=by simpa using ho)]
  split
  ·rfl
  ·simp only [List.getD_eq_getElem?_getD,List.getElem?_replicate]; split <;> rfl
 refine ⟨dists0_len _ _,fun j => ?_,fun j hj h => ?_,fun i hi=>⟨fun h1 h2 => ?_,fun h1 h2 => ?_⟩,fun j hj => ?_,?_⟩
 ·rw [e]; split
  ·exact Int.le_refl _
  ·split <;> decide
 ·rw [e] at h
  by_cases h1:j=o
  ·rw [h1]; exact .zero
  ·rw [if_neg h1,if_pos hj] at h; omega
 ·omega
 ·omega
 ·rw [e] at hj; split at hj
  ·omega
  ·split at hj <;> omega
 ·rw [e,if_pos rfl]; exact Int.le_refl _
theorem levN_succ {ls:List Link} {o n k:Nat} {d:List Int} (hin:InN ls n) (h:LevN ls o n k d):LevN ls o n (k+1) (sweep ls (relax k) d ls.length):=by
 have L:=sweep_lev (k:=(k:Int)) (o:=o) oM hin h.len h.sound ls.length (Nat.le_refl _)
 have C:=sweep_closed (k:=(k:Int)) (o:=o) oM hin h.len h.sound ls.length (Nat.le_refl _)
 generalize sweep ls (relax k) d ls.length=y at L C
 have two:∀ j,(0≤d.getD j default∧y.getD j default=d.getD j default)∨(d.getD j default<0∧(y.getD j default=d.getD j default∨(y.getD j default=(k:Int)+1∧Rch ls o j∧∃ m,m<n∧d.getD m default=(k:Int)))):=fun j=>by
  rcases Int.lt_or_le (d.getD j default) 0 with h1|h1
  ·exact .inr ⟨h1,L.new j h1⟩
  ·exact .inl ⟨h1,L.keep j h1⟩
 refine ⟨L.len,fun j => ?_,fun j hj h0 => ?_,fun i hi=>⟨fun h1 h2 => ?_,fun h1 h2 => ?_⟩,fun j hj => ?_,?_⟩
 ·have:=h.top j
  rcases two j with h1|h1
  ·omega
  ·rcases h1.2 with h2|h2 <;> omega
 ·rcases two j with h1|h1
  ·exact h.sound j hj h1.1
  ·rcases h1.2 with h2|h2
   ·omega
   ·exact h2.2.1
 ·have c1:=(C i hi).1
  have c2:=(h.closed i hi).1
  have kb:=L.keep (ls.getD i default).b.toNat
  rcases two (ls.getD i default).a.toNat with t1|t1
  ·have tp:=h.top (ls.getD i default).a.toNat
   by_cases hk:d.getD (ls.getD i default).a.toNat default=k
   ·exact c1 hk
   ·have:=c2 t1.1 oM
    rw [kb this]; exact this
  ·rcases t1.2 with h3|h3 <;> omega
 ·have c1:=(C i hi).2
  have c2:=(h.closed i hi).2
  have kb:=L.keep (ls.getD i default).a.toNat
  rcases two (ls.getD i default).b.toNat with t1|t1
  ·have tp:=h.top (ls.getD i default).b.toNat
   by_cases hk:d.getD (ls.getD i default).b.toNat default=k
   ·exact c1 hk
   ·have:=c2 t1.1 oM
    rw [kb this]; exact this
  ·rcases t1.2 with h3|h3 <;> omega
 ·rcases two j with t1|t1
  ·obtain ⟨m,hm,hd⟩:=h.down j oM
   exact ⟨m,hm,by rw [L.keep m oM,hd,t1.2]⟩
  ·rcases t1.2 with h3|h3
   ·omega
   ·obtain ⟨m,hm,hd⟩:=h3.2.2
    exact ⟨m,hm,by rw [L.keep m oM,hd,h3.1]; omega⟩
 ·rw [L.keep o h.orig]; exact h.orig
theorem levN_all {ls:List Link} {o n:Nat} (hin:InN ls n) (ho:o<n):∀ k,LevN ls o n k (distsN ls (dists0 n o) k)
 | 0=>levN_zero ho
 | k+1=>levN_succ hin (levN_all hin ho k)
theorem many:∀ (m:Nat) (d:List Int),(∀ v:Nat,v<m→(v:Int) ∈ d)→m≤d.length
 | 0,_,_=>Nat.zero_le _
 | m+1,d,h=>by
  have h1:=many m (d.erase (m:Int)) fun v hv=>(List.mem_erase_of_ne oM).2 (h v oM)
  have h2:=List.length_erase_of_mem (h m oM)
  have h3:=List.length_pos_of_mem (h m oM)
  omega
theorem levN_low {ls:List Link} {o n k:Nat} {d:List Int} (h:LevN ls o n k d) (j:Nat) (hj:j<n) (hd:0≤d.getD j default):d.getD j default<n:=by
 have hm:∀ v:Nat,(v:Int)≤d.getD j default→∃ m,m<n∧d.getD m default=d.getD j default-v:=by
  intro v
  induction v with
  | zero=>intro _; exact ⟨j,hj,by omega⟩
  | succ v ih =>
   intro hv
   obtain ⟨m,hm,e⟩:=ih oM
   obtain ⟨m',hm',e'⟩:=h.down m oM
   exact ⟨m',hm',by rw [e',e]; omega⟩
 have:=many ((d.getD j default).toNat+1) d fun v hv=>by
  obtain ⟨m,hm,e⟩:=hm ((d.getD j default).toNat-v) oM
  have e2:d.getD m default=(v:Int):=by omega
  rw [← e2,List.getD_eq_getElem?_getD,List.getElem?_eq_getElem (by rw [h.len]; exact hm)]
  exact List.getElem_mem _
 rw [h.len] at this
 omega
theorem dists_iff {ls:List Link} {o n:Nat} (hin:InN ls n) (ho:o<n) (j:Nat) (hj:j<n):0≤(distsN ls (dists0 n o) n).getD j default↔Rch ls o j:=by
 have h:=levN_all hin ho n
 refine ⟨h.sound j hj,fun hr=>hr.in_ (S:=fun j=>0≤(distsN ls (dists0 n o) n).getD j default) h.orig fun i hi=>⟨fun h1=>(h.closed i hi).1 h1 (levN_low h _ (hin i hi).1 h1),fun h1=>(h.closed i hi).2 h1 (levN_low h _ (hin i hi).2 h1)⟩⟩
theorem join1_get {l:Link} {r:List Bool} {N:Nat} (hl:r.length=N) (ha:l.a.toNat<N) (hb:l.b.toNat<N) (j:Nat):(join1 l r).getD j default=if j=l.a.toNat∨j=l.b.toNat then r.getD l.a.toNat default||r.getD l.b.toNat default else r.getD j default:=by
 unfold join1
 rw [getD_set (hi:=by rw [List.length_set]; omega),getD_set (hi:=by omega)]
 grind
def Le (r r':List Bool):Prop:=r.length=r'.length∧∀ j,r.getD j default=true→r'.getD j default=true
theorem Le.refl (r:List Bool):Le r r:=⟨rfl,fun _ h=>h⟩
theorem Le.trans {r r' r'':List Bool} (h:Le r r') (h':Le r' r''):Le r r'':=⟨h.1.trans h'.1,fun j hj=>h'.2 j (h.2 j hj)⟩
def cnt (r:List Bool):Nat:=r.countP id
theorem cnt_le:∀ (r r':List Bool),Le r r'→cnt r≤cnt r'∧(cnt r=cnt r'→r=r')
 | [],[],_=>⟨Nat.le_refl _,fun _=>rfl⟩
 | [],_::_,h=>by have:=h.1; simp at this
 | _::_,[],h=>by have:=h.1; simp at this
 | b::r,b'::r',h=>by
  have h1:=cnt_le r r' ⟨by have:=h.1; simpa using this,fun j hj=>h.2 (j+1) hj⟩
  have h0:b=true→b'=true:=h.2 0
  unfold cnt at *
  simp only [List.countP_cons,id]
  cases b <;> cases b' <;> simp_all <;> omega
theorem cnt_low:∀ (r:List Bool) (n:Nat),(∀ j,r.getD j default=true→j<n)→cnt r≤n
 | [],n,_=>Nat.zero_le _
 | b::r,0,h=>by
  have h0:b=false:=by cases b with|false=>rfl|true=>exact absurd (h 0 rfl) oM
  have h1:=cnt_low r 0 fun j hj=>absurd (h (j+1) hj) oM
  unfold cnt at *
  rw [List.countP_cons,h0]
  simpa using h1
 | b::r,n+1,h=>by
  have h1:=cnt_low r n fun j hj=>by have:=h (j+1) hj; omega
  unfold cnt at *
  rw [List.countP_cons]
  split <;> omega
theorem join_le {ls:List Link} {n:Nat} {r:List Bool} {N:Nat} (hN:n≤N) (hin:InN ls n) (hl:r.length=N) (i:Nat) (hi:i<ls.length):Le r (join1 (ls.getD i default) r):=by
 refine ⟨(join1_len _ _).symm,fun j hj => ?_⟩
 have:=hin i hi
 rw [join1_get hl oM oM]
 grind
theorem sweepJ_le {ls:List Link} {n:Nat} {r:List Bool} {N:Nat} (hN:n≤N) (hin:InN ls n) (hl:r.length=N):∀ (m k:Nat),m≤k→k≤ls.length→Le (sweep ls join1 r m) (sweep ls join1 r k)
  | m, 0, h, _ => by obtain rfl:m=0:=by omega
                     exact .refl _
  | m,k+1,h,hk=>by
    rcases Nat.lt_or_ge k m with h1|h1
    · obtain rfl:m=k+1:=by omega
      exact .refl _
    · exact (sweepJ_le hN hin hl m k h1 oM).trans (join_le hN hin (by rw [sweepJ_len,hl]) k hk)
def ClosedJ (ls:List Link) (r:List Bool):Prop:=∀ i,i<ls.length→r.getD (ls.getD i default).a.toNat default=r.getD (ls.getD i default).b.toNat default
theorem closed_of_same {ls:List Link} {n:Nat} {r:List Bool} {N:Nat} (hN:n≤N) (hin:InN ls n) (hl:r.length=N) (h:cnt (sweep ls join1 r ls.length)=cnt r):ClosedJ ls r:=by
 have same:∀ m,m≤ls.length→sweep ls join1 r m=r:=fun m hm=>by
  have h1:cnt r≤cnt (sweep ls join1 r m)∧(cnt r=cnt (sweep ls join1 r m)→r=sweep ls join1 r m):=cnt_le _ _ (sweepJ_le hN hin hl 0 m oM hm)
  have h2:=cnt_le _ _ (sweepJ_le hN hin hl m ls.length hm (Nat.le_refl _))
  exact (h1.2 oM).symm
 intro i hi
 have h1:join1 (ls.getD i default) r=r:=by
  have:=same (i+1) hi
  rwa [sweep,same i oM] at this
 have hb:=hin i hi
 have ga:=join1_get (r:=r) hl (l:=ls.getD i default) oM oM (ls.getD i default).a.toNat
 have gb:=join1_get (r:=r) hl (l:=ls.getD i default) oM oM (ls.getD i default).b.toNat
 rw [h1] at ga gb
 grind
theorem closed_keeps {ls:List Link} {n:Nat} {r:List Bool} {N:Nat} (hN:n≤N) (hin:InN ls n) (hl:r.length=N) (h:ClosedJ ls r):ClosedJ ls (sweep ls join1 r ls.length):=by
 have:=sweep_ind (ls:=ls) (f:=join1) (fun y=>y.length=N∧∀ j,y.getD j default=r.getD j default) (x:=r) ⟨hl,fun _=>rfl⟩ (fun i y hi hy=>by
  refine ⟨(join1_len _ _).trans hy.1,fun j => ?_⟩
  have hb:=hin i hi
  have hc:=h i hi
  rw [join1_get hy.1 oM oM]
  have e1:=hy.2 (ls.getD i default).a.toNat
  have e2:=hy.2 (ls.getD i default).b.toNat
  have e3:=hy.2 j
  grind) ls.length (Nat.le_refl _)
 intro i hi
 rw [this.2,this.2]
 exact h i hi
theorem join_grow {ls:List Link} {n:Nat} (hN:n≤6) (hin:InN ls n):∀ k,ClosedJ ls (joinN ls k)∨k+1≤cnt (joinN ls k)
 | 0 => .inr (by unfold joinN cnt; decide)
 | k+1=>by
  rcases join_grow hN hin k with h|h
  ·exact .inl (closed_keeps hN hin (joinN_len ls k) h)
  ·have h1:=(cnt_le _ _ (sweepJ_le hN hin (joinN_len ls k) 0 ls.length oM (Nat.le_refl _)))
   by_cases e:cnt (sweep ls join1 (joinN ls k) ls.length)=cnt (joinN ls k)
   ·exact .inl (closed_keeps hN hin (joinN_len ls k) (closed_of_same hN hin (joinN_len ls k) e))
   ·right
    have h2:cnt (joinN ls k)≤cnt (sweep ls join1 (joinN ls k) ls.length):=h1.1
    show k+1+1≤cnt (sweep ls join1 (joinN ls k) ls.length)
    omega
theorem join_sound {ls:List Link} {n:Nat} (h0:0<n) (hN:n≤6) (hin:InN ls n):∀ k,∀ j,(joinN ls k).getD j default=true→Rch ls 0 j∧j<n
 | 0,j,h=>by
  match j with
  | 0=>exact ⟨.zero,h0⟩
  | 1=>cases h
  | 2=>cases h
  | 3=>cases h
  | 4=>cases h
  | 5=>cases h
  | j+6=>cases h
 | k+1,j,h=>by
  have:=sweep_ind (ls:=ls) (f:=join1) (fun y=>y.length=6∧∀ j,y.getD j default=true→Rch ls 0 j∧j<n) (x:=joinN ls k) ⟨joinN_len _ _,join_sound h0 hN hin k⟩ (fun i y hi hy=>by
   refine ⟨(join1_len _ _).trans hy.1,fun j hj => ?_⟩
   have hb:=hin i hi
   rw [join1_get hy.1 oM oM] at hj
   have ra:=hy.2 (ls.getD i default).a.toNat
   have rb:=hy.2 (ls.getD i default).b.toNat
   have rj:=hy.2 j
   have ab:Rch ls 0 (ls.getD i default).a.toNat→Rch ls 0 (ls.getD i default).b.toNat := .ab i hi
   have ba:Rch ls 0 (ls.getD i default).b.toNat→Rch ls 0 (ls.getD i default).a.toNat := .ba i hi
   grind) ls.length (Nat.le_refl _)
  exact this.2 j h
theorem join_orig {ls:List Link} {n:Nat} (hN:n≤6) (hin:InN ls n):∀ k,(joinN ls k).getD 0 default=true
 | 0=>rfl
 | k+1=>(sweepJ_le hN hin (joinN_len ls k) 0 ls.length oM (Nat.le_refl _)).2 0 (join_orig hN hin k)
theorem join_iff {ls:List Link} {n:Nat} (h0:0<n) (hN:n≤6) (hin:InN ls n) (j:Nat):(joinN ls n).getD j default=true↔Rch ls 0 j:=by
 have hs:=join_sound h0 hN hin n
 have hc:ClosedJ ls (joinN ls n):=by
  rcases join_grow hN hin n with h|h
  ·exact h
  ·have:=cnt_low (joinN ls n) n fun j hj=>(hs j hj).2
   omega
 exact ⟨fun h=>(hs j h).1,fun hr=>hr.in_ (S:=fun j=>(joinN ls n).getD j default=true) (join_orig hN hin n) fun i hi=>by rw [hc i hi]⟩
theorem findN_congr {p q:Nat→Bool}:∀ n,(∀ i,i<n→p i=q i)→findN p n=findN q n
 | 0,_=>rfl
 | n+1,h=>by simp only [findN,findN_congr n fun i hi=>h i oM,h n oM]
theorem apart_dists (c:Config) (h0:0<c.parts.length) (h6:c.parts.length≤6) (hL:LinksIn c):apartP c=findN (fun i=>decide ((distsL c 0).getD i default<0)) c.parts.length:=by
 have hin:InN c.links c.parts.length:=fun i hi=>by have:=hL i hi; omega
 refine findN_congr _ fun i hi => ?_
 have h1:=join_iff h0 h6 hin i
 have h2:=dists_iff hin h0 i hi
 have h3:(joinN c.links c.parts.length).getD i default=true↔0≤(distsL c 0).getD i default:=h1.trans h2.symm
 by_cases hd:0≤(distsL c 0).getD i default
 ·rw [h3.2 hd,decide_eq_false oM]; rfl
 ·rw [decide_eq_true oM,show (joinN c.links c.parts.length).getD i default=false by simpa using fun h=>hd (h3.1 h)]; rfl
theorem check_same (c:Config):checkP c=checkR c:=by
 unfold checkP checkR
 by_cases h1:c.parts.length<1∨c.parts.length>6
 ·rw [if_pos h1,if_pos h1]
 ·rw [if_neg h1,if_neg h1]
  cases h2:findN (fun i=>unsoundB (c.parts.getD i default)) c.parts.length with
  | some i=>rfl
  | none =>
   dsimp only
   by_cases h3:c.links.length>10
   ·rw [if_pos h3,if_pos h3]
   ·rw [if_neg h3,if_neg h3]
    cases h4:findN (fun i=>linkE c i != 0) c.links.length with
    | some i=>rfl
    | none =>
     dsimp only
     (rw [apart_dists c oM oM (links_in h4)]) <;> (cases findN (fun i=>decide ((distsL c 0).getD i default<0)) c.parts.length <;> rfl)
end Go.Proofs.YtdomlccfjnkbjaaGreatDoor.Pl
