/- Chapter 9: what is so of schedules. -/
import Derived.Test.YtgklghpkfmoogaaGreatDoorTbDef
import Derived.Test.YtgklghpkfmoogaaGreatDoorBdFive
import Derived.Test.YtgklghpkfmoogaaGreatDoorMdFits
import Derived.Test.YtgklghpkfmoogaaGreatDoorMdA
import Derived.Test.YtgklghpkfmoogaaGreatDoorPlFar
import Derived.Test.YtgklghpkfmoogaaGreatDoorPlS
namespace Go.Proofs.YtgklghpkfmoogaaGreatDoor.Pl
open Go.RowKit Go.Proofs.YtgklghpkfmoogaaGreatDoor.Sm Go.Proofs.YtgklghpkfmoogaaGreatDoor.Dp
set_option maxHeartbeats 4000000
set_option maxRecDepth 100000
set_option linter.unusedVariables false
set_option linter.unusedSimpArgs false
theorem ttmod {x:Int} {n:Nat} (h0:0≤x∧x≤65535) (hn:1≤n):∃ p:Int,(IntKind.i64.wrap x).tmod (n:Int)=p∧0≤p∧p<(n:Int):=by
 rw [Ev.wrap_i64 oM oM,Int.tmod_eq_emod_of_nonneg h0.1]
 exact ⟨_,rfl,Int.emod_nonneg _ oM,Int.emod_lt_of_pos _ oM⟩
theorem ttmod100 {x:Int} (h0 : -32768≤x∧x≤32767):∃ p:Int,(IntKind.i64.wrap x).tmod 100=p ∧ -100<p∧p<100:=by
 rw [Ev.wrap_i64 oM oM]
 have h1:=Int.lt_tmod_of_pos x (show (0:Int)<100 by decide)
 have h2:=Int.tmod_lt_of_pos x (show (0:Int)<100 by decide)
 exact ⟨_,rfl,h1,h2⟩
theorem ports_rise (c:Config) (part:Int):(portsOf c part).Pairwise fun p q=>p.node<q.node:=by
 unfold portsOf
 split
 ·unfold portsL
  rw [List.pairwise_filterMap]
  refine List.Pairwise.imp ?_ List.pairwise_lt_range
  intro a b hab p hp q hq
  rw [(portP_mem hp).2,(portP_mem hq).2]
  omega
 ·exact List.Pairwise.nil
theorem key_ne_node {a b:Int×Int} (h:a.2≠b.2):a≠b:=fun e=>h (e▸rfl)
theorem key_ne_kind {a b:Int×Int} (h:a.1≠b.1):a≠b:=fun e=>h (e▸rfl)
theorem mem_gates {ps:List Port} {k:Int×Int}:k ∈ gates ps↔(k.1=3∨k.1=4)∧∃ q ∈ ps,q.node=k.2:=by
 simp only [gates,List.mem_flatMap,List.mem_cons,List.not_mem_nil,or_false]
 constructor
 ·rintro ⟨q,hq,rfl|rfl⟩
  ·exact ⟨.inl rfl,q,hq,rfl⟩
  ·exact ⟨.inr rfl,q,hq,rfl⟩
 ·obtain ⟨k1,k2⟩:=k
  rintro ⟨h,q,hq,e⟩
  dsimp only at h e
  subst e
  rcases h with rfl|rfl
  ·exact ⟨q,hq,.inl rfl⟩
  ·exact ⟨q,hq,.inr rfl⟩
theorem mem_syncs {n:Nat} {k:Int×Int}:k ∈ syncs n↔k.1=2∧0≤k.2∧k.2<(n:Int):=by
 simp only [syncs,List.mem_map,List.mem_range]
 constructor
 ·rintro ⟨i,hi,rfl⟩
  exact ⟨rfl,by dsimp only; omega,by dsimp only; omega⟩
 ·obtain ⟨k1,k2⟩:=k
  rintro ⟨h1,h2,h3⟩
  dsimp only at h1 h2 h3
  subst h1
  exact ⟨k2.toNat,by omega,by rw [Int.toNat_of_nonneg h2]⟩
theorem mem_datas {ps:List Port} {k:Int×Int}:k ∈ datas ps↔k.1=5∧∃ q ∈ ps,q.node=k.2:=by
 simp only [datas,List.mem_map]
 constructor
 ·rintro ⟨q,hq,rfl⟩
  exact ⟨rfl,q,hq,rfl⟩
 ·obtain ⟨k1,k2⟩:=k
  rintro ⟨h,q,hq,e⟩
  dsimp only at h e
  subst h e
  exact ⟨q,hq,rfl⟩
theorem mem_keys {ps:List Port} {n:Nat} {k:Int×Int}:k ∈ keysOf ps n↔(k.1=2∧0≤k.2∧k.2<(n:Int))∨((k.1=3∨k.1=4∨k.1=5)∧∃ q ∈ ps,q.node=k.2):=by
 simp only [keysOf,List.mem_append,mem_gates,mem_syncs,mem_datas]
 grind
theorem gates_nodup {ps:List Port} (h:ps.Pairwise fun p q=>p.node<q.node):(gates ps).Nodup:=by
 induction ps with
 | nil=>exact List.nodup_nil
 | cons p r ih =>
  rw [List.pairwise_cons] at h
  have ih:=ih h.2
  have e:gates (p::r)=(3,p.node)::(4,p.node)::gates r:=rfl
  have hno:∀ a:Int,(a,p.node) ∉ gates r:=by
   intro a hm
   obtain ⟨_,q,hq,e2⟩:=mem_gates.1 hm
   have:=h.1 q hq
   dsimp only at e2
   omega
  rw [e,List.nodup_cons,List.nodup_cons]
  refine ⟨fun hm => ?_,hno 4,ih⟩
  rcases List.mem_cons.1 hm with h1|h1
  ·have h9:=congrArg Prod.fst h1
   dsimp only at h9
   omega
  ·exact hno 3 h1
theorem syncs_nodup (n:Nat):(syncs n).Nodup:=by
 unfold syncs
 rw [List.Nodup,List.pairwise_map]
 refine List.Pairwise.imp ?_ List.pairwise_lt_range
 intro a b hab
 exact key_ne_node (by dsimp only; omega)
theorem datas_nodup {ps:List Port} (h:ps.Pairwise fun p q=>p.node<q.node):(datas ps).Nodup:=by
 unfold datas
 rw [List.Nodup,List.pairwise_map]
 refine List.Pairwise.imp ?_ h
 intro a b hab
 exact key_ne_node (by dsimp only; omega)
theorem keys_nodup {ps:List Port} (h:ps.Pairwise fun p q=>p.node<q.node) (n:Nat):(keysOf ps n).Nodup:=by
 unfold keysOf
 rw [List.nodup_append,List.nodup_append]
 refine ⟨⟨gates_nodup h,syncs_nodup n,fun a ha b hb=>key_ne_kind ?_⟩,datas_nodup h,fun a ha b hb=>key_ne_kind ?_⟩
 ·have h1:=(mem_gates.1 ha).1
  have h2:=(mem_syncs.1 hb).1
  omega
 ·have h2:=(mem_datas.1 hb).1
  rcases List.mem_append.1 ha with ha|ha
  ·have h1:=(mem_gates.1 ha).1
   omega
  ·have h1:=(mem_syncs.1 ha).1
   omega
theorem nodup_at {l:List (Int×Int)} (h:l.Nodup) {i j:Nat} (hi:i<l.length) (hj:j<l.length) (e:l.getD i default=l.getD j default):i=j:=by
 rw [List.getD_eq_getElem?_getD,List.getD_eq_getElem?_getD,List.getElem?_eq_getElem hi,List.getElem?_eq_getElem hj] at e
 exact (List.getElem?_inj hi h).1 (by rw [List.getElem?_eq_getElem hi,List.getElem?_eq_getElem hj]; exact congrArg some e)
theorem slots_fit {c:Config} {part:Int} (hf:fitB c=true) (hp:isB part c.parts.length=true):slotsOf c part=slN c 0 (keysOf (portsOf c part) (nodesI c part).toNat):=if_pos ⟨hf,hp⟩
theorem slots_len {c:Config} {part:Int} (hf:fitB c=true) (hp:isB part c.parts.length=true):((slotsOf c part).length:Int)=3*((portsOf c part).length:Int)+nodesI c part:=by
 have:=tnodes_in hf hp
 rw [slots_fit hf hp,slN_len,keysOf_len]
 omega
theorem slots_at {c:Config} {part:Int} (hf:fitB c=true) (hp:isB part c.parts.length=true) {i:Nat} (hi:i<(slotsOf c part).length):(slotsOf c part).getD i default=slotK c ((keysOf (portsOf c part) (nodesI c part).toNat).getD i default) i:=by
 rw [slots_fit hf hp,slN_len] at hi
 rw [slots_fit hf hp,slN_get _ _ _ _ hi,Nat.zero_add]
def keyAt (c:Config) (part:Int) (i:Nat):Int×Int:=(keysOf (portsOf c part) (nodesI c part).toNat).getD i default
theorem atB_key {c:Config} {part:Int} (hf:fitB c=true) (hp:isB part c.parts.length=true) {i:Nat} (hi:i<(slotsOf c part).length) (k x:Int):atB k x ((slotsOf c part).getD i default)=true↔keyAt c part i=(k,x):=by
 rw [slots_at hf hp hi]
 simp only [atB,slotK,Bool.and_eq_true,beq_iff_eq,keyAt,Prod.ext_iff]
theorem at_uniq {c:Config} {part:Int} (hf:fitB c=true) (hp:isB part c.parts.length=true) {i j:Nat} (hi:i<(slotsOf c part).length) (hj:j<(slotsOf c part).length) {k x:Int} (h1:atB k x ((slotsOf c part).getD i default)=true) (h2:atB k x ((slotsOf c part).getD j default)=true):i=j:=by
 rw [atB_key hf hp hi] at h1
 rw [atB_key hf hp hj] at h2
 rw [slots_fit hf hp,slN_len] at hi hj
 exact nodup_at (keys_nodup (ports_rise c part) _) hi hj (h1.trans h2.symm)
theorem find_at {c:Config} {part:Int} (hf:fitB c=true) (hp:isB part c.parts.length=true) {i:Nat} (hi:i<(slotsOf c part).length) {k x:Int} (h1:atB k x ((slotsOf c part).getD i default)=true):findI c part k x=(i:Int):=by
 unfold findI
 refine seek_hit _ i h1 _ 0 (Nat.zero_le _) oM fun j _ hj => ?_
 cases hb:atB k x ((slotsOf c part).getD j default) with
 | false=>rfl
 | true=>exact absurd (at_uniq hf hp oM hi hb h1) oM
def cntA (P:Nat→Bool):Nat→Nat
 | 0=>0
 | i+1=>cntA P i+if P i=true then 1 else 0
theorem cnt_zero {P:Nat→Bool}:∀ {n:Nat},(∀ i,i<n→P i=false)→cntA P n=0
 | 0,_=>rfl
 | n+1,h=>by rw [cntA,cnt_zero fun i hi=>h i oM,h n oM]; rfl
theorem cntA_le (P:Nat→Bool):∀ n,cntA P n≤n
 | 0=>Nat.le_refl _
 | n+1=>by have:=cntA_le P n; rw [cntA]; split <;> omega
theorem cnt_one {P:Nat→Bool} {j:Nat} (hj:P j=true):∀ {n:Nat},j<n→(∀ i,i<n→P i=true→i=j)→cntA P n=1
 | 0,h,_=>absurd h (Nat.not_lt_zero _)
 | n+1,h,hu=>by
  rw [cntA]
  by_cases hn:j=n
  ·subst hn
   rw [if_pos hj,cnt_zero fun i hi => ?_]
   cases hb:P i with
   | false=>rfl
   | true=>exact absurd (hu i oM hb) oM
  ·have:=hu n oM
   rw [cnt_one hj (n:=n) oM fun i hi=>hu i oM,if_neg fun h=>hn (this h).symm]
theorem port_has {c:Config} {part x:Int}:(∃ q ∈ portsOf c part,q.node=x)↔(portQ c part x).isSome=true:=by
 constructor
 ·rintro ⟨q,hq,rfl⟩
  rw [(mem_portsOf c part q).1 hq]; rfl
 ·intro h
  obtain ⟨q,hq⟩:=Option.isSome_iff_exists.1 h
  have e:=portQ_node hq
  exact ⟨q,(mem_portsOf c part q).2 (by rw [e]; exact hq),e⟩
theorem owns {c:Config} {part:Int} (hf:fitB c=true) (hp:isB part c.parts.length=true) {k x:Int} (hx:0≤x):cntA (fun i=>atB k x ((slotsOf c part).getD i default)) (slotsOf c part).length=if (k=2∧x<nodesI c part)∨((portQ c part x).isSome=true∧(k=3∨k=4∨k=5)) then 1 else 0:=by
 have hn:=tnodes_in hf hp
 have hmem:(k,x) ∈ keysOf (portsOf c part) (nodesI c part).toNat↔(k=2∧x<nodesI c part)∨((portQ c part x).isSome=true∧(k=3∨k=4∨k=5)):=by
  rw [mem_keys,port_has]
  dsimp only
  constructor
  ·rintro (h|h)
   ·exact .inl ⟨h.1,by omega⟩
   ·exact .inr ⟨h.2,h.1⟩
  ·rintro (h|h)
   ·exact .inl ⟨h.1,hx,by omega⟩
   ·exact .inr ⟨h.2,h.1⟩
 have hl:(slotsOf c part).length=(keysOf (portsOf c part) (nodesI c part).toNat).length:=by rw [slots_fit hf hp,slN_len]
 split
 ·rename_i h
  obtain ⟨j,hj,e⟩:=List.mem_iff_getElem.1 (hmem.2 h)
  have e2:keyAt c part j=(k,x):=by unfold keyAt; rw [List.getD_eq_getElem?_getD,List.getElem?_eq_getElem hj]; exact e
  have h1:=(atB_key hf hp oM k x).2 e2
  exact cnt_one h1 oM fun i hi h2=>at_uniq hf hp hi oM h2 h1
 ·rename_i h
  refine cnt_zero fun i hi => ?_
  cases hb:atB k x ((slotsOf c part).getD i default) with
  | false=>rfl
  | true =>
   have e:=(atB_key hf hp hi k x).1 hb
   refine absurd (hmem.1 ?_) h
   rw [hl] at hi
   rw [← e]
   unfold keyAt
   rw [List.getD_eq_getElem?_getD,List.getElem?_eq_getElem hi]
   exact List.getElem_mem hi
theorem net_five (p sh:Nat) (h1:1≤p) (h4:p≤4) (hs:sh<4) (cy dr ag lo li ca:Int):(cfg1 (netOf p sh).1 (netOf p sh).2 cy dr ag lo li ca).parts.all (fun q=>decide (5≤q.nodes))=true :=
 nets16 (Q:=fun p sh=>∀ cy dr ag lo li ca:Int,(cfg1 (netOf p sh).1 (netOf p sh).2 cy dr ag lo li ca).parts.all (fun q=>decide (5≤q.nodes))=true)
  (by refine ⟨?_,?_,?_,?_,?_,?_,?_,?_,?_,?_,?_,?_,?_,?_,?_,?_⟩ <;> (intros; kernel_rfl)) p sh h1 h4 hs cy dr ag lo li ca
structure Sched (c:Config) (part:Int):Prop where
 fit:fitB c=true
 here:isB part c.parts.length=true
 many:5≤(slotsOf c part).length∧(slotsOf c part).length≤40
 at_:∀ i,i<(slotsOf c part).length→((slotsOf c part).getD i default).at_=60+100*(i:Int)
 win:3≤c.window∧c.window≤27
 slt:c.slot=100
 cyc:20000≤c.cycle∧c.cycle≤27000
theorem made_sched (n:Int) {part:Int} (hp:0≤part∧part<((madeC n).parts.length:Int)):Sched (madeC n) part:=by
 have hf:=made_fit n
 have N:=made_nums n
 have hB:isB part (madeC n).parts.length=true:=by rw [isB_true]; exact hp
 have h5:=made_ind (Q:=fun c=>c.parts.all (fun q=>decide (5≤q.nodes))=true) net_five n
 have hl:=slots_len hf hB
 have hs:=made_slots n
 have hge:=slotsN_ge (madeC n) (i:=(madeC n).parts.length) (k:=part.toNat) oM
 have hn5:5≤nodesI (madeC n) part:=by
  have hi:part.toNat<(madeC n).parts.length:=by omega
  have:=List.all_eq_true.1 h5 _ (List.getElem_mem hi)
  unfold nodesI
  rw [List.getD_eq_getElem?_getD,List.getElem?_eq_getElem hi]
  exact of_decide_eq_true this
 have he:=N.all.2.1
 have hw:=N.win
 rw [Int.toNat_of_nonneg hp.1] at hge
 have hge':3*((portsOf (madeC n) part).length:Int)+nodesI (madeC n) part≤slotsN (madeC n) (madeC n).parts.length:=hge
 refine ⟨hf,hB,by omega,fun i hi => ?_,by omega,N.slt,N.cyc⟩
 rw [slots_at hf hB hi]
 show atI (madeC n) i=_
 unfold atI
 rw [N.slt,N.led,Ev.wrap_i64 (x:=(i:Int)*100) oM oM,Ev.wrap_i64 oM oM]
 try omega
theorem Sched.inB {c:Config} {part:Int} (F:Sched c part) {i:Nat} (hi:i<(slotsOf c part).length) {t:Int}:Pl.inB c.window t ((slotsOf c part).getD i default)=true↔60+100*(i:Int)-c.window≤t∧t≤60+100*(i:Int)+c.window:=by
 have h1:=F.at_ i hi
 have h2:=F.win
 have h3:=F.many
 unfold Pl.inB
 rw [Ev.wrap_i64 (x:=((slotsOf c part).getD i default).at_-c.window) oM oM,Ev.wrap_i64 (x:=((slotsOf c part).getD i default).at_+c.window) oM oM,h1]
 simp only [Bool.and_eq_true,decide_eq_true_eq,ge_iff_le]
theorem Sched.hit {c:Config} {part:Int} (F:Sched c part) {i:Nat} (hi:i<(slotsOf c part).length) {d t:Int} (ht:t=60+100*(i:Int)+d) (hd : -c.window≤d∧d≤c.window):whichI c part t=(i:Int):=by
 have h2:=F.win
 unfold whichI
 refine seek_hit _ i ((F.inB hi).2 oM) _ 0 (Nat.zero_le _) oM fun j _ hj => ?_
 cases hb:Pl.inB c.window t ((slotsOf c part).getD j default) with
 | false=>rfl
 | true=>have:=(F.inB oM).1 hb; omega
theorem Sched.miss {c:Config} {part:Int} (F:Sched c part) {i:Nat} (hi:i<(slotsOf c part).length) {d t:Int} (ht:t=60+100*(i:Int)+d) (hd:¬ (-c.window≤d∧d≤c.window)):whichI c part t≠(i:Int):=by
 unfold whichI
 rcases seek_is (fun i=>Pl.inB c.window t ((slotsOf c part).getD i default)) (slotsOf c part).length 0 with h|⟨j,h1,h2,h3,h4⟩
 ·omega
 ·rw [h4]
  have:=(F.inB oM).1 h3
  omega
end Go.Proofs.YtgklghpkfmoogaaGreatDoor.Pl
