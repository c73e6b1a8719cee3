/- Several texts in one: PlSort PlSortB PlSortC PlPort PlPortB. -/
import Derived.Test.YtgklghpkfmoogaaDoorPlReach
import Derived.Test.YtgklghpkfmoogaaDoorDpC
import Derived.Test.YtgklghpkfmoogaaDoorPlTwelve
namespace Go.Proofs.YtgklghpkfmoogaaDoor.Pl
open Go.RowKit Go.Proofs.YtgklghpkfmoogaaDoor.Sm Go.Proofs.YtgklghpkfmoogaaDoor.Dp
set_option maxHeartbeats 4000000
set_option maxRecDepth 100000
set_option linter.unusedVariables false
set_option linter.unusedSimpArgs false
def cmpI (x y:Int):Int:=if x<y then -1 else if x>y then 1 else 0
theorem cmpI_lt (x y:Int):(cmpI x y<0)=(x<y):=by unfold cmpI; apply propext; split <;> (try split) <;> constructor <;> intro _ <;> omega
end Go.Proofs.YtgklghpkfmoogaaDoor.Pl
namespace Go.Proofs.YtgklghpkfmoogaaDoor.Pl
open Go.RowKit Go.Proofs.YtgklghpkfmoogaaDoor.Sm Go.Proofs.YtgklghpkfmoogaaDoor.Dp
set_option maxHeartbeats 4000000
set_option maxRecDepth 100000
set_option linter.unusedVariables false
set_option linter.unusedSimpArgs false
def Srt (ys:List Port) (k:Nat):Prop:=∀ a b,a<b→b<k→(ys.getD a default).node≤(ys.getD b default).node
def But (ys:List Port) (i j:Nat):Prop:=(∀ a b,a<b→b≤i→a≠j→b≠j→(ys.getD a default).node≤(ys.getD b default).node)∧∀ b,j<b→b≤i→(ys.getD j default).node≤(ys.getD b default).node
theorem but_first {ys:List Port} {i:Nat} (h:Srt ys i):But ys i i:=⟨fun a b hab hb ha hbi=>h a b hab oM,fun b h1 h2=>by omega⟩
theorem but_last {ys:List Port} {i j:Nat} (h:But ys i j) (hj:¬ (0<j∧(ys.getD j default).node<(ys.getD (j-1) default).node)):Srt ys (i+1):=by
 intro a b hab hb
 by_cases h1:a=j
 ·subst h1; exact h.2 b hab oM
 ·by_cases h2:b=j
  ·subst h2
   have h3:¬ (ys.getD b default).node<(ys.getD (b-1) default).node:=fun h=>hj ⟨by omega,h⟩
   by_cases h4:a=b-1
   ·subst h4; omega
   ·have:=h.1 a (b-1) oM oM h1 oM
    omega
  ·exact h.1 a b hab oM h1 h2
theorem but_step {ys:List Port} {i j:Nat} (hj:0<j) (hji:j≤i) (hi:i<ys.length) (h:But ys i j) (hlt:(ys.getD j default).node<(ys.getD (j-1) default).node):But ((ys.set j (ys.getD (j-1) default)).set (j-1) (ys.getD j default)) i (j-1):=by
 have g:∀ k,((ys.set j (ys.getD (j-1) default)).set (j-1) (ys.getD j default)).getD k default=if k=j-1 then ys.getD j default else if k=j then ys.getD (j-1) default else ys.getD k default:=fun k=>by
  rw [getD_set (hi:=by rw [List.length_set]; omega),getD_set (hi:=by omega)]
 refine ⟨fun a b hab hb ha hbj => ?_,fun b h1 h2 => ?_⟩
 ·rw [g,g,if_neg ha,if_neg hbj]
  by_cases h1:a=j
  ·rw [if_pos h1,if_neg oM]; exact h.1 _ b oM hb oM oM
  ·rw [if_neg h1]
   by_cases h2:b=j
   ·rw [if_pos h2]; exact h.1 a _ oM oM h1 oM
   ·rw [if_neg h2]; exact h.1 a b hab hb h1 h2
 ·rw [g,g,if_pos rfl,if_neg oM]
  by_cases h3:b=j
  ·rw [if_pos h3]; omega
  ·rw [if_neg h3]; exact h.2 b oM h2
theorem swap_perm {ys:List Port} {j:Nat} (hj:0<j) (hi:j<ys.length):((ys.set j (ys.getD (j-1) default)).set (j-1) (ys.getD j default)).Perm ys:=by
 have e1:ys.getD (j-1) default=ys[j-1]'oM:=by simp [List.getD_eq_getElem?_getD,List.getElem?_eq_getElem (show j-1<ys.length by omega)]
 have e2:ys.getD j default=ys[j]'hi:=by simp [List.getD_eq_getElem?_getD,List.getElem?_eq_getElem hi]
 rw [e1,e2]
 exact List.set_set_perm hi oM
theorem wrapm (j:Nat) (h:0<j) (hb:j<4611686018427387904):IntKind.i64.wrap ((j:Int)-1)=((j-1:Nat):Int):=by rw [Ev.wrap_i64 oM oM]; omega
theorem but_exit {zs:List Port} {q:Nat} (hz:¬ ((q:Int)>0)∨¬ (zs.getD q default).node<(zs.getD (IntKind.i64.wrap ((q:Int)-1)).toNat default).node) (hj:0<q→IntKind.i64.wrap ((q:Int)-1)=((q-1:Nat):Int)):¬ (0<q∧(zs.getD q default).node<(zs.getD (q-1) default).node):=by
 rintro ⟨h1,h2⟩
 rcases hz with h|h
 ·omega
 ·rw [hj h1] at h; exact h h2
end Go.Proofs.YtgklghpkfmoogaaDoor.Pl
namespace Go.Proofs.YtgklghpkfmoogaaDoor.Pl
open Go.RowKit Go.Proofs.YtgklghpkfmoogaaDoor.Sm Go.Proofs.YtgklghpkfmoogaaDoor.Dp
set_option maxHeartbeats 4000000
set_option maxRecDepth 100000
set_option linter.unusedVariables false
set_option linter.unusedSimpArgs false
theorem wrap0 (n:Nat) (h:n≤12):IntKind.i64.wrap ((n:Int)-0)=(n:Int):=by rw [Ev.wrap_i64 oM oM]; omega
end Go.Proofs.YtgklghpkfmoogaaDoor.Pl
namespace Go.Proofs.YtgklghpkfmoogaaDoor.Pl
open Go.RowKit Go.Proofs.YtgklghpkfmoogaaDoor.Sm Go.Proofs.YtgklghpkfmoogaaDoor.Dp
set_option maxHeartbeats 1000000
set_option linter.unusedVariables false
set_option linter.unusedSimpArgs false
def portsAt (l:Link) (i:Nat) (part:Int):List Port:=(if l.a=part then [⟨l.pa0,i,0,0⟩,⟨l.pa1,i,1,0⟩] else [])++(if l.b=part then [⟨l.pb0,i,0,1⟩,⟨l.pb1,i,1,1⟩] else [])
def rawN (ls:List Link) (part:Int):Nat→List Port
 | 0=>[]
 | n+1=>rawN ls part n++portsAt (ls.getD n default) n part
theorem rawN_len (ls:List Link) (part:Int):∀ n,(rawN ls part n).length≤4*n
 | 0=>Nat.le_refl _
 | n+1=>by
  have:=rawN_len ls part n
  have h2:(portsAt (ls.getD n default) n part).length≤4:=by unfold portsAt; split <;> split <;> simp
  rw [rawN,List.length_append]
  omega
def portsL (c:Config) (part:Int):List Port:=(List.range (c.parts.getD part.toNat default).nodes.toNat).filterMap fun (k:Nat)=>portP c.links part (k:Int) c.links.length
def portsOf (c:Config) (part:Int):List Port:=if (checkP c).1=0∧isB part c.parts.length=true then portsL c part else []
theorem portAt_mem {l:Link} {i:Nat} {part node:Int} {p:Port} (h:portAt l i part node=some p):p ∈ portsAt l i part∧p.node=node:=by
 unfold portAt at h
 unfold portsAt
 grind
theorem portAt_none {l:Link} {i:Nat} {part node:Int} (h:portAt l i part node=none):∀ q ∈ portsAt l i part,q.node≠node:=by
 unfold portAt at h
 unfold portsAt
 grind
theorem portP_mem {ls:List Link} {part node:Int}:∀ {n:Nat} {p:Port},portP ls part node n=some p→p ∈ rawN ls part n∧p.node=node
 | 0,p,h=>by cases h
 | n+1,p,h=>by
  unfold portP at h
  split at h
  ·rename_i q hq
   injection h with h
   subst h
   have:=portP_mem hq
   exact ⟨List.mem_append_left _ this.1,this.2⟩
  ·have:=portAt_mem h
   exact ⟨List.mem_append_right _ this.1,this.2⟩
theorem portP_none {ls:List Link} {part node:Int}:∀ {n:Nat},portP ls part node n=none→∀ q ∈ rawN ls part n,q.node≠node
 | 0,_,q,hq=>by cases hq
 | n+1,h,q,hq=>by
  unfold portP at h
  split at h
  ·cases h
  ·rename_i hn
   rcases List.mem_append.1 hq with h1|h1
   ·exact portP_none hn q h1
   ·exact portAt_none h q h1
structure Good (c:Config):Prop where
 len:1≤c.parts.length∧c.parts.length≤6
 links:c.links.length≤10
 part:∀ i,i<c.parts.length→unsoundB (c.parts.getD i default)=false
 link:∀ i,i<c.links.length→linkE c i=0
 near:∀ i,i<c.parts.length→0≤(distsL c 0).getD i default
theorem good_of {c:Config} (h:(checkP c).1=0):Good c:=by
 rw [check_same] at h
 unfold checkR at h
 split at h
 ·simp at h
 ·rename_i h0
  split at h
  ·simp at h
  ·rename_i h1
   split at h
   ·simp at h
   ·rename_i h2
    split at h
    ·rename_i i hi
     have:=findN_is hi
     simp only [bne_iff_ne,ne_eq] at this
     exact absurd h this
    ·rename_i h3
     split at h
     ·simp at h
     ·rename_i h4
      exact ⟨by omega,by omega,findN_none h1,fun i hi=>by simpa using findN_none h3 i hi,fun i hi=>by simpa using findN_none h4 i hi⟩
theorem good_link {c:Config} (h:Good c) {i:Nat} (hi:i<c.links.length) :
  (0≤(c.links.getD i default).a∧(c.links.getD i default).a<(c.links.getD i default).b∧(c.links.getD i default).b<(c.parts.length:Int)) ∧
  endsB c i (c.links.getD i default).a (c.links.getD i default).pa0 (c.links.getD i default).pa1=false∧endsB c i (c.links.getD i default).b (c.links.getD i default).pb0 (c.links.getD i default).pb1=false:=by
 have hl:=h.link i hi
 unfold linkE at hl
 split at hl
 ·simp at hl
 ·rename_i h1
  split at hl
  ·simp at hl
  ·split at hl
   ·simp at hl
   ·rename_i h3
    simp only [Bool.or_eq_true,Bool.not_eq_true',isB_false,decide_eq_true_eq,not_or,Classical.not_not] at h1
    simp only [Bool.or_eq_true,not_or,Bool.not_eq_true] at h3
    exact ⟨by omega,h3.1,h3.2⟩
theorem ends_no {c:Config} {i:Nat} {part p0 p1:Int} (h:endsB c i part p0 p1=false):p0≠p1∧(0≤p0∧p0<(c.parts.getD part.toNat default).nodes)∧(0≤p1∧p1<(c.parts.getD part.toNat default).nodes)∧portP c.links part p0 i=none∧portP c.links part p1 i=none:=by
 unfold endsB at h
 simp only [Bool.or_eq_false_iff,Bool.not_eq_false',beq_eq_false_iff_ne,isB_true,Option.isSome_eq_false_iff,Option.isNone_iff_eq_none] at h
 exact ⟨h.1.1,h.1.2.1,h.2.1,h.1.2.2,h.2.2⟩
theorem raw_in {c:Config} (h:Good c) {part:Int}:∀ n,n≤c.links.length→(∀ p ∈ rawN c.links part n,0≤part∧part<(c.parts.length:Int)∧0≤p.node∧p.node<(c.parts.getD part.toNat default).nodes)∧(rawN c.links part n).Pairwise fun p q=>p.node≠q.node
  | 0,_=>⟨fun p hp=>absurd hp (List.not_mem_nil),List.Pairwise.nil⟩
  | n+1,hn=>by
    obtain ⟨ih1,ih2⟩:=raw_in h n oM
    obtain ⟨h1,h2,h3⟩:=good_link h (i:=n) oM
    obtain ⟨a1,a2,a3,a4,a5⟩:=ends_no h2
    obtain ⟨b1,b2,b3,b4,b5⟩:=ends_no h3
    have pa4:=portP_none a4
    have pa5:=portP_none a5
    have pb4:=portP_none b4
    have pb5:=portP_none b5
    refine ⟨fun p hp => ?_,?_⟩
    · rcases List.mem_append.1 hp with h4|h4
      · exact ih1 p h4
      · unfold portsAt at h4
        rcases List.mem_append.1 h4 with h5|h5
        · split at h5
          · rename_i e
            subst e
            simp only [List.mem_cons,List.not_mem_nil,or_false] at h5
            rcases h5 with rfl|rfl
            · exact ⟨by omega,by omega,a2.1,a2.2⟩
            · exact ⟨by omega,by omega,a3.1,a3.2⟩
          · cases h5
        · split at h5
          · rename_i e
            subst e
            simp only [List.mem_cons,List.not_mem_nil,or_false] at h5
            rcases h5 with rfl|rfl
            · exact ⟨by omega,by omega,b2.1,b2.2⟩
            · exact ⟨by omega,by omega,b3.1,b3.2⟩
          · cases h5
    · show (rawN c.links part n++portsAt (c.links.getD n default) n part).Pairwise _
      rw [List.pairwise_append]
      refine ⟨ih2,?_,fun p hp q hq => ?_⟩
      · unfold portsAt
        by_cases e1:(c.links.getD n default).a=part
        · have e2:¬ (c.links.getD n default).b=part:=by omega
          rw [if_pos e1,if_neg e2]
          simpa using a1
        · rw [if_neg e1]
          by_cases e2:(c.links.getD n default).b=part
          · rw [if_pos e2]; simpa using b1
          · rw [if_neg e2]; simp
      · unfold portsAt at hq
        rcases List.mem_append.1 hq with h5|h5
        · split at h5
          · rename_i e
            subst e
            simp only [List.mem_cons,List.not_mem_nil,or_false] at h5
            rcases h5 with rfl|rfl
            · exact pa4 p hp
            · exact pa5 p hp
          · cases h5
        · split at h5
          · rename_i e
            subst e
            simp only [List.mem_cons,List.not_mem_nil,or_false] at h5
            rcases h5 with rfl|rfl
            · exact pb4 p hp
            · exact pb5 p hp
          · cases h5
theorem portsL_sorted (c:Config) (part:Int):(portsL c part).Pairwise fun p q=>p.node<q.node:=by
 unfold portsL
 rw [List.pairwise_filterMap]
 refine List.Pairwise.imp_of_mem (R:=fun a b=>a<b) ?_ List.pairwise_lt_range
 intro a b _ _ hab p hp q hq
 rw [(portP_mem hp).2,(portP_mem hq).2]
 omega
theorem nodup_of {l:List Port} (h:l.Pairwise fun p q=>p.node≠q.node):l.Nodup:=h.imp fun hne e=>hne (by rw [e])
theorem inj_of:∀ {l:List Port},(l.Pairwise fun p q=>p.node≠q.node)→∀ p,p ∈ l→∀ q,q ∈ l→p.node=q.node→p=q
 | [],_,p,hp,q,hq,e=>by cases hp
 | x::r,h,p,hp,q,hq,e=>by
  obtain ⟨h1,h2⟩:=List.pairwise_cons.1 h
  rcases List.mem_cons.1 hp with h3|h3
  ·rcases List.mem_cons.1 hq with h4|h4
   ·rw [h3,h4]
   ·exact absurd (by rw [← h3]; exact e) (h1 q h4)
  ·rcases List.mem_cons.1 hq with h4|h4
   ·exact absurd (by rw [← h4]; exact e.symm) (h1 p h3)
   ·exact inj_of h2 p h3 q h4 e
theorem raw_perm {c:Config} (h:Good c) {part:Int} (hp:0≤part∧part<(c.parts.length:Int)):(rawN c.links part c.links.length).Perm (portsL c part):=by
 obtain ⟨h1,h2⟩:=raw_in h (part:=part) c.links.length (Nat.le_refl _)
 refine (List.perm_ext_iff_of_nodup (nodup_of h2) (nodup_of ((portsL_sorted c part).imp fun h=>by omega))).2 fun p => ?_
 unfold portsL
 rw [List.mem_filterMap]
 constructor
 ·intro hm
  obtain ⟨_,_,q1,q2⟩:=h1 p hm
  refine ⟨p.node.toNat,List.mem_range.2 oM,?_⟩
  rw [Int.toNat_of_nonneg q1]
  cases hx:portP c.links part p.node c.links.length with
  | none=>exact absurd rfl (portP_none hx p hm)
  | some q =>
   have:=portP_mem hx
   rw [inj_of h2 q this.1 p hm this.2]
 ·rintro ⟨k,_,hk⟩
  exact (portP_mem hk).1
theorem portsOf_perm {c:Config} (h:(checkP c).1=0) (part:Int):(rawN c.links part c.links.length).Perm (portsOf c part):=by
 unfold portsOf
 by_cases hp:0≤part∧part<(c.parts.length:Int)
 ·rw [if_pos ⟨h,by rw [isB_true]; exact hp⟩]; exact raw_perm (good_of h) hp
 ·rw [if_neg (fun hh=>hp (by have:=hh.2; rwa [isB_true] at this))]
  have:=(raw_in (good_of h) (part:=part) c.links.length (Nat.le_refl _)).1
  cases hr:rawN c.links part c.links.length with
  | nil=>exact .refl _
  | cons p r =>
   have:=this p (by rw [hr]; exact List.mem_cons_self ..)
   omega
theorem portsOf_sorted (c:Config) (part:Int):(portsOf c part).Pairwise fun p q=>p.node<q.node:=by
 unfold portsOf
 split
 ·exact portsL_sorted c part
 ·exact .nil
theorem good_nodes {c:Config} (h:Good c) {part:Int} (hp:0≤part∧part<(c.parts.length:Int)):1≤(c.parts.getD part.toNat default).nodes∧(c.parts.getD part.toNat default).nodes≤12:=by
 have:=h.part part.toNat oM
 unfold unsoundB at this
 simp only [Bool.or_eq_false_iff,decide_eq_false_iff_not] at this
 omega
theorem portsOf_len (c:Config) (part:Int):(portsOf c part).length≤12:=by
 unfold portsOf
 split
 ·rename_i h
  have hp:=h.2
  rw [isB_true] at hp
  have:=good_nodes (good_of h.1) hp
  refine Nat.le_trans (List.length_filterMap_le _ _) ?_
  rw [List.length_range]
  omega
 ·exact Nat.zero_le _
theorem raw_len {c:Config} (h:(checkP c).1=0) (part:Int):(rawN c.links part c.links.length).length≤12:=by
 rw [(portsOf_perm h part).length_eq]; exact portsOf_len c part
theorem srt_pairwise {ys:List Port} {n:Nat} (hl:ys.length=n) (h:Srt ys n):ys.Pairwise fun p q=>p.node≤q.node:=by
 rw [List.pairwise_iff_getElem]
 intro i j hi hj hij
 have:=h i j hij oM
 simpa [List.getD_eq_getElem?_getD,List.getElem?_eq_getElem hi,List.getElem?_eq_getElem hj] using this
theorem sorted_ports {c:Config} (h:(checkP c).1=0) {part:Int} {ys:List Port} {n:Nat} (hp:ys.Perm (rawN c.links part c.links.length)) (hl:ys.length=n) (hs:Srt ys n):ys=portsOf c part:=by
 have hpp:=hp.trans (portsOf_perm h part)
 refine List.Perm.eq_of_pairwise (le:=fun p q=>p.node≤q.node) (fun a b ha hb h1 h2 => ?_) (srt_pairwise hl hs) ((portsOf_sorted c part).imp fun h=>by omega) hpp
 exact inj_of ((portsOf_sorted c part).imp fun h=>by omega) a (hpp.subset ha) b hb oM
end Go.Proofs.YtgklghpkfmoogaaDoor.Pl
namespace Go.Proofs.YtgklghpkfmoogaaDoor.Pl
open Go.RowKit Go.Proofs.YtgklghpkfmoogaaDoor.Sm Go.Proofs.YtgklghpkfmoogaaDoor.Dp
set_option maxHeartbeats 4000000
set_option maxRecDepth 100000
set_option linter.unusedVariables false
set_option linter.unusedSimpArgs false
end Go.Proofs.YtgklghpkfmoogaaDoor.Pl
