/- Frames as bytes: the plain mathematics of chapter 4. No function of the program in it. -/
import Derived.Test.YtdomlccfjnkbjaaGreatDoorWrR
import Derived.Test.YtdomlccfjnkbjaaGreatDoorSmOpen
namespace Go.Proofs.YtdomlccfjnkbjaaGreatDoor.Fr
open Go.Proofs.YtdomlccfjnkbjaaGreatDoor.Wr
def Par (α : Type):Type:=List UInt8→Nat→Except (Int×Nat) (α × Nat)
def ret {α : Type} (a : α):Par α := fun _ pos => .ok (a,pos)
def bind {α β : Type} (p:Par α) (q : α → Par β):Par β := fun x pos=>match p x pos with
 | .error e => .error e
 | .ok r=>q r.1 x r.2
def numP (k:Nat) (lo hi:Int):Par Int:=fun x pos =>
 if x.length<pos+k then .error (2,pos) else if lo≤(num ((x.drop pos).take k):Int)∧(num ((x.drop pos).take k):Int)≤hi then .ok ((num ((x.drop pos).take k):Int),pos+k) else .error (6,pos)
def offP:Par Int:=fun x pos =>
 if x.length<pos+6 then .error (2,pos) else if -1099511627776≤offI ((x.drop pos).take 6)∧offI ((x.drop pos).take 6)≤1099511627776 then .ok (offI ((x.drop pos).take 6),pos+6) else .error (6,pos)
def takeP (k:Nat):Par (List UInt8):=fun x pos=>if x.length<pos+k then .error (2,pos) else .ok ((x.drop pos).take k,pos+k)
def repP:Nat→Par (List Int)
 | 0=>ret []
 | k+1=>bind (numP 1 0 201) fun a=>bind (repP k) fun l=>ret (a::l)
def agesP:Par (List Int):=bind (numP 1 1 6) fun n=>repP n.toNat
def bodyP:Par (List UInt8):=bind (numP 1 0 24) fun n=>takeP n.toNat
structure Good {α : Type} (p:Par α) (a : α) (bs:List UInt8):Prop where
 yes:∀ pre post,p (pre++(bs++post)) pre.length = .ok (a,pre.length+bs.length)
 cut:∀ pre k,k<bs.length→∃ at_,p (pre++bs.take k) pre.length = .error (2,at_)
theorem signedL_length {n k:Int} (h:signedB n k=true):(signedL n k).length=k.toNat:=by
 unfold signedL
 rw [if_pos h]
 split <;> rw [be_length]
def agesB (l:List Int):List UInt8:=l.flatMap fun a=>be a.toNat 1
def agesOk (l:List Int):Bool:=decide (1≤l.length∧l.length≤6)&&l.all fun a=>decide (0≤a∧a≤201)
theorem agesOk_iff {l:List Int}:agesOk l=true↔(1≤l.length∧l.length≤6)∧∀ a ∈ l,0≤a∧a≤201:=by
 unfold agesOk
 simp [List.all_eq_true]
def Back {α : Type} (p:Par α) (R : α → List UInt8→Prop):Prop :=
 ∀ x pos a pos',pos≤x.length→p x pos = .ok (a,pos')→∃ bs,R a bs∧x.drop pos=bs++x.drop pos'∧pos'=pos+bs.length∧pos'≤x.length
theorem ret_back {α : Type} {a : α} {R : α → List UInt8→Prop} (h:R a []):Back (ret a) R:=by
 intro x pos b pos' hp he
 unfold ret at he
 injection he with he
 injection he with h1 h2
 subst h1 h2
 exact ⟨[],h,rfl,rfl,hp⟩
theorem bind_back {α β : Type} {p:Par α} {q : α → Par β} {R : α → List UInt8→Prop} {S : β → List UInt8→Prop} (hp:Back p R) (hq:∀ a bs,R a bs→Back (q a) fun b cs=>S b (bs++cs)):Back (bind p q) S:=by
 intro x pos b pos' hpos he
 unfold bind at he
 cases h1:p x pos with
 | error e=>rw [h1] at he; cases he
 | ok r =>
  rw [h1] at he
  obtain ⟨a,m⟩:=r
  obtain ⟨bs,hR,e1,e2,e3⟩:=hp x pos a m hpos h1
  obtain ⟨cs,hS,f1,f2,f3⟩:=hq a bs hR x m b pos' e3 he
  exact ⟨bs++cs,hS,by rw [e1,f1,List.append_assoc],by rw [List.length_append]; omega,f3⟩
theorem piece {x:List UInt8} {pos k:Nat} (h:¬ x.length<pos+k):x.drop pos=(x.drop pos).take k++x.drop (pos+k)∧((x.drop pos).take k).length=k:=by
 constructor
 ·rw [← List.drop_drop,List.take_append_drop]
 ·rw [List.length_take,List.length_drop]; omega
theorem num_back (k:Nat) (lo hi:Int):Back (numP k lo hi) fun n bs=>lo≤n∧n≤hi∧bs=be n.toNat k:=by
 intro x pos a pos' hpos he
 unfold numP at he
 split at he
 ·cases he
 ·rename_i hl
  obtain ⟨e1,e2⟩:=piece hl
  split at he
  ·rename_i hr
   injection he with he
   injection he with h1 h2
   subst h1 h2
   refine ⟨(x.drop pos).take k,⟨hr.1,hr.2,?_⟩,e1,by rw [e2],by omega⟩
   have h:=be_num ((x.drop pos).take k)
   rw [e2] at h
   rw [Int.toNat_natCast]
   exact h.symm
  ·cases he
theorem off_back:Back offP fun n bs => -1099511627776≤n∧n≤1099511627776∧bs=signedL n 6:=by
 intro x pos a pos' hpos he
 unfold offP at he
 split at he
 ·cases he
 ·rename_i hl
  obtain ⟨e1,e2⟩:=piece hl
  split at he
  ·rename_i hr
   injection he with he
   injection he with h1 h2
   subst h1 h2
   refine ⟨(x.drop pos).take 6,⟨hr.1,hr.2,?_⟩,e1,by rw [e2],by omega⟩
   have h:=(back_signed (l:=(x.drop pos).take 6) oM oM).2
   rw [e2] at h
   exact h.symm
  ·cases he
theorem take_back (k:Nat):Back (takeP k) fun l bs=>l=bs∧bs.length=k:=by
 intro x pos a pos' hpos he
 unfold takeP at he
 split at he
 ·cases he
 ·rename_i hl
  obtain ⟨e1,e2⟩:=piece hl
  injection he with he
  injection he with h1 h2
  subst h1 h2
  exact ⟨_,⟨rfl,e2⟩,e1,by rw [e2],by omega⟩
theorem rep_back:∀ k:Nat,Back (repP k) fun l bs=>l.length=k∧(∀ a ∈ l,0≤a∧a≤201)∧bs=agesB l
 | 0=>ret_back ⟨rfl,by simp,rfl⟩
 | k+1=>by
  refine bind_back (num_back 1 0 201) ?_
  rintro a bs ⟨h1,h2,rfl⟩
  refine bind_back (rep_back k) ?_
  rintro l cs ⟨g1,g2,rfl⟩
  refine ret_back ⟨by rw [List.length_cons,g1],?_,?_⟩
  ·intro b hb
   rcases List.mem_cons.1 hb with rfl|hb
   ·exact ⟨h1,h2⟩
   ·exact g2 b hb
  ·rw [List.append_nil]; rfl
theorem ages_back:Back agesP fun l bs=>agesOk l=true∧bs=be l.length 1++agesB l:=by
 refine bind_back (num_back 1 1 6) ?_
 rintro n bs ⟨h1,h2,rfl⟩
 intro x pos l pos' hpos he
 obtain ⟨cs,⟨g1,g2,g3⟩,g4⟩:=rep_back n.toNat x pos l pos' hpos he
 refine ⟨cs,⟨agesOk_iff.2 ⟨by omega,g2⟩,?_⟩,g4⟩
 rw [g1,g3]
theorem body_back:Back bodyP fun l bs=>l.length≤24∧bs=be l.length 1++l:=by
 refine bind_back (num_back 1 0 24) ?_
 rintro n bs ⟨h1,h2,rfl⟩
 intro x pos l pos' hpos he
 obtain ⟨cs,⟨g1,g2⟩,g4⟩:=take_back n.toNat x pos l pos' hpos he
 subst g1
 exact ⟨l,⟨by omega,by rw [g2]⟩,g4⟩
theorem frame_eq {a b:Frame}:a=b↔a.kind=b.kind∧a.part=b.part∧a.node=b.node∧a.wait=b.wait∧a.mask=b.mask∧a.link=b.link∧a.flag=b.flag∧a.cycle=b.cycle∧a.offset=b.offset∧a.ages=b.ages∧a.frm=b.frm∧a.to=b.to∧a.seq=b.seq∧a.body=b.body:=by
 cases a
 cases b
 simp
instance frameDec:DecidableEq Frame:=fun _ _=>decidable_of_iff _ frame_eq.symm
def spare (f:Frame):Frame :=
 if f.kind=1 then { bare f.kind f.part f.node with wait:=f.wait }
 else if f.kind=2 then { bare f.kind f.part f.node with cycle:=f.cycle,mask:=f.mask,ages:=f.ages }
 else if f.kind=3 then { bare f.kind f.part f.node with link:=f.link,flag:=f.flag,cycle:=f.cycle,offset:=f.offset }
 else if f.kind=4 then { bare f.kind f.part f.node with link:=f.link,ages:=f.ages }
 else if f.kind=5 then { bare f.kind f.part f.node with link:=f.link,frm:=f.frm,to:=f.to,seq:=f.seq,body:=f.body }
 else bare f.kind f.part f.node
def rangeB (f:Frame):Bool:=decide ((0≤f.wait∧f.wait≤60000)∧(0≤f.mask∧f.mask≤4095)∧(0≤f.link∧f.link≤9)∧(0≤f.cycle∧f.cycle≤1099511627776)∧(-1099511627776≤f.offset∧f.offset≤1099511627776)∧(0≤f.frm∧f.frm≤5)∧(0≤f.to∧f.to≤5)∧f.body.length≤24)
def headB (f:Frame):Bool:=decide ((1≤f.kind∧f.kind≤5)∧(0≤f.part∧f.part≤5)∧(0≤f.node∧f.node≤11))
def mayB (f:Frame):Bool:=headB f&&decide (f=spare f)&&(!decide (f.kind=2∨f.kind=4)||agesOk f.ages)&&(!decide (f.kind=5)||decide (1≤f.seq∧f.seq≤2147483648))&&rangeB f
theorem may_iff {f:Frame}:mayB f=true↔((1≤f.kind∧f.kind≤5)∧(0≤f.part∧f.part≤5)∧(0≤f.node∧f.node≤11))∧f=spare f∧((f.kind=2∨f.kind=4)→agesOk f.ages=true)∧(f.kind=5→1≤f.seq∧f.seq≤2147483648)∧((0≤f.wait∧f.wait≤60000)∧(0≤f.mask∧f.mask≤4095)∧(0≤f.link∧f.link≤9)∧(0≤f.cycle∧f.cycle≤1099511627776)∧(-1099511627776≤f.offset∧f.offset≤1099511627776)∧(0≤f.frm∧f.frm≤5)∧(0≤f.to∧f.to≤5)∧f.body.length≤24):=by
 unfold mayB headB rangeB
 simp only [Bool.and_eq_true,Bool.or_eq_true,Bool.not_eq_true',decide_eq_true_eq,decide_eq_false_iff_not]
 constructor
 ·rintro ⟨⟨⟨⟨h1,h2⟩,h3⟩,h4⟩,h5⟩
  exact ⟨h1,h2,fun h=>h3.resolve_left fun n=>n h,fun h=>h4.resolve_left fun n=>n h,h5⟩
 ·rintro ⟨h1,h2,h3,h4,h5⟩
  refine ⟨⟨⟨⟨h1,h2⟩,?_⟩,?_⟩,h5⟩
  ·by_cases h:f.kind=2∨f.kind=4
   ·exact .inr (h3 h)
   ·exact .inl h
  ·by_cases h:f.kind=5
   ·exact .inr (h4 h)
   ·exact .inl h
def tailL (f:Frame):List UInt8 :=
 if f.kind=1 then be f.wait.toNat 2
 else if f.kind=2 then be f.cycle.toNat 6++(be f.mask.toNat 2++(be f.ages.length 1++agesB f.ages))
 else if f.kind=3 then be f.link.toNat 1++(be f.flag.toNat 1++(be f.cycle.toNat 6++signedL f.offset 6))
 else if f.kind=4 then be f.link.toNat 1++(be f.ages.length 1++agesB f.ages)
 else be f.link.toNat 1++(be f.frm.toNat 1++(be f.to.toNat 1++(be f.seq.toNat 4++(be f.body.length 1++f.body))))
def enc (f:Frame):List UInt8:=be f.kind.toNat 1++(be f.part.toNat 1++(be f.node.toNat 1++tailL f))
def tailP (k p n:Int):Par Frame :=
 if k=1 then bind (numP 2 0 60000) fun w=>ret { bare k p n with wait:=w }
 else if k=2 then bind (numP 6 0 1099511627776) fun c=>bind (numP 2 0 4095) fun m=>bind agesP fun l=>ret { bare k p n with cycle:=c,mask:=m,ages:=l }
 else if k=3 then bind (numP 1 0 9) fun l=>bind (numP 1 0 1) fun v=>bind (numP 6 0 1099511627776) fun c=>bind offP fun o=>ret { bare k p n with link:=l,flag:=decide (v=1),cycle:=c,offset:=o }
 else if k=4 then bind (numP 1 0 9) fun l=>bind agesP fun g=>ret { bare k p n with link:=l,ages:=g }
 else bind (numP 1 0 9) fun l=>bind (numP 1 0 5) fun a=>bind (numP 1 0 5) fun b=>bind (numP 4 1 2147483648) fun s=>bind bodyP fun y=>ret { bare k p n with link:=l,frm:=a,to:=b,seq:=s,body:=y }
def frameP:Par Frame:=bind (numP 1 1 5) fun k=>bind (numP 1 0 5) fun p=>bind (numP 1 0 11) fun n=>tailP k p n
theorem flag_back {v:Int} (h0:0≤v) (h1:v≤1):(decide (v=1)).toNat=v.toNat:=by
 have:v=0∨v=1:=by omega
 rcases this with rfl|rfl <;> rfl
theorem frame_back:Back frameP fun f bs=>mayB f=true∧bs=enc f:=by
 refine bind_back (num_back 1 1 5) ?_
 rintro k bk ⟨k1,k2,rfl⟩
 refine bind_back (num_back 1 0 5) ?_
 rintro p bp ⟨p1,p2,rfl⟩
 refine bind_back (num_back 1 0 11) ?_
 rintro n bn ⟨n1,n2,rfl⟩
 have fin:∀ (f:Frame) (bs:List UInt8),f.kind=k→f.part=p→f.node=n→(f=spare f∧((f.kind=2∨f.kind=4)→agesOk f.ages=true)∧(f.kind=5→1≤f.seq∧f.seq≤2147483648)∧((0≤f.wait∧f.wait≤60000)∧(0≤f.mask∧f.mask≤4095)∧(0≤f.link∧f.link≤9)∧(0≤f.cycle∧f.cycle≤1099511627776)∧(-1099511627776≤f.offset∧f.offset≤1099511627776)∧(0≤f.frm∧f.frm≤5)∧(0≤f.to∧f.to≤5)∧f.body.length≤24))→bs=tailL f→mayB f=true∧be k.toNat 1++(be p.toNat 1++(be n.toNat 1++bs))=enc f:=by
  intro f bs hk hp hn hv hb
  subst hk hp hn hb
  exact ⟨may_iff.2 ⟨⟨⟨k1,k2⟩,⟨p1,p2⟩,⟨n1,n2⟩⟩,hv⟩,rfl⟩
 unfold tailP
 by_cases e1:k=1
 ·subst e1
  rw [if_pos rfl]
  refine bind_back (num_back 2 0 60000) ?_
  rintro w bw ⟨w1,w2,rfl⟩
  exact ret_back (fin _ _ rfl rfl rfl ⟨rfl,by simp [bare],by simp [bare],by simp [bare]; omega⟩ (by simp [tailL,bare]))
 rw [if_neg e1]
 by_cases e2:k=2
 ·subst e2
  rw [if_pos rfl]
  refine bind_back (num_back 6 0 1099511627776) ?_
  rintro c bc ⟨c1,c2,rfl⟩
  refine bind_back (num_back 2 0 4095) ?_
  rintro m bm ⟨m1,m2,rfl⟩
  refine bind_back ages_back ?_
  rintro l bl ⟨l1,rfl⟩
  exact ret_back (fin _ _ rfl rfl rfl ⟨rfl,fun _=>l1,by simp [bare],by simp [bare]; omega⟩ (by simp [tailL,bare]))
 rw [if_neg e2]
 by_cases e3:k=3
 ·subst e3
  rw [if_pos rfl]
  refine bind_back (num_back 1 0 9) ?_
  rintro l bl ⟨l1,l2,rfl⟩
  refine bind_back (num_back 1 0 1) ?_
  rintro v bv ⟨v1,v2,rfl⟩
  refine bind_back (num_back 6 0 1099511627776) ?_
  rintro c bc ⟨c1,c2,rfl⟩
  refine bind_back off_back ?_
  rintro o bo ⟨o1,o2,rfl⟩
  exact ret_back (fin _ _ rfl rfl rfl ⟨rfl,by simp [bare],by simp [bare],by simp [bare]; omega⟩ (by simp [tailL,bare,flag_back v1 v2]))
 rw [if_neg e3]
 by_cases e4:k=4
 ·subst e4
  rw [if_pos rfl]
  refine bind_back (num_back 1 0 9) ?_
  rintro l bl ⟨l1,l2,rfl⟩
  refine bind_back ages_back ?_
  rintro g bg ⟨g1,rfl⟩
  exact ret_back (fin _ _ rfl rfl rfl ⟨rfl,fun _=>g1,by simp [bare],by simp [bare]; omega⟩ (by simp [tailL,bare]))
 rw [if_neg e4]
 obtain rfl:k=5:=by omega
 refine bind_back (num_back 1 0 9) ?_
 rintro l bl ⟨l1,l2,rfl⟩
 refine bind_back (num_back 1 0 5) ?_
 rintro a ba ⟨a1,a2,rfl⟩
 refine bind_back (num_back 1 0 5) ?_
 rintro b bb ⟨b1,b2,rfl⟩
 refine bind_back (num_back 4 1 2147483648) ?_
 rintro s bs ⟨s1,s2,rfl⟩
 refine bind_back body_back ?_
 rintro y bY ⟨y1,rfl⟩
 exact ret_back (fin _ _ rfl rfl rfl ⟨rfl,by simp [bare],fun _=>⟨s1,s2⟩,by simp [bare]; omega⟩ (by simp [tailL,bare]))
def readX (x:List UInt8):Except (Int×Nat) Frame :=
 if 1≤num (x.take 1)∧num (x.take 1)≤5 then
  match frameP x 0 with
  | .error e => .error e
  | .ok r=>if r.2<x.length then .error (3,r.2) else .ok r.1
 else .error (5,0)
theorem read_back {x:List UInt8} {f:Frame} (h:readX x = .ok f):mayB f=true∧enc f=x:=by
 unfold readX at h
 split at h
 ·cases h1:frameP x 0 with
  | error e=>rw [h1] at h; cases h
  | ok r =>
   rw [h1] at h
   obtain ⟨a,pos⟩:=r
   by_cases hp:pos<x.length
   ·simp [hp] at h
   ·simp [hp] at h
    subst h
    obtain ⟨bs,⟨m1,m2⟩,e1,e2,e3⟩:=frame_back x 0 a pos oM h1
    rw [List.drop_zero,List.drop_of_length_le oM,List.append_nil] at e1
    exact ⟨m1,by rw [← m2,e1]⟩
 ·cases h
theorem enc_le {f:Frame} (h:mayB f=true):(enc f).length≤100:=by
 obtain ⟨⟨hk,_,_⟩,_,ha,_,_,_,_,_,_,_,_,r8⟩:=may_iff.1 h
 have hal:∀ l:List Int,(agesB l).length=l.length:=by
  intro l
  induction l with
  | nil=>rfl
  | cons a l ih =>
   have:agesB (a::l)=be a.toNat 1++agesB l:=rfl
   rw [this,List.length_append,be_length,ih,List.length_cons]
   omega
 have hs:(signedL f.offset 6).length≤6:=by
  by_cases hb:signedB f.offset 6=true
  ·rw [signedL_length hb]; decide
  ·unfold signedL; rw [if_neg hb]; simp
 have hag:(f.kind=2∨f.kind=4)→f.ages.length≤6:=fun h=>(agesOk_iff.1 (ha h)).1.2
 unfold enc tailL
 split
 ·simp only [List.length_append,be_length]; omega
 ·split
  ·have:=hag oM
   simp only [List.length_append,be_length,hal]; omega
  ·split
   ·simp only [List.length_append,be_length]; omega
   ·split
    ·have:=hag oM
     simp only [List.length_append,be_length,hal]; omega
    ·simp only [List.length_append,be_length]; omega
end Go.Proofs.YtdomlccfjnkbjaaGreatDoor.Fr
