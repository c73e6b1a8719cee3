/- A reader of fields, by what it is to read: numbers, ages, bytes. -/
import Derived.Test.YtdomlccfjnkbjaaGreatDoorWrR
import Derived.Test.YtdomlccfjnkbjaaGreatDoorSmOpen
import Derived.WalkKit
import Derived.LaidEql
import Derived.Stop.Asserts
import Derived.RowKitTokens
import Derived.Test.YtdomlccfjnkbjaaGreatDoorSmA
import Derived.Test.YtdomlccfjnkbjaaGreatDoorSmE
namespace Go.Proofs.YtdomlccfjnkbjaaGreatDoor.Fr
open Go.Proofs.YtdomlccfjnkbjaaGreatDoor.Wr
def Par (α : Type):Type:=List UInt8→Nat→Except (Int×Nat) (α × Nat)
def ret {α : Type} (a : α):Par α := fun _ pos => .ok (a,pos)
def bind {α β : Type} (p:Par α) (q : α → Par β):Par β := fun x pos=>match p x pos with
 | .error e => .error e
 | .ok r=>q r.1 x r.2
def numP (k:Nat) (lo hi:Int):Par Int:=fun x pos =>
 if x.length<pos+k then .error (2,pos) else if lo≤(num ((x.drop pos).take k):Int)∧(num ((x.drop pos).take k):Int)≤hi then .ok ((num ((x.drop pos).take k):Int),pos+k) else .error (6,pos)
def offP:Par Int:=fun x pos =>
 if x.length<pos+6 then .error (2,pos) else if -1099511627776≤offI ((x.drop pos).take 6)∧offI ((x.drop pos).take 6)≤1099511627776 then .ok (offI ((x.drop pos).take 6),pos+6) else .error (6,pos)
def takeP (k:Nat):Par (List UInt8):=fun x pos=>if x.length<pos+k then .error (2,pos) else .ok ((x.drop pos).take k,pos+k)
def repP:Nat→Par (List Int)
 | 0=>ret []
 | k+1=>bind (numP 1 0 201) fun a=>bind (repP k) fun l=>ret (a::l)
def agesP:Par (List Int):=bind (numP 1 1 6) fun n=>repP n.toNat
def bodyP:Par (List UInt8):=bind (numP 1 0 24) fun n=>takeP n.toNat
structure Good {α : Type} (p:Par α) (a : α) (bs:List UInt8):Prop where
 yes:∀ pre post,p (pre++(bs++post)) pre.length = .ok (a,pre.length+bs.length)
 cut:∀ pre k,k<bs.length→∃ at_,p (pre++bs.take k) pre.length = .error (2,at_)
theorem signedL_length {n k:Int} (h:signedB n k=true):(signedL n k).length=k.toNat:=by
 unfold signedL
 rw [if_pos h]
 split <;> rw [be_length]
def agesB (l:List Int):List UInt8:=l.flatMap fun a=>be a.toNat 1
def agesOk (l:List Int):Bool:=decide (1≤l.length∧l.length≤6)&&l.all fun a=>decide (0≤a∧a≤201)
theorem agesOk_iff {l:List Int}:agesOk l=true↔(1≤l.length∧l.length≤6)∧∀ a ∈ l,0≤a∧a≤201:=by
 unfold agesOk
 simp [List.all_eq_true]
def Back {α : Type} (p:Par α) (R : α → List UInt8→Prop):Prop :=
 ∀ x pos a pos',pos≤x.length→p x pos = .ok (a,pos')→∃ bs,R a bs∧x.drop pos=bs++x.drop pos'∧pos'=pos+bs.length∧pos'≤x.length
theorem ret_back {α : Type} {a : α} {R : α → List UInt8→Prop} (h:R a []):Back (ret a) R:=by
 intro x pos b pos' hp he
 unfold ret at he
 injection he with he
 injection he with h1 h2
 subst h1 h2
 exact ⟨[],h,rfl,rfl,hp⟩
theorem bind_back {α β : Type} {p:Par α} {q : α → Par β} {R : α → List UInt8→Prop} {S : β → List UInt8→Prop} (hp:Back p R) (hq:∀ a bs,R a bs→Back (q a) fun b cs=>S b (bs++cs)):Back (bind p q) S:=by
 intro x pos b pos' hpos he
 unfold bind at he
 cases h1:p x pos with
 | error e=>rw [h1] at he; cases he
 | ok r =>
  rw [h1] at he
  obtain ⟨a,m⟩:=r
  obtain ⟨bs,hR,e1,e2,e3⟩:=hp x pos a m hpos h1
  obtain ⟨cs,hS,f1,f2,f3⟩:=hq a bs hR x m b pos' e3 he
  exact ⟨bs++cs,hS,by rw [e1,f1,List.append_assoc],by rw [List.length_append]; omega,f3⟩
theorem piece {x:List UInt8} {pos k:Nat} (h:¬ x.length<pos+k):x.drop pos=(x.drop pos).take k++x.drop (pos+k)∧((x.drop pos).take k).length=k:=by
 constructor
 ·rw [← List.drop_drop,List.take_append_drop]
 ·rw [List.length_take,List.length_drop]; omega
theorem num_back (k:Nat) (lo hi:Int):Back (numP k lo hi) fun n bs=>lo≤n∧n≤hi∧bs=be n.toNat k:=by
 intro x pos a pos' hpos he
 unfold numP at he
 split at he
 ·cases he
 ·rename_i hl
  obtain ⟨e1,e2⟩:=piece hl
  split at he
  ·rename_i hr
   injection he with he
   injection he with h1 h2
   subst h1 h2
   refine ⟨(x.drop pos).take k,⟨hr.1,hr.2,?_⟩,e1,by rw [e2],by omega⟩
   have h:=be_num ((x.drop pos).take k)
   rw [e2] at h
   rw [Int.toNat_natCast]
   exact h.symm
  ·cases he
theorem off_back:Back offP fun n bs => -1099511627776≤n∧n≤1099511627776∧bs=signedL n 6:=by
 intro x pos a pos' hpos he
 unfold offP at he
 split at he
 ·cases he
 ·rename_i hl
  obtain ⟨e1,e2⟩:=piece hl
  split at he
  ·rename_i hr
   injection he with he
   injection he with h1 h2
   subst h1 h2
   refine ⟨(x.drop pos).take 6,⟨hr.1,hr.2,?_⟩,e1,by rw [e2],by omega⟩
   have h:=(back_signed (l:=(x.drop pos).take 6) oM oM).2
   rw [e2] at h
   exact h.symm
  ·cases he
theorem take_back (k:Nat):Back (takeP k) fun l bs=>l=bs∧bs.length=k:=by
 intro x pos a pos' hpos he
 unfold takeP at he
 split at he
 ·cases he
 ·rename_i hl
  obtain ⟨e1,e2⟩:=piece hl
  injection he with he
  injection he with h1 h2
  subst h1 h2
  exact ⟨_,⟨rfl,e2⟩,e1,by rw [e2],by omega⟩
theorem rep_back:∀ k:Nat,Back (repP k) fun l bs=>l.length=k∧(∀ a ∈ l,0≤a∧a≤201)∧bs=agesB l
 | 0=>ret_back ⟨rfl,by simp,rfl⟩
 | k+1=>by
  refine bind_back (num_back 1 0 201) ?_
  rintro a bs ⟨h1,h2,rfl⟩
  refine bind_back (rep_back k) ?_
  rintro l cs ⟨g1,g2,rfl⟩
  refine ret_back ⟨by rw [List.length_cons,g1],?_,?_⟩
  ·intro b hb
   rcases List.mem_cons.1 hb with rfl|hb
   ·exact ⟨h1,h2⟩
   ·exact g2 b hb
  ·rw [List.append_nil]; rfl
theorem ages_back:Back agesP fun l bs=>agesOk l=true∧bs=be l.length 1++agesB l:=by
 refine bind_back (num_back 1 1 6) ?_
 rintro n bs ⟨h1,h2,rfl⟩
 intro x pos l pos' hpos he
 obtain ⟨cs,⟨g1,g2,g3⟩,g4⟩:=rep_back n.toNat x pos l pos' hpos he
 refine ⟨cs,⟨agesOk_iff.2 ⟨by omega,g2⟩,?_⟩,g4⟩
 rw [g1,g3]
theorem body_back:Back bodyP fun l bs=>l.length≤24∧bs=be l.length 1++l:=by
 refine bind_back (num_back 1 0 24) ?_
 rintro n bs ⟨h1,h2,rfl⟩
 intro x pos l pos' hpos he
 obtain ⟨cs,⟨g1,g2⟩,g4⟩:=take_back n.toNat x pos l pos' hpos he
 subst g1
 exact ⟨l,⟨by omega,by rw [g2]⟩,g4⟩
theorem frame_eq {a b:Frame}:a=b↔a.kind=b.kind∧a.part=b.part∧a.node=b.node∧a.wait=b.wait∧a.mask=b.mask∧a.link=b.link∧a.flag=b.flag∧a.cycle=b.cycle∧a.offset=b.offset∧a.ages=b.ages∧a.frm=b.frm∧a.to=b.to∧a.seq=b.seq∧a.body=b.body:=by
 cases a
 cases b
 simp
instance frameDec:DecidableEq Frame:=fun _ _=>decidable_of_iff _ frame_eq.symm
def spare (f:Frame):Frame :=
 if f.kind=1 then { bare f.kind f.part f.node with wait:=f.wait }
 else if f.kind=2 then { bare f.kind f.part f.node with cycle:=f.cycle,mask:=f.mask,ages:=f.ages }
 else if f.kind=3 then { bare f.kind f.part f.node with link:=f.link,flag:=f.flag,cycle:=f.cycle,offset:=f.offset }
 else if f.kind=4 then { bare f.kind f.part f.node with link:=f.link,ages:=f.ages }
 else if f.kind=5 then { bare f.kind f.part f.node with link:=f.link,frm:=f.frm,to:=f.to,seq:=f.seq,body:=f.body }
 else bare f.kind f.part f.node
def rangeB (f:Frame):Bool:=decide ((0≤f.wait∧f.wait≤60000)∧(0≤f.mask∧f.mask≤4095)∧(0≤f.link∧f.link≤9)∧(0≤f.cycle∧f.cycle≤1099511627776)∧(-1099511627776≤f.offset∧f.offset≤1099511627776)∧(0≤f.frm∧f.frm≤5)∧(0≤f.to∧f.to≤5)∧f.body.length≤24)
def headB (f:Frame):Bool:=decide ((1≤f.kind∧f.kind≤5)∧(0≤f.part∧f.part≤5)∧(0≤f.node∧f.node≤11))
def mayB (f:Frame):Bool:=headB f&&decide (f=spare f)&&(!decide (f.kind=2∨f.kind=4)||agesOk f.ages)&&(!decide (f.kind=5)||decide (1≤f.seq∧f.seq≤2147483648))&&rangeB f
theorem may_iff {f:Frame}:mayB f=true↔((1≤f.kind∧f.kind≤5)∧(0≤f.part∧f.part≤5)∧(0≤f.node∧f.node≤11))∧f=spare f∧((f.kind=2∨f.kind=4)→agesOk f.ages=true)∧(f.kind=5→1≤f.seq∧f.seq≤2147483648)∧((0≤f.wait∧f.wait≤60000)∧(0≤f.mask∧f.mask≤4095)∧(0≤f.link∧f.link≤9)∧(0≤f.cycle∧f.cycle≤1099511627776)∧(-1099511627776≤f.offset∧f.offset≤1099511627776)∧(0≤f.frm∧f.frm≤5)∧(0≤f.to∧f.to≤5)∧f.body.length≤24):=by
 unfold mayB headB rangeB
 simp only [Bool.and_eq_true,Bool.or_eq_true,Bool.not_eq_true',decide_eq_true_eq,decide_eq_false_iff_not]
 constructor
 ·rintro ⟨⟨⟨⟨h1,h2⟩,h3⟩,h4⟩,h5⟩
  exact ⟨h1,h2,fun h=>h3.resolve_left fun n=>n h,fun h=>h4.resolve_left fun n=>n h,h5⟩
 ·rintro ⟨h1,h2,h3,h4,h5⟩
  refine ⟨⟨⟨⟨h1,h2⟩,?_⟩,?_⟩,h5⟩
  ·by_cases h:f.kind=2∨f.kind=4
   ·exact .inr (h3 h)
   ·exact .inl h
  ·by_cases h:f.kind=5
   ·exact .inr (h4 h)
   ·exact .inl h
def tailL (f:Frame):List UInt8 :=
 if f.kind=1 then be f.wait.toNat 2
 else if f.kind=2 then be f.cycle.toNat 6++(be f.mask.toNat 2++(be f.ages.length 1++agesB f.ages))
 else if f.kind=3 then be f.link.toNat 1++(be f.flag.toNat 1++(be f.cycle.toNat 6++signedL f.offset 6))
 else if f.kind=4 then be f.link.toNat 1++(be f.ages.length 1++agesB f.ages)
 else be f.link.toNat 1++(be f.frm.toNat 1++(be f.to.toNat 1++(be f.seq.toNat 4++(be f.body.length 1++f.body))))
def enc (f:Frame):List UInt8:=be f.kind.toNat 1++(be f.part.toNat 1++(be f.node.toNat 1++tailL f))
def tailP (k p n:Int):Par Frame :=
 if k=1 then bind (numP 2 0 60000) fun w=>ret { bare k p n with wait:=w }
 else if k=2 then bind (numP 6 0 1099511627776) fun c=>bind (numP 2 0 4095) fun m=>bind agesP fun l=>ret { bare k p n with cycle:=c,mask:=m,ages:=l }
 else if k=3 then bind (numP 1 0 9) fun l=>bind (numP 1 0 1) fun v=>bind (numP 6 0 1099511627776) fun c=>bind offP fun o=>ret { bare k p n with link:=l,flag:=decide (v=1),cycle:=c,offset:=o }
 else if k=4 then bind (numP 1 0 9) fun l=>bind agesP fun g=>ret { bare k p n with link:=l,ages:=g }
 else bind (numP 1 0 9) fun l=>bind (numP 1 0 5) fun a=>bind (numP 1 0 5) fun b=>bind (numP 4 1 2147483648) fun s=>bind bodyP fun y=>ret { bare k p n with link:=l,frm:=a,to:=b,seq:=s,body:=y }
def frameP:Par Frame:=bind (numP 1 1 5) fun k=>bind (numP 1 0 5) fun p=>bind (numP 1 0 11) fun n=>tailP k p n
theorem flag_back {v:Int} (h0:0≤v) (h1:v≤1):(decide (v=1)).toNat=v.toNat:=by
 have:v=0∨v=1:=by omega
 rcases this with rfl|rfl <;> rfl
theorem frame_back:Back frameP fun f bs=>mayB f=true∧bs=enc f:=by
 refine bind_back (num_back 1 1 5) ?_
 rintro k bk ⟨k1,k2,rfl⟩
 refine bind_back (num_back 1 0 5) ?_
 rintro p bp ⟨p1,p2,rfl⟩
 refine bind_back (num_back 1 0 11) ?_
 rintro n bn ⟨n1,n2,rfl⟩
 have fin:∀ (f:Frame) (bs:List UInt8),f.kind=k→f.part=p→f.node=n→(f=spare f∧((f.kind=2∨f.kind=4)→agesOk f.ages=true)∧(f.kind=5→1≤f.seq∧f.seq≤2147483648)∧((0≤f.wait∧f.wait≤60000)∧(0≤f.mask∧f.mask≤4095)∧(0≤f.link∧f.link≤9)∧(0≤f.cycle∧f.cycle≤1099511627776)∧(-1099511627776≤f.offset∧f.offset≤1099511627776)∧(0≤f.frm∧f.frm≤5)∧(0≤f.to∧f.to≤5)∧f.body.length≤24))→bs=tailL f→mayB f=true∧be k.toNat 1++(be p.toNat 1++(be n.toNat 1++bs))=enc f:=by
  intro f bs hk hp hn hv hb
  subst hk hp hn hb
  exact ⟨may_iff.2 ⟨⟨⟨k1,k2⟩,⟨p1,p2⟩,⟨n1,n2⟩⟩,hv⟩,rfl⟩
 unfold tailP
 by_cases e1:k=1
 ·subst e1
  rw [if_pos rfl]
  refine bind_back (num_back 2 0 60000) ?_
  rintro w bw ⟨w1,w2,rfl⟩
  exact ret_back (fin _ _ rfl rfl rfl ⟨rfl,by simp [bare],by simp [bare],by simp [bare]; omega⟩ (by simp [tailL,bare]))
 rw [if_neg e1]
 by_cases e2:k=2
 ·subst e2
  rw [if_pos rfl]
  refine bind_back (num_back 6 0 1099511627776) ?_
  rintro c bc ⟨c1,c2,rfl⟩
  refine bind_back (num_back 2 0 4095) ?_
  rintro m bm ⟨m1,m2,rfl⟩
  refine bind_back ages_back ?_
  rintro l bl ⟨l1,rfl⟩
  exact ret_back (fin _ _ rfl rfl rfl ⟨rfl,fun _=>l1,by simp [bare],by simp [bare]; omega⟩ (by simp [tailL,bare]))
 rw [if_neg e2]
 by_cases e3:k=3
 ·subst e3
  rw [if_pos rfl]
  refine bind_back (num_back 1 0 9) ?_
  rintro l bl ⟨l1,l2,rfl⟩
  refine bind_back (num_back 1 0 1) ?_
  rintro v bv ⟨v1,v2,rfl⟩
  refine bind_back (num_back 6 0 1099511627776) ?_
  rintro c bc ⟨c1,c2,rfl⟩
  refine bind_back off_back ?_
  rintro o bo ⟨o1,o2,rfl⟩
  exact ret_back (fin _ _ rfl rfl rfl ⟨rfl,by simp [bare],by simp [bare],by simp [bare]; omega⟩ (by simp [tailL,bare,flag_back v1 v2]))
 rw [if_neg e3]
 by_cases e4:k=4
 ·subst e4
  rw [if_pos rfl]
  refine bind_back (num_back 1 0 9) ?_
  rintro l bl ⟨l1,l2,rfl⟩
  refine bind_back ages_back ?_
  rintro g bg ⟨g1,rfl⟩
  exact ret_back (fin _ _ rfl rfl rfl ⟨rfl,fun _=>g1,by simp [bare],by simp [bare]; omega⟩ (by simp [tailL,bare]))
 rw [if_neg e4]
 obtain rfl:k=5:=by omega
 refine bind_back (num_back 1 0 9) ?_
 rintro l bl ⟨l1,l2,rfl⟩
 refine bind_back (num_back 1 0 5) ?_
 rintro a ba ⟨a1,a2,rfl⟩
 refine bind_back (num_back 1 0 5) ?_
 rintro b bb ⟨b1,b2,rfl⟩
 refine bind_back (num_back 4 1 2147483648) ?_
 rintro s bs ⟨s1,s2,rfl⟩
 refine bind_back body_back ?_
 rintro y bY ⟨y1,rfl⟩
 exact ret_back (fin _ _ rfl rfl rfl ⟨rfl,by simp [bare],fun _=>⟨s1,s2⟩,by simp [bare]; omega⟩ (by simp [tailL,bare]))
def readX (x:List UInt8):Except (Int×Nat) Frame :=
 if 1≤num (x.take 1)∧num (x.take 1)≤5 then
  match frameP x 0 with
  | .error e => .error e
  | .ok r=>if r.2<x.length then .error (3,r.2) else .ok r.1
 else .error (5,0)
theorem read_back {x:List UInt8} {f:Frame} (h:readX x = .ok f):mayB f=true∧enc f=x:=by
 unfold readX at h
 split at h
 ·cases h1:frameP x 0 with
  | error e=>rw [h1] at h; cases h
  | ok r =>
   rw [h1] at h
   obtain ⟨a,pos⟩:=r
   by_cases hp:pos<x.length
   ·simp [hp] at h
   ·simp [hp] at h
    subst h
    obtain ⟨bs,⟨m1,m2⟩,e1,e2,e3⟩:=frame_back x 0 a pos oM h1
    rw [List.drop_zero,List.drop_of_length_le oM,List.append_nil] at e1
    exact ⟨m1,by rw [← m2,e1]⟩
 ·cases h
theorem enc_le {f:Frame} (h:mayB f=true):(enc f).length≤100:=by
 obtain ⟨⟨hk,_,_⟩,_,ha,_,_,_,_,_,_,_,_,r8⟩:=may_iff.1 h
 have hal:∀ l:List Int,(agesB l).length=l.length:=by
  intro l
  induction l with
  | nil=>rfl
  | cons a l ih =>
   have:agesB (a::l)=be a.toNat 1++agesB l:=rfl
   rw [this,List.length_append,be_length,ih,List.length_cons]
   omega
 have hs:(signedL f.offset 6).length≤6:=by
  by_cases hb:signedB f.offset 6=true
  ·rw [signedL_length hb]; decide
  ·unfold signedL; rw [if_neg hb]; simp
 have hag:(f.kind=2∨f.kind=4)→f.ages.length≤6:=fun h=>(agesOk_iff.1 (ha h)).1.2
 unfold enc tailL
 split
 ·simp only [List.length_append,be_length]; omega
 ·split
  ·have:=hag oM
   simp only [List.length_append,be_length,hal]; omega
  ·split
   ·simp only [List.length_append,be_length]; omega
   ·split
    ·have:=hag oM
     simp only [List.length_append,be_length,hal]; omega
    ·simp only [List.length_append,be_length]; omega
end Go.Proofs.YtdomlccfjnkbjaaGreatDoor.Fr
namespace Go.Proofs.YtdomlccfjnkbjaaGreatDoor.Fr
open Go.RowKit Go.Extern.Stop Go.Stop Go.Extern Go.Proofs.YtdomlccfjnkbjaaGreatDoor.Sm
set_option maxHeartbeats 400000
set_option maxRecDepth 100000
theorem isTypeOf (v:Value) (w:World):(Extern.ReflectliteType.typeOf #[.iface 251 v]).run Tryz.prog w = .ok (.iface 210 (.agg #[.pointer (some ⟨14,251,none⟩)])) w:=by kernel_rfl
noncomputable def cmpE:Array Value→Sem Value:=(Extern.find Tryz.f228).getD fun _=>pure undef
theorem isComparable (w:World):(cmpE #[.agg #[.pointer (some ⟨14,251,none⟩)]]).run Tryz.prog w = .ok (.bool true) w:=by kernel_rfl
theorem isMethodComparable (v:Value) (w:World):(Go.method 383 210 v "Comparable").run Tryz.prog w = .ok (228,v) w:=by kernel_rfl
theorem isComp:(Tryz.prog.info? 251).map (·.comparable)=some true:=by kernel_rfl
theorem isSize:(Tryz.prog.info? 271).map (·.size)=some 1:=by kernel_rfl
theorem noIsE (v:Value) (xT:TypeId) (w:World):(Instr.typeAssert (.iface 251 v) xT 212 true).run Tryz.prog w = .ok (.tuple #[.nilIface,.bool false]) w:=run_typeAssert_lacksB Tryz.underlying212 kR kR v xT w
theorem noUnwrapE (v:Value) (xT:TypeId) (w:World):(Instr.typeAssert (.iface 251 v) xT 215 true).run Tryz.prog w = .ok (.tuple #[.nilIface,.bool false]) w:=run_typeAssert_lacksB Tryz.underlying215 kR kR v xT w
theorem noUnwrapsE (v:Value) (xT:TypeId) (w:World):(Instr.typeAssert (.iface 251 v) xT 217 true).run Tryz.prog w = .ok (.tuple #[.nilIface,.bool false]) w:=run_typeAssert_lacksB Tryz.underlying217 kR kR v xT w
theorem noIsW (v:Value) (xT:TypeId) (w:World):(Instr.typeAssert (.iface 139 v) xT 212 true).run Tryz.prog w = .ok (.tuple #[.nilIface,.bool false]) w:=run_typeAssert_lacksB Tryz.underlying212 kR kR v xT w
theorem hasUnwrapW (v:Value) (xT:TypeId) (w:World):(Instr.typeAssert (.iface 139 v) xT 215 true).run Tryz.prog w = .ok (.tuple #[.iface 139 v,.bool true]) w:=run_typeAssert_hasB Tryz.underlying215 kR v xT w
theorem methodUnwrap (v:Value) (w:World):(Go.method 383 139 v "Unwrap").run Tryz.prog w = .ok (220,v) w:=by kernel_rfl
theorem is_wrap_same (pb:Nat) (b:Addr) (w:World) (h1:w.cell? ⟨pb,0,none⟩=some (.iface 251 (.pointer (some b)))) :
  Calls Tryz.prog 93 #[.iface 139 (.pointer (some ⟨pb,0,none⟩)),.iface 251 (.pointer (some b))] w fun e w'=>e = .returned (.bool true)∧w=w':=by
 obtain ⟨i,hi,hcmp⟩:=Option.map_eq_some_iff.1 isComp
 obtain ⟨j,hj,hjs⟩:=Option.map_eq_some_iff.1 isSize
 have h8:=@run_callFunc_extern Tryz.prog 124 _ Extern.ReflectliteType.typeOf Tryz.func124 kR kR kR kR
 have h32:=@run_callFunc_extern Tryz.prog 228 _ cmpE Tryz.func228 kR kR kR kR
 have tT:=isTypeOf
 have cT:=isComparable
 have mR:=isMethodComparable
 have nE:=noIsE
 have uE:=noUnwrapE
 have vE:=noUnwrapsE
 have nW:=noIsW
 have uW:=hasUnwrapW
 have mU:=methodUnwrap
 have heq:=run_eql_iface_ptr_same (P:=Tryz.prog) w b Tryz.underlying112 Tryz.underlying251 hi hcmp hj
 have hty:=run_eql_iface_types (P:=Tryz.prog) 139 251 (.pointer (some ⟨pb,0,none⟩)) (.pointer (some b)) Tryz.underlying112 (by decide) w
 go_enter Tryz.func93,Tryz.ntmps93
 go_wp2
 refine wp_loop_rounds 2 ?_
 rw [rounds_succ]
 go_wp2
 rw [rounds_succ]
 go_wp2
 go_ret
 exact ⟨rfl,rfl⟩
structure Sn where
 short:Addr
 sum:Addr
 kind:Addr
 long:Addr
 form:Addr
def Sn.of (S:Sn) (e:Int):Addr:=if e=2 then S.short else if e=4 then S.sum else if e=5 then S.kind else if e=3 then S.long else S.form
structure Sents (w:World) (B:Nat) (S:Sn):Prop where
 cShort:w.cell? ⟨0,0,none⟩=some (.iface 251 (.pointer (some S.short)))
 cSum:w.cell? ⟨1,0,none⟩=some (.iface 251 (.pointer (some S.sum)))
 cKind:w.cell? ⟨2,0,none⟩=some (.iface 251 (.pointer (some S.kind)))
 cLong:w.cell? ⟨3,0,none⟩=some (.iface 251 (.pointer (some S.long)))
 cForm:w.cell? ⟨13,0,none⟩=some (.iface 251 (.pointer (some S.form)))
 cType:w.cell? ⟨12,0,none⟩=some (.iface 210 (.agg #[.pointer (some ⟨14,112,none⟩)]))
 low:14≤B
 rows:∀ e,(S.of e).block<B∧∃ c t,w.heap[(S.of e).block]? = some (.cells c t (0,0))
 nd:[S.short,S.sum,S.kind,S.long,S.form].Nodup
theorem Sents.below {w w':World} {B:Nat} {S:Sn} (h:Sents w B S) (hb:Below B w w'):Sents w' B S:=by
 have hl:=h.low
 refine ⟨?_,?_,?_,?_,?_,?_,hl,fun e => ?_,h.nd⟩
 ·rw [hb.cell (Nat.lt_of_lt_of_le (by decide) hl)]; exact h.cShort
 ·rw [hb.cell (Nat.lt_of_lt_of_le (by decide) hl)]; exact h.cSum
 ·rw [hb.cell (Nat.lt_of_lt_of_le (by decide) hl)]; exact h.cKind
 ·rw [hb.cell (Nat.lt_of_lt_of_le (by decide) hl)]; exact h.cLong
 ·rw [hb.cell (Nat.lt_of_lt_of_le (by decide) hl)]; exact h.cForm
 ·rw [hb.cell (Nat.lt_of_lt_of_le (by decide) hl)]; exact h.cType
 ·obtain ⟨h1,c,t,h2⟩:=h.rows e
  exact ⟨h1,c,t,(hb.block _ h1).trans h2⟩
theorem Sents.more {w:World} {B B':Nat} {S:Sn} (h:Sents w B S) (hB:B≤B'):Sents w B' S :=
 ⟨h.cShort,h.cSum,h.cKind,h.cLong,h.cForm,h.cType,by have:=h.low; omega,fun e=>⟨by have:=(h.rows e).1; omega,(h.rows e).2⟩,h.nd⟩
theorem Sents.later {w w':World} {S:Sn} (h:Sents w w.heap.size S) (hb:Below w.heap.size w w'):Sents w' w'.heap.size S:=(h.below hb).more hb.size
theorem Sents.drewN {w:World} {B:Nat} {S:Sn} (h:Sents w B S) (k:Nat):Sents (w.drewN k) B S:=⟨h.cShort,h.cSum,h.cKind,h.cLong,h.cForm,h.cType,h.low,h.rows,h.nd⟩
def FaultV (w:World) (B:Nat) (S:Sn) (v:Value) (e:Int) (at_:Int):Prop :=
 ∃ b,v = .iface 139 (.pointer (some ⟨b,0,none⟩))∧b<B∧w.cell? ⟨b,0,none⟩=some (.iface 251 (.pointer (some (S.of e))))∧w.cell? ⟨b,1,none⟩=some (.int .i64 at_)∧(e=2∨e=3∨e=4∨e=5∨e=6)
theorem FaultV.below {w w':World} {B:Nat} {S:Sn} {v:Value} {e at_:Int} (h:FaultV w B S v e at_) (hb:Below B w w'):FaultV w' B S v e at_:=by
 obtain ⟨b,e1,e2,e3,e4,e5⟩:=h
 exact ⟨b,e1,e2,by rw [hb.cell e2]; exact e3,by rw [hb.cell e2]; exact e4,e5⟩
theorem FaultV.more {w:World} {B B':Nat} {S:Sn} {v:Value} {e at_:Int} (h:FaultV w B S v e at_) (hB:B≤B'):FaultV w B' S v e at_:=by
 obtain ⟨b,e1,e2,e3⟩:=h
 exact ⟨b,e1,by omega,e3⟩
def ErrV (w:World) (B:Nat) (S:Sn) (v:Value):Option (Int×Nat)→Prop
 | none=>v = .nilIface
 | some x=>FaultV w B S v x.1 x.2
theorem ErrV.below {w w':World} {B:Nat} {S:Sn} {v:Value} {x:Option (Int×Nat)} (h:ErrV w B S v x) (hb:Below B w w'):ErrV w' B S v x:=by
 cases x with
 | none=>exact h
 | some x=>exact FaultV.below h hb
theorem ErrV.more {w:World} {B B':Nat} {S:Sn} {v:Value} {x:Option (Int×Nat)} (h:ErrV w B S v x) (hB:B≤B'):ErrV w B' S v x:=by
 cases x with
 | none=>exact h
 | some x=>exact FaultV.more h hB
def noOf:Option (Int×Nat)→Int
 | none=>0
 | some x=>x.1
def atOf:Option (Int×Nat)→Nat
 | none=>0
 | some x=>x.2
theorem number_nil (w:World):Calls Tryz.prog 62 #[.nilIface] w fun r w'=>r = .returned (.int .i64 0)∧w=w':=by
 go_enter Tryz.func62,Tryz.ntmps62
 go_wp2
 go_ret
 exact ⟨rfl,rfl⟩
end Go.Proofs.YtdomlccfjnkbjaaGreatDoor.Fr
namespace Go.Proofs.YtdomlccfjnkbjaaGreatDoor.Fr
open Go.ChangeShapes Go.WideShapes Go.ChangeAt Go.RowKit Go.Proofs.YtdomlccfjnkbjaaGreatDoor.Sm Go.Proofs.YtdomlccfjnkbjaaGreatDoor.Wr
set_option maxHeartbeats 400000
set_option maxRecDepth 100000
structure Beside2 (g h:Nat) (w w':World):Prop where
 os:w'.os=w.os
 tape:w'.tape=w.tape
 output:w'.output=w.output
 size:w.heap.size≤w'.heap.size
 block:∀ k,k<w.heap.size→k≠g→k≠h→w'.heap[k]? = w.heap[k]?
section
variable {g h:Nat} {a b c w w':World}
theorem Beside2.refl (g h:Nat) (w:World):Beside2 g h w w:=⟨rfl,rfl,rfl,Nat.le_refl _,fun _ _ _ _=>rfl⟩
theorem Beside2.trans (x:Beside2 g h a b) (y:Beside2 g h b c):Beside2 g h a c :=
 ⟨y.os.trans x.os,y.tape.trans x.tape,y.output.trans x.output,Nat.le_trans x.size y.size,fun i hi hg hh=>(y.block i (Nat.lt_of_lt_of_le hi x.size) hg hh).trans (x.block i hi hg hh)⟩
theorem Beside2.of_beside (x:Beside g w w'):Beside2 g h w w':=⟨x.os,x.tape,x.output,x.size,fun k hk hg _=>x.block k hk hg⟩
theorem Beside2.of_below (x:Below w.heap.size w w'):Beside2 g h w w':=⟨x.os,x.tape,x.output,x.size,fun k hk _ _=>x.block k hk⟩
theorem Beside2.below {B:Nat} (x:Beside2 g h w w') (hg:B≤g) (hh:B≤h) (hs:B≤w.heap.size):Below B w w':=⟨x.os,x.tape,x.output,x.size,fun k hk=>x.block k oM oM oM⟩
theorem Beside2.set (x:Beside2 g h a w) (j:Nat) (u:Value):Beside2 g h a (w.setCell ⟨h,j,none⟩ u) :=
 ⟨x.os,x.tape,x.output,by simpa using x.size,fun k hk hg hh=>(Below.heap_setCell w ⟨h,j,none⟩ u k hh).trans (x.block k hk hg hh)⟩
theorem Beside2.alloc (x:Beside2 g h a w) (o:Obj):Beside2 g h a (w.alloc o):=x.trans (Beside2.of_below ((Below.refl _ _).alloc (Nat.le_refl _) o))
theorem Beside2.drewN (x:Beside2 g h a w) (n:Nat):Beside2 g h a (w.drewN n):=⟨x.os,x.tape,x.output,x.size,x.block⟩
end
def ErrF (w:World) (h:Nat) (S:Sn) (ev:Value):Option (Int×Nat)→Prop
 | none=>ev = .nilIface
 | some z=>∃ fb,h<fb∧ev = .iface 139 (.pointer (some ⟨fb,0,none⟩))∧Ob w fb 141 [.iface 251 (.pointer (some (S.of z.1))),.int .i64 (z.2:Int)]∧(z.1=2∨z.1=3∨z.1=4∨z.1=5∨z.1=6)
theorem ErrF.keep {w w':World} {h:Nat} {S:Sn} {ev:Value} {o:Option (Int×Nat)} (x:ErrF w h S ev o) (hk:∀ k,h<k→k<w.heap.size→w'.heap[k]? = w.heap[k]?):ErrF w' h S ev o:=by
 cases o with
 | none=>exact x
 | some z =>
  obtain ⟨fb,h1,h2,h3,h4⟩:=x
  exact ⟨fb,h1,h2,(hk fb h1 h3.lt).trans h3,h4⟩
structure FRm (w:World) (g h:Nat) (S:Sn) (x:List UInt8) (p:Nat) (bad:Bool) (o:Option (Int×Nat)):Prop where
 lt:g<h
 sents:Sents w g S
 rd:Rd w g x p bad
 ob:∃ ev,Ob w h 181 [.pointer (some ⟨g,0,none⟩),ev]∧ErrF w h S ev o
theorem FRm.size {w:World} {g h:Nat} {S:Sn} {x:List UInt8} {p:Nat} {bad:Bool} {o:Option (Int×Nat)} (r:FRm w g h S x p bad o):h<w.heap.size:=by
 obtain ⟨ev,h1,_⟩:=r.ob
 exact h1.lt
theorem FRm.below {w w':World} {g h B:Nat} {S:Sn} {x:List UInt8} {p:Nat} {bad:Bool} {o:Option (Int×Nat)} (r:FRm w g h S x p bad o) (hb:Below B w w') (hB:w.heap.size≤B):FRm w' g h S x p bad o:=by
 have hl:=r.lt
 have hs:=r.size
 obtain ⟨ev,h1,h2⟩:=r.ob
 exact ⟨hl,r.sents.below (hb.mono oM),r.rd.below hb oM,ev,h1.below hb oM,h2.keep fun k _ hk2=>hb.block k oM⟩
def first (o:Option (Int×Nat)) (z:Int×Nat):Option (Int×Nat):=match o with
 | none=>some z
 | some y=>some y
def upd (o:Option (Int×Nat)) (bad:Bool) (n lo hi:Int) (at_:Nat):Option (Int×Nat):=match o with
 | some z=>some z
 | none=>if bad=true then some (2,at_) else if n<lo∨hi<n then some (6,at_) else none
def valOf (o:Option (Int×Nat)) (n:Int):Int:=match o with
 | none=>n
 | some _=>0
end Go.Proofs.YtdomlccfjnkbjaaGreatDoor.Fr
namespace Go.Proofs.YtdomlccfjnkbjaaGreatDoor.Fr
open Go.ChangeShapes Go.WideShapes Go.ChangeAt Go.RowKit Go.Proofs.YtdomlccfjnkbjaaGreatDoor.Sm Go.Proofs.YtdomlccfjnkbjaaGreatDoor.Wr
set_option maxHeartbeats 400000
set_option maxRecDepth 100000
def runP {α : Type} (p:Par α) (d : α) (x:List UInt8) (st:Except (Int×Nat) Nat) : α × Except (Int×Nat) Nat:=match st with
 | .error z=>(d,.error z)
 | .ok pos=>match p x pos with
  | .error z=>(d,.error z)
  | .ok r=>(r.1,.ok r.2)
theorem runP_error {α : Type} {p:Par α} {d : α} {x:List UInt8} {pos:Nat} {z:Int×Nat} (h:p x pos = .error z):runP p d x (.ok pos)=(d,.error z):=by simp [runP,h]
theorem runP_ok {α : Type} {p:Par α} {d : α} {x:List UInt8} {pos:Nat} {r : α × Nat} (h:p x pos = .ok r):runP p d x (.ok pos)=(r.1,.ok r.2):=by simp [runP,h]
def FR (w:World) (g h:Nat) (S:Sn) (x:List UInt8):Except (Int×Nat) Nat→Prop
 | .ok pos=>FRm w g h S x pos false none
 | .error z=>∃ p b,FRm w g h S x p b (some z)
theorem FR.some_ {w:World} {g h:Nat} {S:Sn} {x:List UInt8} {st:Except (Int×Nat) Nat} (r:FR w g h S x st):∃ p b o,FRm w g h S x p b o:=by
 cases st with
 | ok pos=>exact ⟨_,_,_,r⟩
 | error z=>obtain ⟨p,b,r⟩:=r; exact ⟨_,_,_,r⟩
theorem FR.below {w w':World} {g h B:Nat} {S:Sn} {x:List UInt8} {st:Except (Int×Nat) Nat} (r:FR w g h S x st) (hb:Below B w w') (hB:w.heap.size≤B):FR w' g h S x st:=by
 cases st with
 | ok pos=>exact FRm.below r hb hB
 | error z=>obtain ⟨p,b,r⟩:=r; exact ⟨p,b,r.below hb hB⟩
theorem FR.size {w:World} {g h:Nat} {S:Sn} {x:List UInt8} {st:Except (Int×Nat) Nat} (r:FR w g h S x st):g<h∧h<w.heap.size:=by
 obtain ⟨p,b,o,r⟩:=r.some_
 exact ⟨r.lt,r.size⟩
theorem got_take {x:List UInt8} {p k:Nat}:(x.take (p+k)).drop p=(x.drop p).take k:=by rw [List.drop_take,Nat.add_sub_cancel_left]
end Go.Proofs.YtdomlccfjnkbjaaGreatDoor.Fr
