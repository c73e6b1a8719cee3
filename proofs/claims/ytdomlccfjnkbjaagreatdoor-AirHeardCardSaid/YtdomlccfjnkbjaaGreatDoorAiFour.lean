/- Chapter 11: the code's Heard. -/
import Derived.Test.YtdomlccfjnkbjaaGreatDoorRdFour
import Derived.Test.YtdomlccfjnkbjaaGreatDoorRdErr
import Derived.Test.YtdomlccfjnkbjaaGreatDoorAiThree
namespace Go.Proofs.YtdomlccfjnkbjaaGreatDoor.Pl
open Go.RowKit Go.Proofs.YtdomlccfjnkbjaaGreatDoor.Sm Go.Proofs.YtdomlccfjnkbjaaGreatDoor.Dp
open Go.Proofs.YtdomlccfjnkbjaaGreatDoor.Wr
open Go.Proofs.YtdomlccfjnkbjaaGreatDoor.Fr (runP runP_ok runP_error numP stOf first)
set_option maxHeartbeats 4000000
set_option maxRecDepth 100000
set_option linter.unusedVariables false
set_option linter.unusedSimpArgs false
theorem erO_in (o:Option (Int×Nat)):8≤erO o∧erO o<13:=by
 cases o with
 | none=>exact ⟨by decide,by decide⟩
 | some z=>unfold erO erK; grind
theorem erO_is {e:Nat→Addr} (hA:Apart4 e) {o:Option (Int×Nat)} {k:Nat} (h:e (erO o)=e k) (hk:8≤k∧k<13):erO o=k:=hA.2 _ _ (erO_in o).1 (erO_in o).2 hk.1 hk.2 h
theorem no_is {z:Int×Nat} (h:2≤z.1∧z.1≤6):Fr.noOf (some z)=if erO (some z)=8 then 2 else if erO (some z)=9 then 4 else if erO (some z)=10 then 5 else if erO (some z)=11 then 3 else 6:=by
 show z.1=_
 unfold erO erK
 grind
def ErrIn {α : Type} (p:Fr.Par α):Prop:=∀ x pos z,p x pos = .error z→2≤z.1∧z.1≤6
theorem err_bind {α β : Type} {p:Fr.Par α} {q : α → Fr.Par β} (hp:ErrIn p) (hq:∀ a,ErrIn (q a)):ErrIn (Fr.bind p q):=fun x pos z h=>by
 unfold Fr.bind at h
 cases hh:p x pos with
 | error y=>rw [hh] at h; injection h with h; subst h; exact hp _ _ _ hh
 | ok r=>rw [hh] at h; exact hq _ _ _ _ h
theorem err_ret {α : Type} (a : α):ErrIn (Fr.ret a):=fun x pos z h=>by cases h
theorem err_num (k:Nat) (lo hi:Int):ErrIn (numP k lo hi):=fun x pos z h=>by
 unfold Fr.numP at h
 split at h
 ·injection h with h; subst h; simp
 ·split at h
  ·cases h
  ·injection h with h; subst h; simp
theorem err_off:ErrIn Fr.offP:=fun x pos z h=>by
 unfold Fr.offP at h
 split at h
 ·injection h with h; subst h; simp
 ·split at h
  ·cases h
  ·injection h with h; subst h; simp
theorem err_take (k:Nat):ErrIn (Fr.takeP k):=fun x pos z h=>by
 unfold Fr.takeP at h
 split at h
 ·injection h with h; subst h; simp
 ·cases h
theorem err_rep:∀ k,ErrIn (Fr.repP k)
 | 0=>err_ret _
 | k+1=>err_bind (err_num _ _ _) fun a=>err_bind (err_rep k) fun l=>err_ret _
theorem err_tail (k p n:Int):ErrIn (Fr.tailP k p n):=by
 have hg:ErrIn Fr.agesP:=err_bind (err_num _ _ _) fun n=>err_rep _
 have hb:ErrIn Fr.bodyP:=err_bind (err_num _ _ _) fun n=>err_take _
 unfold Fr.tailP
 repeat' split
 all_goals repeat' first|exact hg|exact hb|exact err_num _ _ _|exact err_off|exact err_ret _|refine err_bind ?_ fun _ => ?_
theorem err_dec (b:List UInt8) (z:Int×Nat) (h:Fr.errOf (Fr.decX b)=some z):2≤z.1∧z.1≤6:=by
 have hr:∀ x y,Fr.readX x = .error y→2≤y.1∧y.1≤6:=fun x y h=>by
  unfold Fr.readX at h
  split at h
  ·cases hf:Fr.frameP x 0 with
   | error u=>rw [hf] at h; injection h with h; subst h; exact err_bind (err_num _ _ _) (fun k=>err_bind (err_num _ _ _) fun p=>err_bind (err_num _ _ _) fun n=>err_tail k p n) _ _ _ hf
   | ok r =>
    rw [hf] at h
    dsimp only at h
    split at h
    ·injection h with h; subst h; simp
    ·cases h
  ·injection h with h; subst h; simp
 cases hd:Fr.decX b with
 | ok f=>rw [hd] at h; cases h
 | error y =>
  rw [hd] at h
  injection h with h
  subst h
  unfold Fr.decX at hd
  split at hd
  ·injection hd with hd; subst hd; simp
  ·split at hd
   ·exact hr _ _ hd
   ·injection hd with hd; subst hd; simp
theorem fr_number_pc (e:Nat→Addr) (hA:Apart4 e) (o:Option (Int×Nat)) (ho:∀ z,o=some z→2≤z.1∧z.1≤6):PC Tryz.prog (errG4 e) 62 [D.e o.isSome 139 (D.q [sentD e (erO o),I (erA o:Int)] 0)] (· = I (Fr.noOf o)):=by
 refine PC.of (N:=22) Tryz.func62 rfl rfl (Nat.le_of_ble_eq_true rfl) ?_
 refine PW.a [0] 0 (PW.seq (PW.block (PW.w 1 [0,4] 0 (PL.en (A:=[]) o.isSome 139 (D.q [sentD e (erO o),I (erA o:Int)] 0) (!o.isSome) (by first|exact .inl ⟨rfl,rfl⟩|exact .inr ⟨rfl,rfl⟩) rfl rfl kR (PL.n 1 [0,3] 0 (PW.cd (!o.isSome) ?_ ?_)))))) <;> intro hz0 <;> try simp only [boolS] at hz0
 ·refine PW.t [2] 0 (rq (I 0) ?_)
  obtain rfl:=isSome_none (by simpa using hz0)
  rfl
 ·refine PW.w 2 [0,7,8] 0 (PL.gc (A:=[]) (fun _=>fr_Is_pc e o.isSome (erO o) 8 (erA o:Int) (by assumption) (erO_in o) (by decide)) (PL.n 1 [0,6] 0 (PW.cd (decide (e (erO o)=e 8)) ?_ ?_))) <;> intro hz1 <;> try simp only [boolS] at hz1
  ·refine PW.t [2] 0 (rq (I 2) ?_)
   obtain ⟨z,hz⟩:=isSome_some (by assumption)
   subst hz
   rw [no_is (ho z rfl)]
   have hk:=erO_is hA hz1 (by decide)
   simp [hk]
  ·refine PW.w 2 [0,11,12] 0 (PL.gc (A:=[]) (fun _=>fr_Is_pc e o.isSome (erO o) 9 (erA o:Int) (by assumption) (erO_in o) (by decide)) (PL.n 1 [0,10] 0 (PW.cd (decide (e (erO o)=e 9)) ?_ ?_))) <;> intro hz2 <;> try simp only [boolS] at hz2
   ·refine PW.t [2] 0 (rq (I 4) ?_)
    obtain ⟨z,hz⟩:=isSome_some (by assumption)
    subst hz
    rw [no_is (ho z rfl)]
    have hk:=erO_is hA hz2 (by decide)
    simp [hk]
   ·refine PW.w 2 [0,15,16] 0 (PL.gc (A:=[]) (fun _=>fr_Is_pc e o.isSome (erO o) 10 (erA o:Int) (by assumption) (erO_in o) (by decide)) (PL.n 1 [0,14] 0 (PW.cd (decide (e (erO o)=e 10)) ?_ ?_))) <;> intro hz3 <;> try simp only [boolS] at hz3
    ·refine PW.t [2] 0 (rq (I 5) ?_)
     obtain ⟨z,hz⟩:=isSome_some (by assumption)
     subst hz
     rw [no_is (ho z rfl)]
     have hk:=erO_is hA hz3 (by decide)
     simp [hk]
    ·refine PW.w 2 [19,20] 0 (PL.gc (A:=[]) (fun _=>fr_Is_pc e o.isSome (erO o) 11 (erA o:Int) (by assumption) (erO_in o) (by decide)) (PL.n 1 [18] 0 (PW.cd (decide (e (erO o)=e 11)) ?_ ?_))) <;> intro hz4 <;> try simp only [boolS] at hz4
     ·refine PW.t [2] 0 (rq (I 3) ?_)
      obtain ⟨z,hz⟩:=isSome_some (by assumption)
      subst hz
      rw [no_is (ho z rfl)]
      have hk:=erO_is hA hz4 (by decide)
      simp [hk]
     ·refine PW.k (PW.t [2] 0 (rq (I 6) ?_))
      obtain ⟨z,hz⟩:=isSome_some (by assumption)
      subst hz
      rw [no_is (ho z rfl)]
      have h8:erO (some z)≠8:=fun h=>hz1 (by rw [h])
      have h9:erO (some z)≠9:=fun h=>hz2 (by rw [h])
      have h10:erO (some z)≠10:=fun h=>hz3 (by rw [h])
      have h11:erO (some z)≠11:=fun h=>hz4 (by rw [h])
      simp [h8,h9,h10,h11]
theorem frame_Decode_pc (e:Nat→Addr) (hA:Apart4 e) (b:List UInt8) (hb:b.length≤1000000):PC Tryz.prog (errG4 e) 32 [bytesD b] (· = D.t [D.r (Fr.frD (Fr.frOf (Fr.decX b))),I (Fr.noOf (Fr.errOf (Fr.decX b)))]):=by
 refine PC.of (N:=14) Tryz.func32 rfl rfl (Nat.le_of_ble_eq_true rfl) ?_
 refine PW.a [0,2] 1 (PW.w 1 [2,7] 1 (PL.gc (A:=[]) (fun _=>open_pc e b hb) (PL.n 6 [2,4,5] 2 (PW.seq (PW.open [0] kR ?_)))))
 refine PO.a [0,1] 5 [2,11,12] 3 (PO.one (n:=2) 2 kR ?_)
 refine PO1.gc _ (A:=[]) (fun _=>fr_number_pc e hA (Fr.errOf (Fr.decX b)) (err_dec b)) ?_ rfl
 refine PO.one (n:=1) 3 kR ?_
 refine PO1.a [2,13] 2 ?_
 refine PO.a [4] 1 [2,3] 0 (PO.done kR ?_)
 show PW _ _ _ _ _
 refine PW.ret (rq (D.t [D.r [I ((Fr.frOf (Fr.decX b)).kind),I ((Fr.frOf (Fr.decX b)).part),I ((Fr.frOf (Fr.decX b)).node),I ((Fr.frOf (Fr.decX b)).wait),I ((Fr.frOf (Fr.decX b)).mask),I ((Fr.frOf (Fr.decX b)).link),D.v (.bool ((Fr.frOf (Fr.decX b)).flag)),I ((Fr.frOf (Fr.decX b)).cycle),I ((Fr.frOf (Fr.decX b)).offset),sl' 1 (fun x=>[I x]) ((Fr.frOf (Fr.decX b)).ages),I ((Fr.frOf (Fr.decX b)).frm),I ((Fr.frOf (Fr.decX b)).to),I ((Fr.frOf (Fr.decX b)).seq),bytesD ((Fr.frOf (Fr.decX b)).body)],I (Fr.noOf (Fr.errOf (Fr.decX b)))]) ?_)
 rfl
end Go.Proofs.YtdomlccfjnkbjaaGreatDoor.Pl
namespace Go.Proofs.YtdomlccfjnkbjaaGreatDoor.Pl
open Go.RowKit Go.Proofs.YtdomlccfjnkbjaaGreatDoor.Sm Go.Proofs.YtdomlccfjnkbjaaGreatDoor.Dp
open Go.Proofs.YtdomlccfjnkbjaaGreatDoor.Fr (bare frD frC decX errOf frOf noOf atOf WfA wfA_dec bytesOf mayB)
set_option maxHeartbeats 4000000
set_option maxRecDepth 100000
set_option linter.unusedVariables false
set_option linter.unusedSimpArgs false
theorem say_len {says:List Say} (hB:∀ s ∈ says,s.bytes.length≤1000000) (k:Nat):(says.getD k default).bytes.length≤1000000:=by
 rw [List.getD_eq_getElem?_getD]
 rcases Nat.lt_or_ge k says.length with h|h
 ·rw [List.getElem?_eq_getElem h]
  exact hB _ (List.getElem_mem h)
 ·rw [List.getElem?_eq_none h]
  exact Nat.zero_le _
theorem dec_ages (b:List UInt8):(frOf (decX b)).ages.length≤maxLen:=by
 have h6:(frOf (decX b)).ages.length≤6:=by
  unfold decX
  split
  ·exact Nat.zero_le _
  ·split
   ·cases h:Fr.readX (b.take (b.length-4)) with
    | error z=>exact Nat.zero_le _
    | ok f =>
     show f.ages.length≤6
     obtain ⟨_,hs,ha,_⟩:=Fr.may_iff.1 (Fr.read_back h).1
     by_cases h24:f.kind=2∨f.kind=4
     ·have:=ha h24
      exact (Fr.agesOk_iff.1 this).1.2
     ·have e:=congrArg Fr.Frame.ages hs
      have:(Fr.spare f).ages=[]:=by
       unfold Fr.spare
       repeat' split
       all_goals first|rfl|(exfalso; omega)
      rw [e,this]
      exact Nat.zero_le _
   ·exact Nat.zero_le _
 unfold maxLen
 omega
section
variable {c:Config} {part:Int} {x:Guard} {ppm:Int} {says:List Say} {lost:List Int}
theorem deaf_of {i:Nat} (h:(sayI says i<0∨lost.contains (i:Int)=true)∨passB x ((slotsOf c part).getD i default).at_ ppm c.window (says.getD (sayI says i).toNat default).at_=false):deafB c part x ppm says lost i=true:=by
 unfold deafB
 rw [Bool.or_eq_true,Bool.or_eq_true,Bool.not_eq_true',decide_eq_true_eq]
 exact h
theorem hears_of {i:Nat} (h:(¬ sayI says i<0∧lost.contains (i:Int)=false)∧passB x ((slotsOf c part).getD i default).at_ ppm c.window (says.getD (sayI says i).toNat default).at_=true):deafB c part x ppm says lost i=false:=by
 unfold deafB
 rw [decide_eq_false h.1.1,h.1.2,h.2]
 rfl
theorem bad_of {i:Nat} (h:(¬ noOf (errOf (decX (says.getD (sayI says i).toNat default).bytes))=0)∨fitS c part i (frOf (decX (says.getD (sayI says i).toNat default).bytes))=false):badB c part says i=true:=by
 unfold badB
 rw [Bool.or_eq_true,bne_iff_ne,Bool.not_eq_true']
 exact h
theorem good_of' {i:Nat} (h:noOf (errOf (decX (says.getD (sayI says i).toNat default).bytes))=0∧fitS c part i (frOf (decX (says.getD (sayI says i).toNat default).bytes))=true):badB c part says i=false:=by
 unfold badB
 rw [h.1,h.2]
 rfl
end
theorem say_bounds (says:List Say) (i:Int) : -1≤sayI says i∧sayI says i<(says.length:Int):=by
 rcases say_in says i with h|⟨k,hk,h⟩ <;> rw [h] <;> omega
section
variable {says:List Say} {i a:Int} {k:Nat}
theorem say_hit (h:k≤says.length∧((a = -1∧sayI says i=seekI (fun k=>inSlot i (says.getD k default)) (says.length-k) k)∨((0≤a∧a<(says.length:Int))∧sayI says i=a))) (hk:k<says.length) (ha:a<0) (hz:(says.getD k default).slot=i):k+1≤says.length∧(((k:Int) = -1∧sayI says i=seekI (fun k=>inSlot i (says.getD k default)) (says.length-(k+1)) (k+1))∨((0≤(k:Int)∧(k:Int)<(says.length:Int))∧sayI says i=(k:Int))):=by
 refine ⟨hk,.inr ⟨by omega,?_⟩⟩
 rcases h.2 with ⟨_,h1⟩|h1
 ·rw [h1,show says.length-k=(says.length-k-1)+1 by omega,seekI,if_pos (by unfold inSlot; rw [hz]; simp)]
 ·omega
theorem say_miss (h:k≤says.length∧((a = -1∧sayI says i=seekI (fun k=>inSlot i (says.getD k default)) (says.length-k) k)∨((0≤a∧a<(says.length:Int))∧sayI says i=a))) (hk:k<says.length) (ha:a<0) (hz:¬ (says.getD k default).slot=i):k+1≤says.length∧((a = -1∧sayI says i=seekI (fun k=>inSlot i (says.getD k default)) (says.length-(k+1)) (k+1))∨((0≤a∧a<(says.length:Int))∧sayI says i=a)):=by
 refine ⟨hk,.inl ?_⟩
 rcases h.2 with ⟨h0,h1⟩|h1
 ·refine ⟨h0,?_⟩
  rw [h1,show says.length-k=(says.length-(k+1))+1 by omega,seekI,if_neg (by unfold inSlot; rw [beq_iff_eq]; exact hz)]
 ·omega
theorem say_end (h:k≤says.length∧((a = -1∧sayI says i=seekI (fun k=>inSlot i (says.getD k default)) (says.length-k) k)∨((0≤a∧a<(says.length:Int))∧sayI says i=a))) (hz:¬ (k:Int)<(says.length:Int)∨¬ a<0):a=sayI says i:=by
 rcases h.2 with ⟨h1,h2⟩|h1
 ·have hk:says.length-k=0:=by omega
  rw [h2,hk,h1]
  rfl
 ·exact h1.2.symm
end
theorem air_Heard1_pc (s:Say) (i:Int):PC Tryz.prog [] 29 [D.r (Say.d s),D.q [I i] 0] (· = D.v (.bool (inSlot i s))):=by
 refine PC.of (N:=8) Tryz.func29 rfl rfl (Nat.le_of_ble_eq_true rfl) ?_
 refine PW.a [1,2] 1 (PW.t [3] 1 (rq (D.v (.bool (s.slot == i))) ?_))
 rfl
theorem index_says_pc (ls:List Say) (v:Int) (hl:ls.length<1000000):PC Tryz.prog [] 28 [sl' 3 Say.d ls,D.c 29 [D.q [I v] 0]] (· = I (seekI (fun k=>inSlot v (ls.getD k default)) ls.length 0)):=by
 refine PC.of (N:=19) Tryz.func28 rfl rfl (Nat.le_of_ble_eq_true rfl) ?_
 refine PW.a [0,1] 0 (PW.q [0,1,7,8] 0 (PW.block (PW.lp (α := Nat) (fun i=>{ tab:=[⟨0,[],sl' 3 Say.d ls⟩,⟨1,[],D.c 29 [D.q [I v] 0]⟩,⟨7,[],I (ls.length:Int)⟩,⟨8,[],I (i:Int)⟩],mem:=[] }) (fun i=>i≤ls.length∧seekI (fun k=>inSlot v (ls.getD k default)) ls.length 0=seekI (fun k=>inSlot v (ls.getD k default)) (ls.length-i) i) (fun i=>ls.length-i) [0,1,7,8] 0 (0) ?_ ?_)))
 ·exact ⟨Nat.zero_le _,rfl⟩
 rintro i hinv
 show PW _ _ _ _ _
 refine PW.a [0,1,7,8,9] 0 (PW.seq (PW.cd (decide ((i:Int)<(ls.length:Int))) ?_ ?_)) <;> intro hz0 <;> try simp only [boolS] at hz0
 ·refine PW.k (PW.seq (PW.block (PW.a [0,1,5,7,8] 0 (PW.sg (PL.rw 5 [0,1,5,7,8,11,15] 0 (p:=(0≤(i:Int)∧(i:Int)<(ls.length:Int))) oM (PL.gc (A:=[]) (fun _=>air_Heard1_pc (ls.getD i default) v) (PL.nl ?_)))))))
  refine PW.cd (inSlot v (ls.getD i default)) ?_ ?_ <;> intro hz1 <;> try simp only [boolS] at hz1
  ·refine PW.t [4] 0 (rq (I (i:Int)) ?_)
   show I _=I _
   rw [hinv.2,show ls.length-i=(ls.length-i-1)+1 by omega,seekI,if_pos hz1]
  ·refine PW.k (PW.b [0,1,7,8] 0 ?_)
   refine BackR.of (s1:={ tab:=[⟨0,[],sl' 3 Say.d ls⟩,⟨1,[],D.c 29 [D.q [I v] 0]⟩,⟨7,[],I (ls.length:Int)⟩,⟨8,[],I (IntKind.i64.wrap ((i:Int)+1))⟩],mem:=[] }) (i+1) kR kR ?_ ?_ ?_
   ·rw [wrap1 i oM]
    exact Rem.refl _
   ·refine ⟨by omega,?_⟩
    rw [hinv.2,show ls.length-i=(ls.length-(i+1))+1 by omega,seekI,if_neg (by rw [hz1]; decide)]
   ·exact nD
 ·refine PW.e (PW.t [4] 0 (rq (I (-1)) ?_))
  show I _=I _
  rw [hinv.2,show ls.length-i=0 by omega,seekI]
theorem air_Heard_pc0 (e:Nat→Addr) (hA:Apart4 e) (c:Config) (part:Int) (x:Guard) (ppm:Int) (says:List Say) (lost:List Int) (hls:says.length<1000000) (hB:∀ s ∈ says,s.bytes.length≤1000000) (hlo:lost.length≤maxLen) (hw:Is64 c.window) (hp0:c.parts.length<1000000) (hl0:c.links.length<1000000):PC Tryz.prog (errG4 e) 13 [D.r (Config.d c),I part,D.r (Guard.d x),I ppm,sl' 3 Say.d says,sl' 1 (fun x=>[I x]) lost] (fun d=>d=D.t [sl' 16 Heard.d (heardOf c part x ppm says lost),I (badOf c part x ppm says lost:Nat)]∨(d=D.t [D.v (.slice none 0 0),I (badOf c part x ppm says lost:Nat)]∧heardOf c part x ppm says lost=[])):=by
 refine PC.of (N:=92) Tryz.func13 rfl rfl (Nat.le_of_ble_eq_true rfl) ?_
 refine PW.a [1,3,4,5,6,8] 2 (PW.w 2 [3,4,5,6,8,22,23] 2 (PL.gc (A:=[]) (fun _=>air_busOf_pc e hA c part hp0 hl0) (PL.n 2 [3,4,5,6,8,14] 3 (PW.a [3,4,5,6,8,14,15] 3 (PW.a [3,4,5,6,8,14,15,16] 3 (PW.q [3,4,5,6,8,14,15,16,26,27,28] 3 (PW.block ?_)))))))
 refine PW.born 15 48 16 kR (PW.loopR (α := Nat×List Heard×Nat) (fun (i,xs,m)=>{ tab:=[⟨3,[],I ppm⟩,⟨4,[],sl' 3 Say.d says⟩,⟨5,[],sl' 1 (fun x=>[I x]) lost⟩,⟨6,[],D.p 0 0 0 0⟩,⟨8,[],D.p 1 0 0 0⟩,⟨14,[],D.p 2 0 0 0⟩,⟨15,[],D.h 3 xs.length⟩,⟨16,[],I (m:Int)⟩,⟨26,[],sl' 3 Slot.d (slotsOf c part)⟩,⟨27,[],I ((slotsOf c part).length:Int)⟩,⟨28,[],I (i:Int)⟩],mem:=[Obj.var 30 (Config.d c),Obj.var 35 [D.v (.bool x.on),I x.start,sl' 1 (fun x=>[I x]) x.ages],Obj.var 69 [I part,I (c.parts.length:Int),I (goneR c),sl' 3 Slot.d (slotsOf c part),sl' 4 Port.d (portsOf c part)],Obj.row 48 16 xs.length (fun j=>Heard.d (xs.getD j default))],gl:=(errG4 e) }) (fun (i,xs,m)=>i≤(slotsOf c part).length∧xs=heardN c part x ppm says lost i∧m=badN c part x ppm says lost i) (fun (i,xs,m)=>(slotsOf c part).length-i) [3,4,5,6,8,14,15,16,26,27,28] 4 (0,[],0) (s1:={ tab:=[⟨3,[],I ppm⟩,⟨4,[],sl' 3 Say.d says⟩,⟨5,[],sl' 1 (fun x=>[I x]) lost⟩,⟨6,[],D.p 0 0 0 0⟩,⟨8,[],D.p 1 0 0 0⟩,⟨14,[],D.p 2 0 0 0⟩,⟨15,[],D.h 3 0⟩,⟨16,[],I 0⟩,⟨26,[],sl' 3 Slot.d (slotsOf c part)⟩,⟨27,[],I ((slotsOf c part).length:Int)⟩,⟨28,[],I 0⟩],mem:=[Obj.var 30 (Config.d c),Obj.var 35 [D.v (.bool x.on),I x.start,sl' 1 (fun x=>[I x]) x.ages],Obj.var 69 [I part,I (c.parts.length:Int),I (goneR c),sl' 3 Slot.d (slotsOf c part),sl' 4 Port.d (portsOf c part)],Obj.row 48 16 0 (fun _=>[])],gl:=(errG4 e) }) kR kR ?_ ?_ ?_)
 ·dsimp only
  exact ⟨rfl,rfl,rfl,(.same (.same (.same (.row rfl (fun j hj=>absurd hj (Nat.not_lt_zero _)) .nil))))⟩
 ·dsimp only
  exact ⟨Nat.zero_le _,rfl,rfl⟩
 rintro ⟨i,xs,m⟩ hinv
 dsimp only at hinv
 have hn48:=slotsOf_len c part
 have hxl:xs.length≤48:=by rw [hinv.2.1]; have:=heardN_len (c:=c) (part:=part) (x:=x) (ppm:=ppm) (says:=says) (lost:=lost) i; omega
 have hml:m≤48:=by rw [hinv.2.2]; have:=badN_le (c:=c) (part:=part) (x:=x) (ppm:=ppm) (says:=says) (lost:=lost) i; omega
 have hsb:=say_bounds says (i:Int)
 show PW _ _ _ _ _
 refine PW.a [3,4,5,6,8,14,15,16,26,27,28,29] 4 (PW.seq (PW.cd (decide ((i:Int)<((slotsOf c part).length:Int))) ?_ ?_)) <;> intro hz0 <;> try simp only [boolS] at hz0
 ·refine PW.k (PW.seq (PW.block (PW.sr [3,4,5,6,8,14,15,16,17,18,26,27,28] 6 (p:=(0≤(i:Int)∧(i:Int)<((slotsOf c part).length:Int))) oM (PW.w 1 [3,4,5,6,8,14,15,16,17,18,26,27,28,33] 6 (PL.sl [3,4,5,6,8,14,15,16,17,18,26,27,28,33] 6 (PL.fz 4 (t:=3) [I (i:Int)] (PL.mk (f:=29) (cap := #[.tmp 17]) [D.q [I (i:Int)] 0] ?_)))))))
  refine PL.gc (G:=(errG4 e)) (A:=[]) (fun _=>PC.more (index_says_pc says (i:Int) hls)) (PL.n 1 [3,4,5,6,8,14,15,16,17,18,19,26,27,28] 6 (PW.seq (PW.seq (PW.open [] kR ?_))))
  refine PO.a [0,1,2,3,4] 22 [3,4,5,6,8,14,15,16,17,18,19,26,27,28,38,39,40] 17 (PO.one (n:=16) 5 kR ?_)
  refine PO1.gc _ (G:=(errG4 e)) (A:=[(38,false)]) (fun _=>PC.more (contains_int_pc lost (i:Int) hlo)) ?_ rfl
  refine PO.tk [6,7,8,9,10,11,12,13,14,15,16,17,18] 16 [3,4,5,6,8,14,15,16,17,19,26,27,28,43,44,46,47,49,54] 3 (p:=((((decide ((sayI says (i:Int))<(0:Int)))||(lost.contains (i:Int)))=false∧True→0≤(sayI says (i:Int))∧(sayI says (i:Int))<(says.length:Int)))) nD (fun _ _ h=>h) (PO.one (n:=2) 19 kR ?_)
  refine PO1.gc _ (G:=(errG4 e)) (A:=[(43,false)]) (fun _=>PC.more (guard_Pass_pc x (((slotsOf c part).getD i default).at_) ppm c.window ((says.getD ((sayI says (i:Int)).toNat) default).at_) hw)) ?_ rfl
  refine PO.a [20,21] 2 [3,4,5,6,8,14,15,16,17,19,26,27,28,57] 0 (PO.done kR ?_)
  show PW _ _ _ _ _
  refine PW.cd (((decide ((sayI says (i:Int))<(0:Int)))||(lost.contains (i:Int)))||(!(passB x (((slotsOf c part).getD i default).at_) ppm c.window ((says.getD ((sayI says (i:Int)).toNat) default).at_)))) ?_ ?_ <;> intro hz1 <;> try simp only [boolS] at hz1
  ·refine PW.e (PW.b [3,4,5,6,8,14,15,16,26,27,28] 6 ?_)
   refine BackR.of (s1:={ tab:=[⟨3,[],I ppm⟩,⟨4,[],sl' 3 Say.d says⟩,⟨5,[],sl' 1 (fun x=>[I x]) lost⟩,⟨6,[],D.p 0 0 0 0⟩,⟨8,[],D.p 1 0 0 0⟩,⟨14,[],D.p 2 0 0 0⟩,⟨15,[],D.h 3 xs.length⟩,⟨16,[],I (m:Int)⟩,⟨26,[],sl' 3 Slot.d (slotsOf c part)⟩,⟨27,[],I ((slotsOf c part).length:Int)⟩,⟨28,[],I (IntKind.i64.wrap ((i:Int)+1))⟩],mem:=[Obj.var 30 (Config.d c),Obj.var 35 [D.v (.bool x.on),I x.start,sl' 1 (fun x=>[I x]) x.ages],Obj.var 69 [I part,I (c.parts.length:Int),I (goneR c),sl' 3 Slot.d (slotsOf c part),sl' 4 Port.d (portsOf c part)],Obj.row 48 16 xs.length (fun j=>Heard.d (xs.getD j default))],gl:=(errG4 e) }) (i+1,xs,m) kR kR ?_ ?_ ?_
   ·dsimp only
    first|(rw [wrap1 i oM,wrap1 m oM])|(rw [wrap1 i oM]; try simp only [List.length_append,List.length_singleton])
    exact Rem.refl _
   ·dsimp only
    first
    | (have hd:=heard_deaf (c:=c) (part:=part) (x:=x) (ppm:=ppm) (says:=says) (lost:=lost) (deaf_of hz1); exact ⟨by omega,by rw [hd.1,← hinv.2.1],by rw [hd.2,← hinv.2.2]⟩)
    | (have hd:=heard_bad (c:=c) (part:=part) (x:=x) (ppm:=ppm) (says:=says) (lost:=lost) (hears_of hz1) (bad_of hz2); exact ⟨by omega,by rw [hd.1,← hinv.2.1],by rw [hd.2,← hinv.2.2]⟩)
    | (have hd:=heard_yes (c:=c) (part:=part) (x:=x) (ppm:=ppm) (says:=says) (lost:=lost) (hears_of hz1) (good_of' hz2); exact ⟨by omega,by rw [hd.1,← hinv.2.1]; rfl,by rw [hd.2,← hinv.2.2]⟩)
   ·dsimp only
    exact nD
  ·refine PW.k (PW.sg (PL.rw 5 [3,4,5,6,8,14,15,16,17,19,26,27,28,63] 6 (p:=(0≤(sayI says (i:Int))∧(sayI says (i:Int))<(says.length:Int))) oM (PL.gc (ds0:=[bytesD ((says.getD ((sayI says (i:Int)).toNat) default).bytes)]) (A:=[]) (fun _=>frame_Decode_pc e hA ((says.getD ((sayI says (i:Int)).toNat) default).bytes) (say_len hB _)) (PL.n 6 [3,4,5,6,8,14,15,16,17,19,20,21,26,27,28] 7 (PW.seq (PW.w 6 [3,4,5,6,8,14,15,16,17,19,20,26,27,28,69,70,71,72] 7 (PL.gc (G:=(errG4 e)) (ds0:=[D.r [I part,I (c.parts.length:Int),I (goneR c),sl' 3 Slot.d (slotsOf c part),sl' 4 Port.d (portsOf c part)],I (i:Int),D.r [I ((frOf (decX ((says.getD ((sayI says (i:Int)).toNat) default).bytes))).kind),I ((frOf (decX ((says.getD ((sayI says (i:Int)).toNat) default).bytes))).part),I ((frOf (decX ((says.getD ((sayI says (i:Int)).toNat) default).bytes))).node),I ((frOf (decX ((says.getD ((sayI says (i:Int)).toNat) default).bytes))).wait),I ((frOf (decX ((says.getD ((sayI says (i:Int)).toNat) default).bytes))).mask),I ((frOf (decX ((says.getD ((sayI says (i:Int)).toNat) default).bytes))).link),D.v (.bool ((frOf (decX ((says.getD ((sayI says (i:Int)).toNat) default).bytes))).flag)),I ((frOf (decX ((says.getD ((sayI says (i:Int)).toNat) default).bytes))).cycle),I ((frOf (decX ((says.getD ((sayI says (i:Int)).toNat) default).bytes))).offset),sl' 1 (fun x=>[I x]) ((frOf (decX ((says.getD ((sayI says (i:Int)).toNat) default).bytes))).ages),I ((frOf (decX ((says.getD ((sayI says (i:Int)).toNat) default).bytes))).frm),I ((frOf (decX ((says.getD ((sayI says (i:Int)).toNat) default).bytes))).to),I ((frOf (decX ((says.getD ((sayI says (i:Int)).toNat) default).bytes))).seq),bytesD ((frOf (decX ((says.getD ((sayI says (i:Int)).toNat) default).bytes))).body)]]) (A:=[(69,false)]) (fun _=>PC.more (bus_fits_pc c part (i:Int) (frOf (decX ((says.getD ((sayI says (i:Int)).toNat) default).bytes))) (dec_ages _))) ?_)))))))
   refine PL.n 2 [3,4,5,6,8,14,15,16,17,19,20,26,27,28,75] 7 (PW.cd (((noOf (errOf (decX ((says.getD ((sayI says (i:Int)).toNat) default).bytes)))) != (0:Int))||(!(fitS c part (i:Int) (frOf (decX ((says.getD ((sayI says (i:Int)).toNat) default).bytes)))))) ?_ ?_) <;> intro hz2 <;> try simp only [boolS] at hz2
   ·refine PW.a [3,4,5,6,8,14,15,16,26,27,28] 7 ?_
    refine PW.e (PW.b [3,4,5,6,8,14,15,16,26,27,28] 7 ?_)
    refine BackR.of (s1:={ tab:=[⟨3,[],I ppm⟩,⟨4,[],sl' 3 Say.d says⟩,⟨5,[],sl' 1 (fun x=>[I x]) lost⟩,⟨6,[],D.p 0 0 0 0⟩,⟨8,[],D.p 1 0 0 0⟩,⟨14,[],D.p 2 0 0 0⟩,⟨15,[],D.h 3 xs.length⟩,⟨16,[],I (IntKind.i64.wrap ((m:Int)+1))⟩,⟨26,[],sl' 3 Slot.d (slotsOf c part)⟩,⟨27,[],I ((slotsOf c part).length:Int)⟩,⟨28,[],I (IntKind.i64.wrap ((i:Int)+1))⟩],mem:=[Obj.var 30 (Config.d c),Obj.var 35 [D.v (.bool x.on),I x.start,sl' 1 (fun x=>[I x]) x.ages],Obj.var 69 [I part,I (c.parts.length:Int),I (goneR c),sl' 3 Slot.d (slotsOf c part),sl' 4 Port.d (portsOf c part)],Obj.row 48 16 xs.length (fun j=>Heard.d (xs.getD j default))],gl:=(errG4 e) }) (i+1,xs,m+1) kR kR ?_ ?_ ?_
    ·dsimp only
     first|(rw [wrap1 i oM,wrap1 m oM])|(rw [wrap1 i oM]; try simp only [List.length_append,List.length_singleton])
     exact Rem.refl _
    ·dsimp only
     first
     | (have hd:=heard_deaf (c:=c) (part:=part) (x:=x) (ppm:=ppm) (says:=says) (lost:=lost) (deaf_of hz1); exact ⟨by omega,by rw [hd.1,← hinv.2.1],by rw [hd.2,← hinv.2.2]⟩)
     | (have hd:=heard_bad (c:=c) (part:=part) (x:=x) (ppm:=ppm) (says:=says) (lost:=lost) (hears_of hz1) (bad_of hz2); exact ⟨by omega,by rw [hd.1,← hinv.2.1],by rw [hd.2,← hinv.2.2]⟩)
     | (have hd:=heard_yes (c:=c) (part:=part) (x:=x) (ppm:=ppm) (says:=says) (lost:=lost) (hears_of hz1) (good_of' hz2); exact ⟨by omega,by rw [hd.1,← hinv.2.1]; rfl,by rw [hd.2,← hinv.2.2]⟩)
    ·dsimp only
     exact nD
   ·refine PW.k (PW.open [3] kR (PO.tk [0,1,2,3,4,5,6,7] 12 [3,4,5,6,8,14,15,16,26,27,28,78,79,80,85] 4 (p:=(0≤(sayI says (i:Int))∧(sayI says (i:Int))<(says.length:Int))) oM (fun _ _ h=>h) (PO.one (n:=3) 8 kR (PO1.build (cs:=[I (i:Int),I ((frOf (decX ((says.getD ((sayI says (i:Int)).toNat) default).bytes))).kind),I ((frOf (decX ((says.getD ((sayI says (i:Int)).toNat) default).bytes))).part),I ((frOf (decX ((says.getD ((sayI says (i:Int)).toNat) default).bytes))).node),I ((frOf (decX ((says.getD ((sayI says (i:Int)).toNat) default).bytes))).wait),I ((frOf (decX ((says.getD ((sayI says (i:Int)).toNat) default).bytes))).mask),I ((frOf (decX ((says.getD ((sayI says (i:Int)).toNat) default).bytes))).link),D.v (.bool ((frOf (decX ((says.getD ((sayI says (i:Int)).toNat) default).bytes))).flag)),I ((frOf (decX ((says.getD ((sayI says (i:Int)).toNat) default).bytes))).cycle),I ((frOf (decX ((says.getD ((sayI says (i:Int)).toNat) default).bytes))).offset),sl' 1 (fun x=>[I x]) ((frOf (decX ((says.getD ((sayI says (i:Int)).toNat) default).bytes))).ages),I ((frOf (decX ((says.getD ((sayI says (i:Int)).toNat) default).bytes))).frm),I ((frOf (decX ((says.getD ((sayI says (i:Int)).toNat) default).bytes))).to),I ((frOf (decX ((says.getD ((sayI says (i:Int)).toNat) default).bytes))).seq),bytesD ((frOf (decX ((says.getD ((sayI says (i:Int)).toNat) default).bytes))).body),I ((says.getD ((sayI says (i:Int)).toNat) default).at_)]) rfl rfl kR kR kR (PO.one (n:=2) 9 kR ?_)))))
    refine PO1.a [3,4,5,6,8,14,15,16,26,27,28,78,87] 8 (PO.one (n:=1) 10 kR (PO1.mm rfl [3,4,5,6,8,14,15,16,26,27,28,88] 8 (p:=((xs.length=xs.length∧1≤1)∧(xs.length+1)*160≤140737488355328∧xs.length+1≤9223372036854775807)) oM (PO.ap 3 Heard.d xs ((⟨(i:Int),(frOf (decX ((says.getD ((sayI says (i:Int)).toNat) default).bytes))),(says.getD ((sayI says (i:Int)).toNat) default).at_⟩:Heard)) ?_)))
    refine PO.a [11] 1 [3,4,5,6,8,14,15,16,26,27,28] 0 (PO.done kR ?_)
    show PW _ _ _ _ _
    refine PW.b [3,4,5,6,8,14,15,16,26,27,28] 8 ?_
    refine BackR.of (s1:={ tab:=[⟨3,[],I ppm⟩,⟨4,[],sl' 3 Say.d says⟩,⟨5,[],sl' 1 (fun x=>[I x]) lost⟩,⟨6,[],D.p 0 0 0 0⟩,⟨8,[],D.p 1 0 0 0⟩,⟨14,[],D.p 2 0 0 0⟩,⟨15,[],D.h 3 (xs.length+1)⟩,⟨16,[],I (m:Int)⟩,⟨26,[],sl' 3 Slot.d (slotsOf c part)⟩,⟨27,[],I ((slotsOf c part).length:Int)⟩,⟨28,[],I (IntKind.i64.wrap ((i:Int)+1))⟩],mem:=[Obj.var 30 (Config.d c),Obj.var 35 [D.v (.bool x.on),I x.start,sl' 1 (fun x=>[I x]) x.ages],Obj.var 69 [I part,I (c.parts.length:Int),I (goneR c),sl' 3 Slot.d (slotsOf c part),sl' 4 Port.d (portsOf c part)],Obj.row 48 16 (xs.length+1) (fun j=>Heard.d ((xs++[(⟨(i:Int),(frOf (decX ((says.getD ((sayI says (i:Int)).toNat) default).bytes))),(says.getD ((sayI says (i:Int)).toNat) default).at_⟩:Heard)]).getD j default))],gl:=(errG4 e) }) (i+1,xs++[(⟨(i:Int),(frOf (decX ((says.getD ((sayI says (i:Int)).toNat) default).bytes))),(says.getD ((sayI says (i:Int)).toNat) default).at_⟩:Heard)],m) kR kR ?_ ?_ ?_
    ·dsimp only
     first|(rw [wrap1 i oM,wrap1 m oM])|(rw [wrap1 i oM]; try simp only [List.length_append,List.length_singleton])
     exact Rem.refl _
    ·dsimp only
     first
     | (have hd:=heard_deaf (c:=c) (part:=part) (x:=x) (ppm:=ppm) (says:=says) (lost:=lost) (deaf_of hz1); exact ⟨by omega,by rw [hd.1,← hinv.2.1],by rw [hd.2,← hinv.2.2]⟩)
     | (have hd:=heard_bad (c:=c) (part:=part) (x:=x) (ppm:=ppm) (says:=says) (lost:=lost) (hears_of hz1) (bad_of hz2); exact ⟨by omega,by rw [hd.1,← hinv.2.1],by rw [hd.2,← hinv.2.2]⟩)
     | (have hd:=heard_yes (c:=c) (part:=part) (x:=x) (ppm:=ppm) (says:=says) (lost:=lost) (hears_of hz1) (good_of' hz2); exact ⟨by omega,by rw [hd.1,← hinv.2.1]; rfl,by rw [hd.2,← hinv.2.2]⟩)
    ·dsimp only
     exact nD
 ·refine PW.e (PW.t [12,13] 4 (retQ_ret (d:=D.t [D.s xs.length 16 (fun j=>Heard.d (xs.getD j default)),I (m:Int)]) (ps:=[xs.length≤xs.length]) kR (show (xs.length≤xs.length) from by exact nD) ?_))
  left
  have e9:heardOf c part x ppm says lost=xs:=by unfold heardOf; rw [hinv.2.1,show i=(slotsOf c part).length by omega]
  have e8:badOf c part x ppm says lost=m:=by unfold badOf; rw [hinv.2.2,show i=(slotsOf c part).length by omega]
  rw [e9,e8]
  rfl
end Go.Proofs.YtdomlccfjnkbjaaGreatDoor.Pl
