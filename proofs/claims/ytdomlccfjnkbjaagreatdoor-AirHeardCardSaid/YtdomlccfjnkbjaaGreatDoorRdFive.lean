/- Package frame's number, Decode. -/
import Derived.Test.YtdomlccfjnkbjaaGreatDoorRdFour
import Derived.Test.YtdomlccfjnkbjaaGreatDoorRdErr
namespace Go.Proofs.YtdomlccfjnkbjaaGreatDoor.Pl
open Go.RowKit Go.Proofs.YtdomlccfjnkbjaaGreatDoor.Sm Go.Proofs.YtdomlccfjnkbjaaGreatDoor.Dp
open Go.Proofs.YtdomlccfjnkbjaaGreatDoor.Wr
open Go.Proofs.YtdomlccfjnkbjaaGreatDoor.Fr (runP runP_ok runP_error numP stOf first)
set_option maxHeartbeats 4000000
set_option maxRecDepth 100000
set_option linter.unusedVariables false
set_option linter.unusedSimpArgs false
theorem erO_in (o:Option (Int×Nat)):8≤erO o∧erO o<13:=by
 cases o with
 | none=>exact ⟨by decide,by decide⟩
 | some z=>unfold erO erK; grind
theorem erO_is {e:Nat→Addr} (hA:Apart4 e) {o:Option (Int×Nat)} {k:Nat} (h:e (erO o)=e k) (hk:8≤k∧k<13):erO o=k:=hA.2 _ _ (erO_in o).1 (erO_in o).2 hk.1 hk.2 h
theorem no_is {z:Int×Nat} (h:2≤z.1∧z.1≤6):Fr.noOf (some z)=if erO (some z)=8 then 2 else if erO (some z)=9 then 4 else if erO (some z)=10 then 5 else if erO (some z)=11 then 3 else 6:=by
 show z.1=_
 unfold erO erK
 grind
def ErrIn {α : Type} (p:Fr.Par α):Prop:=∀ x pos z,p x pos = .error z→2≤z.1∧z.1≤6
theorem err_bind {α β : Type} {p:Fr.Par α} {q : α → Fr.Par β} (hp:ErrIn p) (hq:∀ a,ErrIn (q a)):ErrIn (Fr.bind p q):=fun x pos z h=>by
 unfold Fr.bind at h
 cases hh:p x pos with
 | error y=>rw [hh] at h; injection h with h; subst h; exact hp _ _ _ hh
 | ok r=>rw [hh] at h; exact hq _ _ _ _ h
theorem err_ret {α : Type} (a : α):ErrIn (Fr.ret a):=fun x pos z h=>by cases h
theorem err_num (k:Nat) (lo hi:Int):ErrIn (numP k lo hi):=fun x pos z h=>by
 unfold Fr.numP at h
 split at h
 ·injection h with h; subst h; simp
 ·split at h
  ·cases h
  ·injection h with h; subst h; simp
theorem err_off:ErrIn Fr.offP:=fun x pos z h=>by
 unfold Fr.offP at h
 split at h
 ·injection h with h; subst h; simp
 ·split at h
  ·cases h
  ·injection h with h; subst h; simp
theorem err_take (k:Nat):ErrIn (Fr.takeP k):=fun x pos z h=>by
 unfold Fr.takeP at h
 split at h
 ·injection h with h; subst h; simp
 ·cases h
theorem err_rep:∀ k,ErrIn (Fr.repP k)
 | 0=>err_ret _
 | k+1=>err_bind (err_num _ _ _) fun a=>err_bind (err_rep k) fun l=>err_ret _
theorem err_tail (k p n:Int):ErrIn (Fr.tailP k p n):=by
 have hg:ErrIn Fr.agesP:=err_bind (err_num _ _ _) fun n=>err_rep _
 have hb:ErrIn Fr.bodyP:=err_bind (err_num _ _ _) fun n=>err_take _
 unfold Fr.tailP
 repeat' split
 all_goals repeat' first|exact hg|exact hb|exact err_num _ _ _|exact err_off|exact err_ret _|refine err_bind ?_ fun _ => ?_
theorem err_dec (b:List UInt8) (z:Int×Nat) (h:Fr.errOf (Fr.decX b)=some z):2≤z.1∧z.1≤6:=by
 have hr:∀ x y,Fr.readX x = .error y→2≤y.1∧y.1≤6:=fun x y h=>by
  unfold Fr.readX at h
  split at h
  ·cases hf:Fr.frameP x 0 with
   | error u=>rw [hf] at h; injection h with h; subst h; exact err_bind (err_num _ _ _) (fun k=>err_bind (err_num _ _ _) fun p=>err_bind (err_num _ _ _) fun n=>err_tail k p n) _ _ _ hf
   | ok r =>
    rw [hf] at h
    dsimp only at h
    split at h
    ·injection h with h; subst h; simp
    ·cases h
  ·injection h with h; subst h; simp
 cases hd:Fr.decX b with
 | ok f=>rw [hd] at h; cases h
 | error y =>
  rw [hd] at h
  injection h with h
  subst h
  unfold Fr.decX at hd
  split at hd
  ·injection hd with hd; subst hd; simp
  ·split at hd
   ·exact hr _ _ hd
   ·injection hd with hd; subst hd; simp
theorem fr_number_pc (e:Nat→Addr) (hA:Apart4 e) (o:Option (Int×Nat)) (ho:∀ z,o=some z→2≤z.1∧z.1≤6):PC Tryz.prog (errG4 e) 62 [D.e o.isSome 139 (D.q [sentD e (erO o),I (erA o:Int)] 0)] (· = I (Fr.noOf o)):=by
 refine PC.of (N:=22) Tryz.func62 rfl rfl (Nat.le_of_ble_eq_true rfl) ?_
 refine PW.a [0] 0 (PW.seq (PW.block (PW.w 1 [0,4] 0 (PL.en (A:=[]) o.isSome 139 (D.q [sentD e (erO o),I (erA o:Int)] 0) (!o.isSome) (by first|exact .inl ⟨rfl,rfl⟩|exact .inr ⟨rfl,rfl⟩) rfl rfl kR (PL.n 1 [0,3] 0 (PW.cd (!o.isSome) (fun hz0 => ?_) (fun hz0 => ?_)))))))
 ·try simp only [boolS] at hz0
  refine PW.t [2] 0 (retQ_ret (d:=I 0) (ps:=[]) kR trivial ?_)
  obtain rfl:=isSome_none (by simpa using hz0)
  rfl
 ·try simp only [boolS] at hz0
  refine PW.w 2 [0,7,8] 0 (PL.gc (A:=[]) (fun _=>fr_Is_pc e o.isSome (erO o) 8 (erA o:Int) (by assumption) (erO_in o) (by decide)) (PL.n 1 [0,6] 0 (PW.cd (decide (e (erO o)=e 8)) (fun hz1 => ?_) (fun hz1 => ?_))))
  ·try simp only [boolS] at hz1
   refine PW.t [2] 0 (retQ_ret (d:=I 2) (ps:=[]) kR trivial ?_)
   obtain ⟨z,hz⟩:=isSome_some (by assumption)
   subst hz
   rw [no_is (ho z rfl)]
   have hk:=erO_is hA hz1 (by decide)
   simp [hk]
  ·try simp only [boolS] at hz1
   refine PW.w 2 [0,11,12] 0 (PL.gc (A:=[]) (fun _=>fr_Is_pc e o.isSome (erO o) 9 (erA o:Int) (by assumption) (erO_in o) (by decide)) (PL.n 1 [0,10] 0 (PW.cd (decide (e (erO o)=e 9)) (fun hz2 => ?_) (fun hz2 => ?_))))
   ·try simp only [boolS] at hz2
    refine PW.t [2] 0 (retQ_ret (d:=I 4) (ps:=[]) kR trivial ?_)
    obtain ⟨z,hz⟩:=isSome_some (by assumption)
    subst hz
    rw [no_is (ho z rfl)]
    have hk:=erO_is hA hz2 (by decide)
    simp [hk]
   ·try simp only [boolS] at hz2
    refine PW.w 2 [0,15,16] 0 (PL.gc (A:=[]) (fun _=>fr_Is_pc e o.isSome (erO o) 10 (erA o:Int) (by assumption) (erO_in o) (by decide)) (PL.n 1 [0,14] 0 (PW.cd (decide (e (erO o)=e 10)) (fun hz3 => ?_) (fun hz3 => ?_))))
    ·try simp only [boolS] at hz3
     refine PW.t [2] 0 (retQ_ret (d:=I 5) (ps:=[]) kR trivial ?_)
     obtain ⟨z,hz⟩:=isSome_some (by assumption)
     subst hz
     rw [no_is (ho z rfl)]
     have hk:=erO_is hA hz3 (by decide)
     simp [hk]
    ·try simp only [boolS] at hz3
     refine PW.w 2 [19,20] 0 (PL.gc (A:=[]) (fun _=>fr_Is_pc e o.isSome (erO o) 11 (erA o:Int) (by assumption) (erO_in o) (by decide)) (PL.n 1 [18] 0 (PW.cd (decide (e (erO o)=e 11)) (fun hz4 => ?_) (fun hz4 => ?_))))
     ·try simp only [boolS] at hz4
      refine PW.t [2] 0 (retQ_ret (d:=I 3) (ps:=[]) kR trivial ?_)
      obtain ⟨z,hz⟩:=isSome_some (by assumption)
      subst hz
      rw [no_is (ho z rfl)]
      have hk:=erO_is hA hz4 (by decide)
      simp [hk]
     ·try simp only [boolS] at hz4
      refine PW.k (PW.t [2] 0 (retQ_ret (d:=I 6) (ps:=[]) kR trivial ?_))
      obtain ⟨z,hz⟩:=isSome_some (by assumption)
      subst hz
      rw [no_is (ho z rfl)]
      have h8:erO (some z)≠8:=fun h=>hz1 (by rw [h])
      have h9:erO (some z)≠9:=fun h=>hz2 (by rw [h])
      have h10:erO (some z)≠10:=fun h=>hz3 (by rw [h])
      have h11:erO (some z)≠11:=fun h=>hz4 (by rw [h])
      simp [h8,h9,h10,h11]
theorem frame_Decode_pc (e:Nat→Addr) (hA:Apart4 e) (b:List UInt8) (hb:b.length≤1000000):PC Tryz.prog (errG4 e) 32 [bytesD b] (· = D.t [D.r (Fr.frD (Fr.frOf (Fr.decX b))),I (Fr.noOf (Fr.errOf (Fr.decX b)))]):=by
 refine PC.of (N:=14) Tryz.func32 rfl rfl (Nat.le_of_ble_eq_true rfl) ?_
 refine PW.a [0,2] 1 (PW.w 1 [2,7] 1 (PL.gc (A:=[]) (fun _=>open_pc e b hb) (PL.n 6 [2,4,5] 2 (PW.seq (PW.open [0] kR ?_)))))
 refine PO.a [0,1] 5 [2,11,12] 3 (PO.one (n:=2) 2 kR ?_)
 refine PO1.gc _ (A:=[]) (fun _=>fr_number_pc e hA (Fr.errOf (Fr.decX b)) (err_dec b)) ?_ rfl
 refine PO.one (n:=1) 3 kR (PO1.a [2,13] 2 ?_)
 refine PO.a [4] 1 [2,3] 0 (PO.done kR ?_)
 show PW _ _ _ _ _
 refine PW.ret (retQ_ret (d:=D.t [D.r [I ((Fr.frOf (Fr.decX b)).kind),I ((Fr.frOf (Fr.decX b)).part),I ((Fr.frOf (Fr.decX b)).node),I ((Fr.frOf (Fr.decX b)).wait),I ((Fr.frOf (Fr.decX b)).mask),I ((Fr.frOf (Fr.decX b)).link),D.v (.bool ((Fr.frOf (Fr.decX b)).flag)),I ((Fr.frOf (Fr.decX b)).cycle),I ((Fr.frOf (Fr.decX b)).offset),sl' 1 (fun x=>[I x]) ((Fr.frOf (Fr.decX b)).ages),I ((Fr.frOf (Fr.decX b)).frm),I ((Fr.frOf (Fr.decX b)).to),I ((Fr.frOf (Fr.decX b)).seq),bytesD ((Fr.frOf (Fr.decX b)).body)],I (Fr.noOf (Fr.errOf (Fr.decX b)))]) (ps:=[]) kR trivial ?_)
 rfl
end Go.Proofs.YtdomlccfjnkbjaaGreatDoor.Pl
