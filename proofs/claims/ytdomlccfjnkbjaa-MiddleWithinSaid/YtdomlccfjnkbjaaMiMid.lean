/- Chapter 13: areTimes; the document's own sorted. -/
import Derived.Test.YtdomlccfjnkbjaaMiCut
namespace Go.Proofs.Ytdomlccfjnkbjaa.Pl
open Go.RowKit Go.Proofs.Ytdomlccfjnkbjaa.Sm Go.Proofs.Ytdomlccfjnkbjaa.Dp
set_option maxHeartbeats 4000000
set_option maxRecDepth 100000
set_option linter.unusedVariables false
set_option linter.unusedSimpArgs false
theorem wrapi_in (x:Int) : -9223372036854775808≤IntKind.i64.wrap x∧IntKind.i64.wrap x≤9223372036854775807:=by
 simp only [IntKind.wrap_i64]
 omega
def endsI (xs:List Int):Int:=IntKind.i64.wrap (xs.getD 0 default+xs.getD (IntKind.i64.wrap ((xs.length:Int)-1)).toNat default)
def midB (xs:List Int) (f:Int):Bool:=cutB xs.length f&&timesB xs
def midI (xs:List Int) (f:Int):Int:=if midB xs f=true then floorI (endsI (cutL xs f)) 2 else 0
theorem ins_len {xs:List Int} {k:Nat} {x:Int} (hk:k≤xs.length):(xs.take k++[x]++xs.drop k).length=xs.length+1:=by
 simp
 omega
theorem ins_take {l xs:List Int} {i k:Nat} (hi:i<l.length) (hp:xs.Perm (l.take i)):(xs.take k++[l.getD i default]++xs.drop k).Perm (l.take (i+1)):=by
 rw [List.take_succ_eq_append_getElem hi,List.getD_eq_getElem?_getD,List.getElem?_eq_getElem hi,Option.getD_some]
 exact (ins_perm xs _ k).trans (hp.append_right _)
theorem ins_row {xs:List Int} {k j:Nat} {x:Int} (hk:k≤xs.length) (hj:j<0+k+1+(xs.length-k)):(if j<0+k+1 then (if j<0+k then (if j<0 then [] else [I (xs.getD (j-0) default)]) else ([[I x]][j-(0+k)]?).getD []) else [I (xs.getD (k+(j-(0+k+1))) default)])=[I ((xs.take k++[x]++xs.drop k).getD j default)]:=by
 rw [if_neg (Nat.not_lt_zero j)]
 have e:∀ m,(xs.take k++[x]++xs.drop k).getD m default=if m<k then xs.getD m default else if m=k then x else xs.getD (m-1) default:=by
  intro m
  simp only [List.getD_eq_getElem?_getD,List.getElem?_append,List.length_append,List.length_take,List.length_singleton,Nat.min_eq_left hk]
  by_cases h1:m<k
  ·rw [if_pos oM,if_pos h1,if_pos h1,List.getElem?_take,if_pos h1]
  ·rw [if_neg h1]
   by_cases h2:m=k
   ·rw [if_pos h2,if_pos oM,if_neg h1,h2,Nat.sub_self]
    rfl
   ·rw [if_neg h2,if_neg oM,List.getElem?_drop,show k+(m-(k+1))=m-1 by omega,if_neg h1]
 rw [e]
 by_cases h1:j<k
 ·rw [if_pos oM,if_pos oM,if_pos h1,Nat.sub_zero]
 ·rw [if_neg h1]
  by_cases h2:j=k
  ·rw [if_pos oM,if_neg oM,if_pos h2,show j-(0+k)=0 by omega]
   rfl
  ·rw [if_neg oM,if_neg h2,show k+(j-(0+k+1))=j-1 by omega]
theorem middle_Cut_pc (xs:List Int) (hl:xs.length<1000000) (f:Int):PC Try.prog [] 9 [sl' 1 (fun x=>[I x]) xs,I f] (· = D.t [sl' 1 (fun x=>[I x]) (cutL xs f),D.v (.bool (cutB xs.length f))]):=(middle_Cut_pc0 xs hl f).coarse fun d h=>⟨_,rfl,h⟩
theorem middle_areTimes_pc (l:List Int) (hl:l.length<1000000):PC Try.prog [] 17 [sl' 1 (fun x=>[I x]) l] (· = D.v (.bool (timesB l))):=by
 refine PC.of (N:=18) Try.func17 rfl rfl (Nat.le_of_ble_eq_true rfl) ?_
 refine PW.a [0] 0 (PW.q [5,6,7] 0 (PW.block (PW.lp (α := Nat) (fun i=>{ tab:=[⟨5,[],sl' 1 (fun x=>[I x]) l⟩,⟨6,[],I (l.length:Int)⟩,⟨7,[],I (i:Int)⟩],mem:=[] }) (fun i=>i≤l.length∧∀ k,k<i→timeB (l.getD k default)=true) (fun i=>l.length-i) [5,6,7] 0 (0) ?_ ?_)))
 ·exact ⟨Nat.zero_le _,fun k hk=>absurd hk (Nat.not_lt_zero k)⟩
 rintro i hinv
 show PW _ _ _ _ _
 refine PW.a [5,6,7,8] 0 (PW.seq (PW.cd (decide ((i:Int)<(l.length:Int))) (fun hz0 => ?_) (fun hz0 => ?_)))
 ·try simp only [boolS] at hz0
  refine PW.k (PW.seq (PW.block (PW.sr [4,5,6,7] 0 (p:=(0≤(i:Int)∧(i:Int)<(l.length:Int))) oM (PW.a [5,6,7,16] 0 (PW.cd ((decide ((l.getD i default)<((-1099511627776):Int)))||(decide ((l.getD i default)>(1099511627776:Int)))) (fun hz1 => ?_) (fun hz1 => ?_))))))
  ·try simp only [boolS] at hz1
   refine PW.t [2] 0 (retQ_ret (d:=D.v (.bool false)) (ps:=[]) kR trivial ?_)
   unfold timesB
   rw [allN_no (i:=i) oM (by unfold timeB; rw [← Bool.not_eq_true,Bool.and_eq_true]; grind)]
  ·try simp only [boolS] at hz1
   refine PW.k (PW.b [5,6,7] 0 ?_)
   refine BackR.of (s1:={ tab:=[⟨5,[],sl' 1 (fun x=>[I x]) l⟩,⟨6,[],I (l.length:Int)⟩,⟨7,[],I (IntKind.i64.wrap ((i:Int)+1))⟩],mem:=[] }) (i+1) kR kR ?_ ?_ ?_
   ·rw [wrapS i oM]
    exact Rem.refl _
   ·exact ⟨by omega,fun k hk=>(Nat.lt_succ_iff_lt_or_eq.1 hk).elim (hinv.2 k) (fun e=>by rw [e]; unfold timeB; rw [Bool.and_eq_true]; grind)⟩
   ·exact nD
 ·try simp only [boolS] at hz0
  refine PW.e (PW.t [2] 0 (retQ_ret (d:=D.v (.bool true)) (ps:=[]) kR trivial ?_))
  unfold timesB
  rw [(allN_iff _ _).2 fun k hk=>hinv.2 k oM]
theorem drumlineref10_sorted_pc (l:List Int) (hl:l.length<1000000):PC Try.prog [] 16 [sl' 1 (fun x=>[I x]) l] (· = sl' 1 (fun x=>[I x]) (srtI l)):=by
 refine PC.of (N:=44) Try.func16 rfl rfl (Nat.le_of_ble_eq_true rfl) ?_
 refine PW.a [0] 0 (PW.a [0,3] 0 (PW.q [0,3,4] 0 (PW.block (PW.nilS 3 1 (fun i=>[I (([]:List Int).getD i default)]) kR (PW.lp (α := Nat×List Int) (fun (p,xs)=>{ tab:=[⟨0,[],sl' 1 (fun x=>[I x]) l⟩,⟨3,[],sl' 1 (fun x=>[I x]) xs⟩,⟨4,[],I (p:Int)⟩],mem:=[] }) (fun (p,xs)=>p≤l.length∧True∧xs.length=p∧xs.Perm (l.take p)∧xs.Pairwise (· ≤ ·)) (fun (p,xs)=>l.length-p) [0,3,4] 0 (0,[]) ?_ ?_)))))
 ·dsimp only
  exact ⟨Nat.zero_le _,trivial,rfl,.refl _,.nil⟩
 rintro ⟨p,xs⟩ hinv
 dsimp only at hinv
 have hxl:xs.length=p:=hinv.2.2.1
 show PW _ _ _ _ _
 refine PW.q [0,3,4,9] 0 (PW.cd (decide ((p:Int)<(l.length:Int))) (fun hz0 => ?_) (fun hz0 => ?_))
 ·try simp only [boolS] at hz0
  refine PW.k (PW.seq (PW.block (PW.a [0,3,4,5] 0 (PW.seq (PW.block (PW.lp (α := Nat) (fun u=>{ tab:=[⟨0,[],sl' 1 (fun x=>[I x]) l⟩,⟨3,[],sl' 1 (fun x=>[I x]) xs⟩,⟨4,[],I (p:Int)⟩,⟨5,[],I (u:Int)⟩],mem:=[] }) (fun u=>u≤xs.length∧∀ m,m<u→xs.getD m default≤l.getD p default) (fun u=>xs.length-u) [0,3,4,5] 0 (0) ?_ ?_))))))
  ·exact ⟨Nat.zero_le _,fun m hm=>absurd hm (Nat.not_lt_zero m)⟩
  rintro u hk
  show PW _ _ _ _ _
  refine PW.seq (PW.seq (PW.open [] kR (PO.tk [0,1,2,3,4,5,6,7,8,9,10,11,12,13,14] 15 [0,3,4,5,26] 0 (p:=(((decide ((u:Int)<(xs.length:Int)))=true∧True→0≤(u:Int)∧(u:Int)<(xs.length:Int)))∧(((decide ((u:Int)<(xs.length:Int)))=true∧True→0≤(p:Int)∧(p:Int)<(l.length:Int)))) nD (fun _ _ h=>h) (PO.done kR ?_))))
  show PW _ _ _ _ _
  refine PW.cd ((decide ((u:Int)<(xs.length:Int)))&&(decide ((xs.getD u default)≤(l.getD p default)))) (fun hz1 => ?_) (fun hz1 => ?_)
  ·try simp only [boolS] at hz1
   refine PW.k (PW.block (PW.b [0,3,4,5] 0 ?_))
   refine BackR.of (s1:={ tab:=[⟨0,[],sl' 1 (fun x=>[I x]) l⟩,⟨3,[],sl' 1 (fun x=>[I x]) xs⟩,⟨4,[],I (p:Int)⟩,⟨5,[],I (IntKind.i64.wrap ((u:Int)+1))⟩],mem:=[] }) (u+1) kR kR ?_ ?_ ?_
   ·rw [wrapS u oM]
    exact Rem.refl _
   ·exact ⟨by omega,fun m hm=>(Nat.lt_succ_iff_lt_or_eq.1 hm).elim (hk.2 m) (fun e=>by rw [e]; grind)⟩
   ·exact nD
  ·try simp only [boolS] at hz1
   refine PW.e (PW.open [0,1] kR (PO.tk [0,1,2,4,5,6,7,10,11,12] 15 [0,3,4,31,36,41] 5 (p:=(0≤(u:Int)∧(u:Int)≤(xs.length:Int))∧(0≤(p:Int)∧(p:Int)<(l.length:Int))∧(0≤(u:Int)∧(u:Int)≤(xs.length:Int))) oM (fun _ _ h=>h) (PO.next (n:=4) [3,8] kR (by simp) ?_)))
   intro i hi
   simp only [List.mem_cons,List.not_mem_nil,or_false] at hi
   rcases hi with rfl|rfl
   ·skip
    refine PO1.mm rfl [0,3,4,32,36,41] 1 (p:=(True∧(0+u)*8≤140737488355328∧0+u≤9223372036854775807)) nD (PO.one (n:=3) 8 kR (PO1.a [0,3,4,32,37,41] 2 (PO.one (n:=2) 9 kR (PO1.mm rfl [0,3,4,38,41] 2 (p:=((0+u=0+u∧1≤1)∧(0+u+1)*8≤140737488355328∧0+u+1≤9223372036854775807)) oM (PO.one (n:=1) 13 kR (PO1.mm rfl [0,3,4,42] 2 (p:=((0+u+1=0+u+1∧True)∧(0+u+1+(xs.length-u))*8≤140737488355328∧0+u+1+(xs.length-u)≤9223372036854775807)) nD (PO.a [14] 1 [0,3,4] 0 ?_)))))))
    refine PO.rm 0 (t:=2) (z:=1) (n:=(0+u+1+(xs.length-u))) (fun j=>if j<0+u+1 then (fun j=>if j<0+u then (fun j=>if j<0 then (fun _=>[]) j else (fun i=>[I (xs.getD i default)]) (j-0)) j else (fun k=>([[I (l.getD p default)]][k]?).getD []) (j-(0+u))) j else (fun k=>(fun i=>[I (xs.getD i default)]) (u+k)) (j-(0+u+1))) (fun j=>(fun x=>[I x]) ((xs.take u++[l.getD p default]++xs.drop u).getD j default)) (fun j hj=>by exact ins_row oM hj) (PO.eq (s':={ tab:=[⟨0,[],sl' 1 (fun x=>[I x]) l⟩,⟨3,[],D.h 0 (0+u+1+(xs.length-u))⟩,⟨4,[],I (p:Int)⟩],mem:=[Obj.row 2 1 (0+u+1+(xs.length-u)) (fun j=>(fun x=>[I x]) ((xs.take u++[l.getD p default]++xs.drop u).getD j default)),Obj.row 2 1 1 (fun k=>([[I (l.getD p default)]][k]?).getD [])] }) kR (PO.frzR 0 (t:=2) (z:=1) (m:=(0+u+1+(xs.length-u))) (f:=(fun j=>(fun x=>[I x]) ((xs.take u++[l.getD p default]++xs.drop u).getD j default))) (f':=(fun i=>[I ((xs.take u++[l.getD p default]++xs.drop u).getD i default)])) (s':={ tab:=[⟨0,[],sl' 1 (fun x=>[I x]) l⟩,⟨3,[],sl' 1 (fun x=>[I x]) (xs.take u++[l.getD p default]++xs.drop u)⟩,⟨4,[],I (p:Int)⟩],mem:=[Obj.dead,Obj.row 2 1 1 (fun k=>([[I (l.getD p default)]][k]?).getD [])] }) rfl (fun j hj=>rfl) (Nat.zero_le _) (fz_eq (n:=0+u+1+(xs.length-u)) (d:=D.s (0+u+1+(xs.length-u)) 1 (fun i=>[I ((xs.take u++[l.getD p default]++xs.drop u).getD i default)])) (fun d9=>{ tab:=[⟨0,[],sl' 1 (fun x=>[I x]) l⟩,⟨3,[],d9⟩,⟨4,[],I (p:Int)⟩],mem:=[Obj.dead,Obj.row 2 1 1 (fun k=>([[I (l.getD p default)]][k]?).getD [])] }) kR (sl_len (z:=1) (n:=0+u+1+(xs.length-u)) (e:=(fun x=>[I x])) (xs:=(xs.take u++[l.getD p default]++xs.drop u)) (by (try simp only [List.length_replicate,List.length_append,List.length_cons,List.length_nil,List.length_set,List.length_take,List.length_drop]) <;> omega))) (PO.sel [0,3,4] 2 rfl kR (PO.done kR ?_))))
    show PW _ _ _ _ _
    refine PW.b [0,3,4] 2 ?_
    refine BackR.of (s1:={ tab:=[⟨0,[],sl' 1 (fun x=>[I x]) l⟩,⟨3,[],sl' 1 (fun x=>[I x]) (xs.take u++[l.getD p default]++xs.drop u)⟩,⟨4,[],I (IntKind.i64.wrap ((p:Int)+1))⟩],mem:=[] }) (p+1,xs.take u++[l.getD p default]++xs.drop u) kR kR ?_ ?_ ?_
    ·dsimp only
     rw [wrapS p oM]
     exact Rem.refl _
    ·dsimp only
     exact ⟨by omega,trivial,by rw [ins_len oM]; omega,ins_take oM hinv.2.2.2.1,ins_sorted hk.1 hinv.2.2.2.2 hk.2 (fun h9=>by grind)⟩
    ·dsimp only
     exact nD
   ·skip
    refine PO1.a [0,3,4,31,37,41] 1 (PO.one (n:=3) 3 kR (PO1.mm rfl [0,3,4,32,37,41] 2 (p:=(True∧(0+u)*8≤140737488355328∧0+u≤9223372036854775807)) nD (PO.one (n:=2) 9 kR (PO1.mm rfl [0,3,4,38,41] 2 (p:=((0+u=0+u∧1≤1)∧(0+u+1)*8≤140737488355328∧0+u+1≤9223372036854775807)) oM (PO.one (n:=1) 13 kR (PO1.mm rfl [0,3,4,42] 2 (p:=((0+u+1=0+u+1∧True)∧(0+u+1+(xs.length-u))*8≤140737488355328∧0+u+1+(xs.length-u)≤9223372036854775807)) nD (PO.a [14] 1 [0,3,4] 0 ?_)))))))
    refine PO.rm 1 (t:=2) (z:=1) (n:=(0+u+1+(xs.length-u))) (fun j=>if j<0+u+1 then (fun j=>if j<0+u then (fun j=>if j<0 then (fun _=>[]) j else (fun i=>[I (xs.getD i default)]) (j-0)) j else (fun k=>([[I (l.getD p default)]][k]?).getD []) (j-(0+u))) j else (fun k=>(fun i=>[I (xs.getD i default)]) (u+k)) (j-(0+u+1))) (fun j=>(fun x=>[I x]) ((xs.take u++[l.getD p default]++xs.drop u).getD j default)) (fun j hj=>by exact ins_row oM hj) (PO.eq (s':={ tab:=[⟨0,[],sl' 1 (fun x=>[I x]) l⟩,⟨3,[],D.h 1 (0+u+1+(xs.length-u))⟩,⟨4,[],I (p:Int)⟩],mem:=[Obj.row 2 1 1 (fun k=>([[I (l.getD p default)]][k]?).getD []),Obj.row 2 1 (0+u+1+(xs.length-u)) (fun j=>(fun x=>[I x]) ((xs.take u++[l.getD p default]++xs.drop u).getD j default))] }) kR (PO.frzR 1 (t:=2) (z:=1) (m:=(0+u+1+(xs.length-u))) (f:=(fun j=>(fun x=>[I x]) ((xs.take u++[l.getD p default]++xs.drop u).getD j default))) (f':=(fun i=>[I ((xs.take u++[l.getD p default]++xs.drop u).getD i default)])) (s':={ tab:=[⟨0,[],sl' 1 (fun x=>[I x]) l⟩,⟨3,[],sl' 1 (fun x=>[I x]) (xs.take u++[l.getD p default]++xs.drop u)⟩,⟨4,[],I (p:Int)⟩],mem:=[Obj.row 2 1 1 (fun k=>([[I (l.getD p default)]][k]?).getD []),Obj.dead] }) rfl (fun j hj=>rfl) (Nat.zero_le _) (fz_eq (n:=0+u+1+(xs.length-u)) (d:=D.s (0+u+1+(xs.length-u)) 1 (fun i=>[I ((xs.take u++[l.getD p default]++xs.drop u).getD i default)])) (fun d9=>{ tab:=[⟨0,[],sl' 1 (fun x=>[I x]) l⟩,⟨3,[],d9⟩,⟨4,[],I (p:Int)⟩],mem:=[Obj.row 2 1 1 (fun k=>([[I (l.getD p default)]][k]?).getD []),Obj.dead] }) kR (sl_len (z:=1) (n:=0+u+1+(xs.length-u)) (e:=(fun x=>[I x])) (xs:=(xs.take u++[l.getD p default]++xs.drop u)) (by (try simp only [List.length_replicate,List.length_append,List.length_cons,List.length_nil,List.length_set,List.length_take,List.length_drop]) <;> omega))) (PO.sel [0,3,4] 1 rfl kR (PO.done kR ?_))))
    show PW _ _ _ _ _
    refine PW.b [0,3,4] 1 ?_
    refine BackR.of (s1:={ tab:=[⟨0,[],sl' 1 (fun x=>[I x]) l⟩,⟨3,[],sl' 1 (fun x=>[I x]) (xs.take u++[l.getD p default]++xs.drop u)⟩,⟨4,[],I (IntKind.i64.wrap ((p:Int)+1))⟩],mem:=[] }) (p+1,xs.take u++[l.getD p default]++xs.drop u) kR kR ?_ ?_ ?_
    ·dsimp only
     rw [wrapS p oM]
     exact Rem.refl _
    ·dsimp only
     exact ⟨by omega,trivial,by rw [ins_len oM]; omega,ins_take oM hinv.2.2.2.1,ins_sorted hk.1 hinv.2.2.2.2 hk.2 (fun h9=>by grind)⟩
    ·dsimp only
     exact nD
 ·try simp only [boolS] at hz0
  refine PW.e (PW.t [2] 0 (retQ_ret (d:=sl' 1 (fun x=>[I x]) xs) (ps:=[]) kR trivial ?_))
  have e9:srtI l=xs:=by rw [srt_unique (xs:=l) (by have h:=hinv.2.2.2.1; rw [show p=l.length by omega,List.take_length] at h; exact h) hinv.2.2.2.2]
  rw [e9]
end Go.Proofs.Ytdomlccfjnkbjaa.Pl
