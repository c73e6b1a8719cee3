/- Chapter 12: package gauge's Begins, the document's own. -/
import Derived.Test.YtgklghpkfmoogaaGreatDoorGaOne
import Derived.Test.YtgklghpkfmoogaaGreatDoorFrDeep
import Derived.Test.YtgklghpkfmoogaaGreatDoorTbThree
namespace Go.Proofs.YtgklghpkfmoogaaGreatDoor.Pl
open Go.RowKit Go.Proofs.YtgklghpkfmoogaaGreatDoor.Sm Go.Proofs.YtgklghpkfmoogaaGreatDoor.Dp
set_option maxHeartbeats 4000000
set_option maxRecDepth 100000
set_option linter.unusedVariables false
set_option linter.unusedSimpArgs false
def hitB (ss:List Slot) (h:Heard):Bool:=decide (0≤h.slot)&&decide (h.slot<(ss.length:Int))&&beginB (ss.getD h.slot.toNat default).at_ h.at_
def hitI (ss:List Slot) (p:Int) (h:Heard):Int:=beginI (ss.getD h.slot.toNat default).at_ p h.at_
def beginsN (ss:List Slot) (p:Int) (l:List Heard):Nat→List Int
 | 0=>[]
 | i+1=>if hitB ss (l.getD i default)=true then beginsN ss p l i++[hitI ss p (l.getD i default)] else beginsN ss p l i
def beginsOf (c:Config) (part p:Int) (l:List Heard):List Int:=beginsN (slotsOf c part) p l l.length
theorem beginsN_len (ss:List Slot) (p:Int) (l:List Heard):∀ i,(beginsN ss p l i).length≤i
 | 0=>Nat.le_refl 0
 | i+1=>by
  have:=beginsN_len ss p l i
  rw [beginsN]
  split
  ·rw [List.length_append,List.length_singleton]
   omega
  ·omega
theorem begins_no {ss:List Slot} {p:Int} {l:List Heard} {i:Nat} {xs:List Int} (hx:xs=beginsN ss p l i) (h:((l.getD i default).slot<0∨(l.getD i default).slot≥(ss.length:Int))∨beginB (ss.getD (l.getD i default).slot.toNat default).at_ (l.getD i default).at_=false):xs=beginsN ss p l (i+1):=by
 rw [hx,beginsN,if_neg]
 unfold hitB
 rw [Bool.and_eq_true,Bool.and_eq_true,decide_eq_true_eq,decide_eq_true_eq]
 rintro ⟨⟨h1,h2⟩,h3⟩
 rcases h with (h|h)|h
 ·omega
 ·omega
 ·rw [h] at h3
  cases h3
theorem begins_yes {ss:List Slot} {p:Int} {l:List Heard} {i:Nat} {xs:List Int} (hx:xs=beginsN ss p l i) (h:¬ (l.getD i default).slot<0∧¬ (l.getD i default).slot≥(ss.length:Int)) (h':beginB (ss.getD (l.getD i default).slot.toNat default).at_ (l.getD i default).at_=true):xs++[beginI (ss.getD (l.getD i default).slot.toNat default).at_ p (l.getD i default).at_]=beginsN ss p l (i+1):=by
 rw [hx,beginsN,if_pos]
 ·rfl
 ·unfold hitB
  rw [Bool.and_eq_true,Bool.and_eq_true,decide_eq_true_eq,decide_eq_true_eq]
  exact ⟨by omega,h'⟩
theorem gauge_Begins_pc (e:Nat→Addr) (hA:Apart e) (c:Config) (part p:Int) (l:List Heard) (hl:l.length<1000000) (hp0:c.parts.length<1000000) (hl0:c.links.length<1000000):PC Tryz.prog (errG3 e) 8 [D.r (Config.d c),I part,I p,sl' 16 Heard.d l] (· = sl' 1 (fun x=>[I x]) (beginsOf c part p l)):=by
 refine PC.of (N:=54) Tryz.func8 rfl rfl (Nat.le_of_ble_eq_true rfl) ?_
 refine PW.sr [1,2,3,4] 1 trivial ?_
 refine PW.sg ?_
 refine PL.rw 2 [2,3,15,16] 1 trivial ?_
 refine PL.gc (A:=[]) (fun _=>(table_Slots_pc0 e hA c part hp0 hl0).list) ?_
 refine PL.rw 1 [2,3,9] 1 trivial ?_
 refine PL.nl ?_
 refine PW.sr [2,3,9,10] 1 trivial ?_
 refine PW.seq ?_
 refine PW.sr [2,9,10,18,19,20] 1 trivial ?_
 refine PW.block ?_
 refine PW.born 10 2 1 kR ?_
 refine PW.loopR (α := Nat×List Int) (fun (i,xs)=>{ tab:=[⟨2,[],I p⟩,⟨9,[],sl' 3 Slot.d (slotsOf c part)⟩,⟨10,[],D.h 1 xs.length⟩,⟨18,[],sl' 16 Heard.d l⟩,⟨19,[],I (l.length:Int)⟩,⟨20,[],I (i:Int)⟩],mem:=[Obj.var 27 (Config.d c),Obj.row 2 1 xs.length (fun j=>(fun x=>[I x]) (xs.getD j default))],gl:=(errG3 e) }) (fun (i,xs)=>i≤l.length∧xs=beginsN (slotsOf c part) p l i) (fun (i,xs)=>l.length-i) [2,9,10,18,19,20] 2 (0,[]) (s1:={ tab:=[⟨2,[],I p⟩,⟨9,[],sl' 3 Slot.d (slotsOf c part)⟩,⟨10,[],D.h 1 0⟩,⟨18,[],sl' 16 Heard.d l⟩,⟨19,[],I (l.length:Int)⟩,⟨20,[],I 0⟩],mem:=[Obj.var 27 (Config.d c),Obj.row 2 1 0 (fun _=>[])],gl:=(errG3 e) }) kR kR ?_ ?_ ?_
 ·dsimp only
  exact ⟨rfl,rfl,rfl,(.same (.row rfl (fun j hj=>absurd hj (Nat.not_lt_zero _)) .nil))⟩
 ·dsimp only
  exact ⟨Nat.zero_le _,rfl⟩
 rintro ⟨i,xs⟩ hinv
 dsimp only at hinv
 have hn48:=slotsOf_len c part
 have hxl:xs.length≤i:=by rw [hinv.2]; exact beginsN_len _ _ _ _
 show PW _ _ _ _ _
 refine PW.sr [2,9,10,18,19,20,21] 2 trivial ?_
 refine PW.seq ?_
 refine PW.cd (decide ((i:Int)<(l.length:Int))) (fun hz0 => ?_) (fun hz0 => ?_)
 ·try simp only [boolS,isB_true,isB_false] at hz0
  refine PW.skip ?_
  show PW _ _ _ _ _
  refine PW.seq ?_
  refine PW.block ?_
  refine PW.sr [2,9,10,12,18,19,20] 3 (p:=(0≤(i:Int)∧(i:Int)<(l.length:Int))) oM ?_
  refine PW.seq ?_
  refine PW.sr [2,9,10,12,18,19,20,33] 3 trivial ?_
  refine PW.cd ((decide (((l.getD i default).slot)<(0:Int)))||(decide (((l.getD i default).slot)≥((slotsOf c part).length:Int)))) (fun hz1 => ?_) (fun hz1 => ?_)
  ·try simp only [boolS,isB_true,isB_false] at hz1
   refine PW.exit ?_
   show PW _ _ _ _ _
   refine PW.rr [2,9,10,18,19,20] 3 trivial ?_
   refine BackR.of (s1:={ tab:=[⟨2,[],I p⟩,⟨9,[],sl' 3 Slot.d (slotsOf c part)⟩,⟨10,[],D.h 1 xs.length⟩,⟨18,[],sl' 16 Heard.d l⟩,⟨19,[],I (l.length:Int)⟩,⟨20,[],I (IntKind.i64.wrap ((i:Int)+1))⟩],mem:=[Obj.var 27 (Config.d c),Obj.row 2 1 xs.length (fun j=>(fun x=>[I x]) (xs.getD j default))],gl:=(errG3 e) }) (i+1,xs) kR kR ?_ ?_ ?_
   ·dsimp only
    rw [wrapS i oM]
    try simp only [List.length_append,List.length_singleton]
    exact Rem.refl _
   ·dsimp only
    first
    | exact ⟨by omega,begins_no hinv.2 (.inl oM)⟩
    | exact ⟨by omega,begins_no hinv.2 (.inr hz2)⟩
    | exact ⟨by omega,begins_yes hinv.2 oM hz2⟩
   ·dsimp only
    exact nD
  ·try simp only [boolS,isB_true,isB_false] at hz1
   refine PW.skip ?_
   show PW _ _ _ _ _
   refine PW.seq ?_
   refine PW.open [] kR ?_
   refine PO.tk [0,1,2,3,4,5,6,7,8] 15 [2,9,10,18,19,20,40,41,43] 6 (p:=(0≤((l.getD i default).slot)∧((l.getD i default).slot)<((slotsOf c part).length:Int))) oM (fun _ _ h=>h) ?_
   refine PO.one (n:=5) 9 kR ?_
   refine PO1.gc _ (G:=(errG3 e)) (A:=[]) (fun _=>PC.more (gauge_Begin_pc (((slotsOf c part).getD (((l.getD i default).slot).toNat) default).at_) p ((l.getD i default).at_))) ?_ rfl
   refine PO.tk [10,11,12,13,14] 5 [2,9,10,13,14,18,19,20] 0 trivial (fun _ _ h=>h) ?_
   refine PO.done kR ?_
   show PW _ _ _ _ _
   refine PW.sr [2,9,10,13,18,19,20,47] 3 trivial ?_
   refine PW.cd (beginB (((slotsOf c part).getD (((l.getD i default).slot).toNat) default).at_) ((l.getD i default).at_)) (fun hz2 => ?_) (fun hz2 => ?_)
   ·try simp only [boolS,isB_true,isB_false] at hz2
    refine PW.region ?_
    refine PL.rw 4 [2,9,18,19,20,51] 4 (p:=((xs.length=xs.length∧1≤1)∧(xs.length+1)*8≤140737488355328∧xs.length+1≤9223372036854775807)) oM ?_
    refine PL.rm 1 (t:=2) (z:=1) (n:=(xs.length+1)) (fun j=>if j<xs.length then (fun j=>(fun x=>[I x]) (xs.getD j default)) j else (fun k=>([[I (beginI (((slotsOf c part).getD (((l.getD i default).slot).toNat) default).at_) p ((l.getD i default).at_))]][k]?).getD []) (j-xs.length)) (fun j=>(fun x=>[I x]) ((xs++[beginI (((slotsOf c part).getD (((l.getD i default).slot).toNat) default).at_) p ((l.getD i default).at_)]).getD j default)) (fun j hj=>by (try dsimp only); rw [getD_app xs [beginI (((slotsOf c part).getD (((l.getD i default).slot).toNat) default).at_) p ((l.getD i default).at_)] j default,show xs.length=xs.length from (by (try simp only [List.length_set,List.length_replicate,List.length_append,List.length_cons,List.length_nil]) <;> omega)]; split <;> first|rfl|(rename_i hjn; rw [show j-xs.length=0 by omega]; rfl)) ?_
    refine PL.rw 1 [2,9,10,18,19,20] 4 trivial ?_
    refine PL.nil ?_
    show PW _ _ _ _ _
    refine PW.rr [2,9,10,18,19,20] 4 trivial ?_
    refine BackR.of (s1:={ tab:=[⟨2,[],I p⟩,⟨9,[],sl' 3 Slot.d (slotsOf c part)⟩,⟨10,[],D.h 1 (xs.length+1)⟩,⟨18,[],sl' 16 Heard.d l⟩,⟨19,[],I (l.length:Int)⟩,⟨20,[],I (IntKind.i64.wrap ((i:Int)+1))⟩],mem:=[Obj.var 27 (Config.d c),Obj.row 2 1 (xs.length+1) (fun j=>(fun x=>[I x]) ((xs++[beginI (((slotsOf c part).getD (((l.getD i default).slot).toNat) default).at_) p ((l.getD i default).at_)]).getD j default))],gl:=(errG3 e) }) (i+1,xs++[beginI (((slotsOf c part).getD (((l.getD i default).slot).toNat) default).at_) p ((l.getD i default).at_)]) kR kR ?_ ?_ ?_
    ·dsimp only
     rw [wrapS i oM]
     try simp only [List.length_append,List.length_singleton]
     exact Rem.refl _
    ·dsimp only
     first
     | exact ⟨by omega,begins_no hinv.2 (.inl oM)⟩
     | exact ⟨by omega,begins_no hinv.2 (.inr hz2)⟩
     | exact ⟨by omega,begins_yes hinv.2 oM hz2⟩
    ·dsimp only
     exact nD
   ·try simp only [boolS,isB_true,isB_false] at hz2
    refine PW.skip ?_
    show PW _ _ _ _ _
    refine PW.rr [2,9,10,18,19,20] 3 trivial ?_
    refine BackR.of (s1:={ tab:=[⟨2,[],I p⟩,⟨9,[],sl' 3 Slot.d (slotsOf c part)⟩,⟨10,[],D.h 1 xs.length⟩,⟨18,[],sl' 16 Heard.d l⟩,⟨19,[],I (l.length:Int)⟩,⟨20,[],I (IntKind.i64.wrap ((i:Int)+1))⟩],mem:=[Obj.var 27 (Config.d c),Obj.row 2 1 xs.length (fun j=>(fun x=>[I x]) (xs.getD j default))],gl:=(errG3 e) }) (i+1,xs) kR kR ?_ ?_ ?_
    ·dsimp only
     rw [wrapS i oM]
     try simp only [List.length_append,List.length_singleton]
     exact Rem.refl _
    ·dsimp only
     first
     | exact ⟨by omega,begins_no hinv.2 (.inl oM)⟩
     | exact ⟨by omega,begins_no hinv.2 (.inr hz2)⟩
     | exact ⟨by omega,begins_yes hinv.2 oM hz2⟩
    ·dsimp only
     exact nD
 ·try simp only [boolS,isB_true,isB_false] at hz0
  refine PW.exit ?_
  show PW _ _ _ _ _
  refine PW.sr [8] 2 trivial ?_
  refine PW.ret ?_
  refine retQ_ret (d:=D.s xs.length 1 (fun j=>(fun x=>[I x]) (xs.getD j default))) (ps:=[xs.length≤xs.length]) kR (show (xs.length≤xs.length) from by exact nD) ?_
  have e9:beginsOf c part p l=xs:=by unfold beginsOf; rw [hinv.2,show i=l.length by omega]
  rw [e9]
  rfl
theorem drumlineref10_Begins_pc (c:Config) (part p:Int) (l:List Heard) (hl:l.length<1000000) (hp0:c.parts.length<1000000) (hl0:c.links.length<1000000):PC Tryz.prog [] 9 [D.r (Config.d c),I part,I p,sl' 16 Heard.d l] (· = sl' 1 (fun x=>[I x]) (beginsOf c part p l)):=by
 refine PC.of (N:=64) Tryz.func9 rfl rfl (Nat.le_of_ble_eq_true rfl) ?_
 refine PW.sr [1,2,3,4] 1 trivial ?_
 refine PW.sr [1,2,3,4,9] 1 trivial ?_
 refine PW.sg ?_
 refine PL.rw 2 [2,3,9,14,15] 1 trivial ?_
 refine PL.gc (A:=[]) (fun _=>(drumlineref5_Slots_pc0 c part hp0 hl0).list) ?_
 refine PL.rw 1 [2,3,9,10] 1 trivial ?_
 refine PL.nl ?_
 refine PW.seq ?_
 refine PW.sr [2,3,9,10,11] 1 trivial ?_
 refine PW.block ?_
 refine PW.born 9 2 1 kR ?_
 refine PW.loopR (α := Nat×List Int) (fun (i,xs)=>{ tab:=[⟨2,[],I p⟩,⟨3,[],sl' 16 Heard.d l⟩,⟨9,[],D.h 1 xs.length⟩,⟨10,[],sl' 3 Slot.d (slotsOf c part)⟩,⟨11,[],I (i:Int)⟩],mem:=[Obj.var 27 (Config.d c),Obj.row 2 1 xs.length (fun j=>(fun x=>[I x]) (xs.getD j default))] }) (fun (i,xs)=>i≤l.length∧xs=beginsN (slotsOf c part) p l i) (fun (i,xs)=>l.length-i) [2,3,9,10,11] 2 (0,[]) (s1:={ tab:=[⟨2,[],I p⟩,⟨3,[],sl' 16 Heard.d l⟩,⟨9,[],D.h 1 0⟩,⟨10,[],sl' 3 Slot.d (slotsOf c part)⟩,⟨11,[],I 0⟩],mem:=[Obj.var 27 (Config.d c),Obj.row 2 1 0 (fun _=>[])] }) kR kR ?_ ?_ ?_
 ·dsimp only
  exact ⟨rfl,rfl,rfl,(.same (.row rfl (fun j hj=>absurd hj (Nat.not_lt_zero _)) .nil))⟩
 ·dsimp only
  exact ⟨Nat.zero_le _,rfl⟩
 rintro ⟨i,xs⟩ hinv
 dsimp only at hinv
 have hn48:=slotsOf_len c part
 have hxl:xs.length≤i:=by rw [hinv.2]; exact beginsN_len _ _ _ _
 show PW _ _ _ _ _
 refine PW.seq ?_
 refine PW.sr [2,3,9,10,11,20] 2 trivial ?_
 refine PW.cd (decide ((i:Int)<(l.length:Int))) (fun hz0 => ?_) (fun hz0 => ?_)
 ·try simp only [boolS,isB_true,isB_false] at hz0
  refine PW.skip ?_
  show PW _ _ _ _ _
  refine PW.seq ?_
  refine PW.block ?_
  refine PW.seq ?_
  refine PW.sr [2,3,9,10,11,38] 2 (p:=(0≤(i:Int)∧(i:Int)<(l.length:Int))∧(((decide (((l.getD i default).slot)<(0:Int)))=false∧True→0≤(i:Int)∧(i:Int)<(l.length:Int)))) nD ?_
  refine PW.cd ((decide (((l.getD i default).slot)<(0:Int)))||(decide (((l.getD i default).slot)≥((slotsOf c part).length:Int)))) (fun hz1 => ?_) (fun hz1 => ?_)
  ·try simp only [boolS,isB_true,isB_false] at hz1
   refine PW.exit ?_
   show PW _ _ _ _ _
   refine PW.rr [2,3,9,10,11] 2 trivial ?_
   refine BackR.of (s1:={ tab:=[⟨2,[],I p⟩,⟨3,[],sl' 16 Heard.d l⟩,⟨9,[],D.h 1 xs.length⟩,⟨10,[],sl' 3 Slot.d (slotsOf c part)⟩,⟨11,[],I (IntKind.i64.wrap ((i:Int)+1))⟩],mem:=[Obj.var 27 (Config.d c),Obj.row 2 1 xs.length (fun j=>(fun x=>[I x]) (xs.getD j default))] }) (i+1,xs) kR kR ?_ ?_ ?_
   ·dsimp only
    rw [wrapS i oM]
    try simp only [List.length_append,List.length_singleton]
    exact Rem.refl _
   ·dsimp only
    first
    | exact ⟨by omega,begins_no hinv.2 (.inl oM)⟩
    | exact ⟨by omega,begins_no hinv.2 (.inr hz2)⟩
    | exact ⟨by omega,begins_yes hinv.2 oM hz2⟩
   ·dsimp only
    exact nD
  ·try simp only [boolS,isB_true,isB_false] at hz1
   refine PW.skip ?_
   show PW _ _ _ _ _
   refine PW.seq ?_
   refine PW.open [] kR ?_
   refine PO.tk [0,1,2,3,4,5,6,7,8,9,10,11,12,13,14] 21 [2,3,9,10,11,48,49,54] 6 (p:=(0≤(i:Int)∧(i:Int)<(l.length:Int))∧(0≤((l.getD i default).slot)∧((l.getD i default).slot)<((slotsOf c part).length:Int))∧(0≤(i:Int)∧(i:Int)<(l.length:Int))) oM (fun _ _ h=>h) ?_
   refine PO.one (n:=5) 15 kR ?_
   refine PO1.gc _ (A:=[]) (fun _=>drumlineref10_Begin_pc (((slotsOf c part).getD (((l.getD i default).slot).toNat) default).at_) p ((l.getD i default).at_)) ?_ rfl
   refine PO.tk [16,17,18,19,20] 5 [2,3,9,10,11,12,13] 0 trivial (fun _ _ h=>h) ?_
   refine PO.done kR ?_
   show PW _ _ _ _ _
   refine PW.sr [2,3,9,10,11,12,58] 2 trivial ?_
   refine PW.cd (beginB (((slotsOf c part).getD (((l.getD i default).slot).toNat) default).at_) ((l.getD i default).at_)) (fun hz2 => ?_) (fun hz2 => ?_)
   ·try simp only [boolS,isB_true,isB_false] at hz2
    refine PW.region ?_
    refine PL.rw 4 [2,3,10,11,62] 3 (p:=((xs.length=xs.length∧1≤1)∧(xs.length+1)*8≤140737488355328∧xs.length+1≤9223372036854775807)) oM ?_
    refine PL.rm 1 (t:=2) (z:=1) (n:=(xs.length+1)) (fun j=>if j<xs.length then (fun j=>(fun x=>[I x]) (xs.getD j default)) j else (fun k=>([[I (beginI (((slotsOf c part).getD (((l.getD i default).slot).toNat) default).at_) p ((l.getD i default).at_))]][k]?).getD []) (j-xs.length)) (fun j=>(fun x=>[I x]) ((xs++[beginI (((slotsOf c part).getD (((l.getD i default).slot).toNat) default).at_) p ((l.getD i default).at_)]).getD j default)) (fun j hj=>by (try dsimp only); rw [getD_app xs [beginI (((slotsOf c part).getD (((l.getD i default).slot).toNat) default).at_) p ((l.getD i default).at_)] j default,show xs.length=xs.length from (by (try simp only [List.length_set,List.length_replicate,List.length_append,List.length_cons,List.length_nil]) <;> omega)]; split <;> first|rfl|(rename_i hjn; rw [show j-xs.length=0 by omega]; rfl)) ?_
    refine PL.rw 1 [2,3,9,10,11] 3 trivial ?_
    refine PL.nil ?_
    show PW _ _ _ _ _
    refine PW.rr [2,3,9,10,11] 3 trivial ?_
    refine BackR.of (s1:={ tab:=[⟨2,[],I p⟩,⟨3,[],sl' 16 Heard.d l⟩,⟨9,[],D.h 1 (xs.length+1)⟩,⟨10,[],sl' 3 Slot.d (slotsOf c part)⟩,⟨11,[],I (IntKind.i64.wrap ((i:Int)+1))⟩],mem:=[Obj.var 27 (Config.d c),Obj.row 2 1 (xs.length+1) (fun j=>(fun x=>[I x]) ((xs++[beginI (((slotsOf c part).getD (((l.getD i default).slot).toNat) default).at_) p ((l.getD i default).at_)]).getD j default))] }) (i+1,xs++[beginI (((slotsOf c part).getD (((l.getD i default).slot).toNat) default).at_) p ((l.getD i default).at_)]) kR kR ?_ ?_ ?_
    ·dsimp only
     rw [wrapS i oM]
     try simp only [List.length_append,List.length_singleton]
     exact Rem.refl _
    ·dsimp only
     first
     | exact ⟨by omega,begins_no hinv.2 (.inl oM)⟩
     | exact ⟨by omega,begins_no hinv.2 (.inr hz2)⟩
     | exact ⟨by omega,begins_yes hinv.2 oM hz2⟩
    ·dsimp only
     exact nD
   ·try simp only [boolS,isB_true,isB_false] at hz2
    refine PW.skip ?_
    show PW _ _ _ _ _
    refine PW.rr [2,3,9,10,11] 2 trivial ?_
    refine BackR.of (s1:={ tab:=[⟨2,[],I p⟩,⟨3,[],sl' 16 Heard.d l⟩,⟨9,[],D.h 1 xs.length⟩,⟨10,[],sl' 3 Slot.d (slotsOf c part)⟩,⟨11,[],I (IntKind.i64.wrap ((i:Int)+1))⟩],mem:=[Obj.var 27 (Config.d c),Obj.row 2 1 xs.length (fun j=>(fun x=>[I x]) (xs.getD j default))] }) (i+1,xs) kR kR ?_ ?_ ?_
    ·dsimp only
     rw [wrapS i oM]
     try simp only [List.length_append,List.length_singleton]
     exact Rem.refl _
    ·dsimp only
     first
     | exact ⟨by omega,begins_no hinv.2 (.inl oM)⟩
     | exact ⟨by omega,begins_no hinv.2 (.inr hz2)⟩
     | exact ⟨by omega,begins_yes hinv.2 oM hz2⟩
    ·dsimp only
     exact nD
 ·try simp only [boolS,isB_true,isB_false] at hz0
  refine PW.exit ?_
  show PW _ _ _ _ _
  refine PW.sr [8] 2 trivial ?_
  refine PW.ret ?_
  refine retQ_ret (d:=D.s xs.length 1 (fun j=>(fun x=>[I x]) (xs.getD j default))) (ps:=[xs.length≤xs.length]) kR (show (xs.length≤xs.length) from by exact nD) ?_
  have e9:beginsOf c part p l=xs:=by unfold beginsOf; rw [hinv.2,show i=l.length by omega]
  rw [e9]
  rfl
end Go.Proofs.YtgklghpkfmoogaaGreatDoor.Pl
