/- Chapter 11: Spare, Add; the law's own small and right. -/
import Derived.Test.YtnjoklfclnkklaaGreatDoorAiFour
namespace Go.Proofs.YtnjoklfclnkklaaGreatDoor.Pl
open Go.RowKit Go.Proofs.YtnjoklfclnkklaaGreatDoor.Sm Go.Proofs.YtnjoklfclnkklaaGreatDoor.Dp
open Go.Proofs.YtnjoklfclnkklaaGreatDoor.Fr (bare frD frC decX errOf frOf noOf atOf WfA wfA_dec bytesOf mayB)
set_option maxHeartbeats 4000000
set_option maxRecDepth 100000
set_option linter.unusedVariables false
set_option linter.unusedSimpArgs false
theorem same_self (f:Frame):decide (f=f)=true:=by simp
theorem drumlineref10_SameHeard_pc (xs:List Heard) (hl:xs.length<1000000) (hW:∀ k,k<xs.length→WfA (xs.getD k default).frame):PC Tryz.prog [] 15 [sl' 16 Heard.d xs,sl' 16 Heard.d xs] (· = D.v (.bool true)):=by
 refine PC.of (N:=55) Tryz.func15 rfl rfl (Nat.le_of_ble_eq_true rfl) ?_
 refine PW.sr [0,1] 0 trivial ?_
 refine PW.seq ?_
 refine PW.sr [0,1,10] 0 trivial ?_
 refine PW.cd ((xs.length:Int) != (xs.length:Int)) (fun hz0 => ?_) (fun hz0 => ?_)
 ·try simp only [boolS] at hz0
  refine PW.sr [4] 0 trivial ?_
  refine PW.ret ?_
  refine retQ_ret (d:=D.v (.bool false)) (ps:=[]) kR trivial ?_
  exact absurd trivial hz0
 ·try simp only [boolS] at hz0
  refine PW.skip ?_
  show PW _ _ _ _ _
  refine PW.seq ?_
  refine PW.sr [0,1,5] 0 trivial ?_
  refine PW.block ?_
  refine PW.lp (α := Nat) (fun i=>{ tab:=[⟨0,[],sl' 16 Heard.d xs⟩,⟨1,[],sl' 16 Heard.d xs⟩,⟨5,[],I (i:Int)⟩],mem:=[] }) (fun i=>i≤xs.length) (fun i=>xs.length-i) [0,1,5] 0 (0) ?_ ?_
  ·exact Nat.zero_le _
  rintro i hinv
  show PW _ _ _ _ _
  refine PW.seq ?_
  refine PW.sr [0,1,5,14] 0 trivial ?_
  refine PW.cd (decide ((i:Int)<(xs.length:Int))) (fun hz1 => ?_) (fun hz1 => ?_)
  ·try simp only [boolS] at hz1
   refine PW.skip ?_
   show PW _ _ _ _ _
   refine PW.seq ?_
   refine PW.block ?_
   refine PW.seq ?_
   refine PW.open [] kR ?_
   refine PO.tk [0,1,2,3,4,5,6,7,8,9,10,11,12,13,14,15,16,17,18,19,20,21,22,23,24,25,26,27,28,29,30,31,32,33,34] 38 [0,1,5,41,46,51] 3 (p:=(0≤(i:Int)∧(i:Int)<(xs.length:Int))∧(0≤(i:Int)∧(i:Int)<(xs.length:Int))∧(((((xs.getD i default).slot) != ((xs.getD i default).slot))=false∧True→0≤(i:Int)∧(i:Int)<(xs.length:Int)))∧(((((xs.getD i default).slot) != ((xs.getD i default).slot))=false∧True→0≤(i:Int)∧(i:Int)<(xs.length:Int)))∧((((((xs.getD i default).slot) != ((xs.getD i default).slot))||(((xs.getD i default).at_) != ((xs.getD i default).at_)))=false∧True→0≤(i:Int)∧(i:Int)<(xs.length:Int)))∧((((((xs.getD i default).slot) != ((xs.getD i default).slot))||(((xs.getD i default).at_) != ((xs.getD i default).at_)))=false∧True→0≤(i:Int)∧(i:Int)<(xs.length:Int)))) nD (fun _ _ h=>h) ?_
   refine PO.one (n:=2) 35 kR ?_
   refine PO1.gc _ (ds0:=[D.r [I (((xs.getD i default).frame).kind),I (((xs.getD i default).frame).part),I (((xs.getD i default).frame).node),I (((xs.getD i default).frame).wait),I (((xs.getD i default).frame).mask),I (((xs.getD i default).frame).link),D.v (.bool (((xs.getD i default).frame).flag)),I (((xs.getD i default).frame).cycle),I (((xs.getD i default).frame).offset),sl' 1 (fun x=>[I x]) (((xs.getD i default).frame).ages),I (((xs.getD i default).frame).frm),I (((xs.getD i default).frame).to),I (((xs.getD i default).frame).seq),bytesD (((xs.getD i default).frame).body)],D.r [I (((xs.getD i default).frame).kind),I (((xs.getD i default).frame).part),I (((xs.getD i default).frame).node),I (((xs.getD i default).frame).wait),I (((xs.getD i default).frame).mask),I (((xs.getD i default).frame).link),D.v (.bool (((xs.getD i default).frame).flag)),I (((xs.getD i default).frame).cycle),I (((xs.getD i default).frame).offset),sl' 1 (fun x=>[I x]) (((xs.getD i default).frame).ages),I (((xs.getD i default).frame).frm),I (((xs.getD i default).frame).to),I (((xs.getD i default).frame).seq),bytesD (((xs.getD i default).frame).body)]]) (d:=D.v (.bool true)) (A:=[(41,false)]) (fun _=>(Fr.sameR_pc ((xs.getD i default).frame) ((xs.getD i default).frame) (hW _ oM) (hW _ oM)).eq (by rw [same_self])) ?_ rfl
   refine PO.tk [36,37] 2 [0,1,5,54] 0 trivial (fun _ _ h=>h) ?_
   refine PO.done kR ?_
   show PW _ _ _ _ _
   refine PW.cd (((((xs.getD i default).slot) != ((xs.getD i default).slot))||(((xs.getD i default).at_) != ((xs.getD i default).at_)))||false) (fun hz2 => ?_) (fun hz2 => ?_)
   ·try simp only [boolS] at hz2
    refine PW.sr [4] 0 trivial ?_
    refine PW.ret ?_
    refine retQ_ret (d:=D.v (.bool false)) (ps:=[]) kR trivial ?_
    simp at hz2
   ·try simp only [boolS] at hz2
    refine PW.skip ?_
    show PW _ _ _ _ _
    refine PW.rr [0,1,5] 0 trivial ?_
    refine BackR.of (s1:={ tab:=[⟨0,[],sl' 16 Heard.d xs⟩,⟨1,[],sl' 16 Heard.d xs⟩,⟨5,[],I (IntKind.i64.wrap ((i:Int)+1))⟩],mem:=[] }) (i+1) kR kR ?_ ?_ ?_
    ·rw [wrap1 i oM]
     exact Rem.refl _
    ·omega
    ·exact nD
  ·try simp only [boolS] at hz1
   refine PW.exit ?_
   show PW _ _ _ _ _
   refine PW.sr [4] 0 trivial ?_
   refine PW.ret ?_
   refine retQ_ret (d:=D.v (.bool true)) (ps:=[]) kR trivial ?_
   rfl
theorem heardN_wf {c:Config} {part:Int} {x:Guard} {ppm:Int} {says:List Say} {lost:List Int} (n:Nat):∀ h ∈ heardN c part x ppm says lost n,WfA h.frame:=by
 induction n with
 | zero=>exact fun h hh=>by cases hh
 | succ n ih =>
  unfold heardN
  split
  ·exact ih
  ·intro h hh
   rcases List.mem_append.1 hh with hh|hh
   ·exact ih h hh
   ·rw [List.mem_singleton.1 hh]
    exact wfA_dec _
theorem heardOf_wf (c:Config) (part:Int) (x:Guard) (ppm:Int) (says:List Say) (lost:List Int):∀ k,k<(heardOf c part x ppm says lost).length→WfA ((heardOf c part x ppm says lost).getD k default).frame:=fun k hk=>by
 refine heardN_wf (c:=c) (part:=part) (x:=x) (ppm:=ppm) (says:=says) (lost:=lost) (slotsOf c part).length _ ?_
 show _ ∈ heardOf c part x ppm says lost
 rw [List.getD_eq_getElem?_getD,List.getElem?_eq_getElem hk]
 exact List.getElem_mem hk
theorem heardOf_len (c:Config) (part:Int) (x:Guard) (ppm:Int) (says:List Say) (lost:List Int):(heardOf c part x ppm says lost).length≤48:=by
 have h1:=heardN_len (c:=c) (part:=part) (x:=x) (ppm:=ppm) (says:=says) (lost:=lost) (slotsOf c part).length
 have h2:=slotsOf_len c part
 unfold heardOf
 omega
theorem badOf_len (c:Config) (part:Int) (x:Guard) (ppm:Int) (says:List Say) (lost:List Int):badOf c part x ppm says lost≤48:=by
 have h1:=badN_le (c:=c) (part:=part) (x:=x) (ppm:=ppm) (says:=says) (lost:=lost) (slotsOf c part).length
 have h2:=slotsOf_len c part
 unfold badOf
 omega
theorem heard_coarse {P:Program} {G:List (Nat×List D)} {f:FuncId} {ds:List D} {xs:List Heard} {m:Int} (h:PC P G f ds (fun d=>d=D.t [sl' 16 Heard.d xs,I m]∨(d=D.t [D.v (.slice none 0 0),I m]∧xs=[]))):PC P G f ds (· = D.t [sl' 16 Heard.d xs,I m]):=h.coarse fun d hd=>by
 rcases hd with rfl|⟨rfl,rfl⟩
 ·exact ⟨_,rfl,fun _ _ _ h=>h⟩
 ·refine ⟨_,rfl,fun w ok v hv => ?_⟩
  cases hv with
  | t hl hd =>
   refine .t hl fun j d v e1 e2 => ?_
   match j,e1 with
   | 0,e1 =>
    cases e1
    exact (hd 0 _ _ rfl e2).nil_s
   | 1,e1=>exact hd 1 _ _ e1 e2
   | j+2,e1=>exact absurd e1 (by simp)
def addI (a b:Int):Int:=if b>0∧a>IntKind.i64.wrap (9223372036854775807-b) then 9223372036854775807 else if b<0∧a<IntKind.i64.wrap ((-9223372036854775808)-b) then -9223372036854775808 else IntKind.i64.wrap (a+b)
theorem addI_pc (a b:Int):PC Tryz.prog [] 37 [I a,I b] (· = I (addI a b)):=by
 refine PC.of (N:=24) Tryz.func37 rfl rfl (Nat.le_of_ble_eq_true rfl) ?_
 refine PW.sr [0,1] 0 trivial ?_
 refine PW.seq ?_
 refine PW.sr [0,1,12] 0 trivial ?_
 refine PW.cd ((decide (b>(0:Int)))&&(decide (a>(IntKind.i64.wrap (9223372036854775807-b))))) (fun hz0 => ?_) (fun hz0 => ?_)
 ·try simp only [boolS] at hz0
  refine PW.sr [4] 0 trivial ?_
  refine PW.ret ?_
  refine retQ_ret (d:=I 9223372036854775807) (ps:=[]) kR trivial ?_
  rw [addI,if_pos hz0]
 ·try simp only [boolS] at hz0
  refine PW.skip ?_
  show PW _ _ _ _ _
  refine PW.seq ?_
  refine PW.sr [0,1,20] 0 trivial ?_
  refine PW.cd ((decide (b<(0:Int)))&&(decide (a<(IntKind.i64.wrap ((-9223372036854775808)-b))))) (fun hz1 => ?_) (fun hz1 => ?_)
  ·try simp only [boolS] at hz1
   refine PW.sr [4] 0 trivial ?_
   refine PW.ret ?_
   refine retQ_ret (d:=I (-9223372036854775808)) (ps:=[]) kR trivial ?_
   rw [addI,if_neg oM,if_pos hz1]
  ·try simp only [boolS] at hz1
   refine PW.skip ?_
   show PW _ _ _ _ _
   refine PW.sr [4] 0 trivial ?_
   refine PW.ret ?_
   refine retQ_ret (d:=I (IntKind.i64.wrap (a+b))) (ps:=[]) kR trivial ?_
   rw [addI,if_neg oM,if_neg oM]
structure Said where
 f:Frame
 b:List UInt8
 slot:Int
 late:Int
 fit:Bool
deriving Inhabited
def Said.d (s:Said):List D:=frD s.f++[bytesD s.b,I s.slot,I s.late,D.v (.bool s.fit)]
def longB (s:Said):Bool:=decide (s.b.length>100)||decide (s.f.ages.length>20)||decide (s.f.body.length>100)
def rightB (x:Guard) (l:List Said):Bool := !(decide (l.length>40)||decide (x.start < -549755813888)||decide (x.start>549755813888)||decide (x.ages.length>20)) && !(l.any longB)
theorem any_at {α : Type} [Inhabited α] {p : α → Bool} {l:List α} {i:Nat} (hi:i<l.length) (h:p (l.getD i default)=true):l.any p=true :=
 List.any_eq_true.2 ⟨l.getD i default,by rw [List.getD_eq_getElem?_getD,List.getElem?_eq_getElem hi]; exact List.getElem_mem _,h⟩
theorem any_no {α : Type} [Inhabited α] {p : α → Bool} {l:List α} (h:∀ k,k<l.length→p (l.getD k default)=false):l.any p=false:=by
 rw [List.any_eq_false]
 intro x hx
 obtain ⟨i,hi,rfl⟩:=List.mem_iff_getElem.1 hx
 have:=h i hi
 rw [List.getD_eq_getElem?_getD,List.getElem?_eq_getElem hi] at this
 exact Bool.eq_false_iff.1 this
theorem drumlinelaw11_right_pc (x:Guard) (l:List Said) (hl:l.length≤maxLen):PC Tryz.prog [] 16 [D.r (Guard.d x),sl' 18 Said.d l] (· = D.v (.bool (rightB x l))):=by
 refine PC.of (N:=58) Tryz.func16 rfl rfl (Nat.le_of_ble_eq_true rfl) ?_
 refine PW.sr [1,2] 1 trivial ?_
 refine PW.seq ?_
 refine PW.sr [1,24] 1 trivial ?_
 refine PW.cd ((((decide ((l.length:Int)>(40:Int)))||(decide (x.start<((-549755813888):Int))))||(decide (x.start>(549755813888:Int))))||(decide ((x.ages.length:Int)>(20:Int)))) (fun hz0 => ?_) (fun hz0 => ?_)
 ·try simp only [boolS] at hz0
  refine PW.sr [4] 1 trivial ?_
  refine PW.ret ?_
  refine retQ_ret (d:=D.v (.bool false)) (ps:=[]) kR trivial ?_
  unfold rightB
  have h9:(decide (l.length>40)||decide (x.start < -549755813888)||decide (x.start>549755813888)||decide (x.ages.length>20))=true:=by
    simp only [Bool.or_eq_true,decide_eq_true_eq]
    omega
  rw [h9]
  rfl
 ·try simp only [boolS] at hz0
  refine PW.skip ?_
  show PW _ _ _ _ _
  refine PW.seq ?_
  refine PW.sr [1,5] 1 trivial ?_
  refine PW.block ?_
  refine PW.lp (α := Nat) (fun i=>{ tab:=[⟨1,[],sl' 18 Said.d l⟩,⟨5,[],I (i:Int)⟩],mem:=[Obj.var 35 [D.v (.bool x.on),I x.start,sl' 1 (fun x=>[I x]) x.ages]] }) (fun i=>i≤l.length∧∀ k,k<i→longB (l.getD k default)=false) (fun i=>l.length-i) [1,5] 1 (0) ?_ ?_
  ·exact ⟨Nat.zero_le _,fun k hk=>absurd hk (Nat.not_lt_zero _)⟩
  rintro i hinv
  show PW _ _ _ _ _
  refine PW.seq ?_
  refine PW.sr [1,5,28] 1 trivial ?_
  refine PW.cd (decide ((i:Int)<(l.length:Int))) (fun hz1 => ?_) (fun hz1 => ?_)
  ·try simp only [boolS] at hz1
   refine PW.skip ?_
   show PW _ _ _ _ _
   refine PW.seq ?_
   refine PW.block ?_
   refine PW.sr [1,5,57] 1 (p:=(0≤(i:Int)∧(i:Int)<(l.length:Int))∧(((decide ((((l.getD i default).b).length:Int)>(100:Int)))=false∧True→0≤(i:Int)∧(i:Int)<(l.length:Int)))∧((((decide ((((l.getD i default).b).length:Int)>(100:Int)))||(decide (((((l.getD i default).f).ages).length:Int)>(20:Int))))=false∧True→0≤(i:Int)∧(i:Int)<(l.length:Int)))) nD ?_
   refine PW.cd (((decide ((((l.getD i default).b).length:Int)>(100:Int)))||(decide (((((l.getD i default).f).ages).length:Int)>(20:Int))))||(decide (((((l.getD i default).f).body).length:Int)>(100:Int)))) (fun hz2 => ?_) (fun hz2 => ?_)
   ·try simp only [boolS] at hz2
    refine PW.sr [4] 1 trivial ?_
    refine PW.ret ?_
    refine retQ_ret (d:=D.v (.bool false)) (ps:=[]) kR trivial ?_
    unfold rightB
    rw [any_at (p:=longB) (l:=l) (i:=i) oM (by unfold longB; simp only [Bool.or_eq_true,decide_eq_true_eq]; omega)]
    simp
   ·try simp only [boolS] at hz2
    refine PW.skip ?_
    show PW _ _ _ _ _
    refine PW.rr [1,5] 1 trivial ?_
    refine BackR.of (s1:={ tab:=[⟨1,[],sl' 18 Said.d l⟩,⟨5,[],I (IntKind.i64.wrap ((i:Int)+1))⟩],mem:=[Obj.var 35 [D.v (.bool x.on),I x.start,sl' 1 (fun x=>[I x]) x.ages]] }) (i+1) kR kR ?_ ?_ ?_
    ·rw [wrapM i oM]
     exact Rem.refl _
    ·refine ⟨by omega,?_⟩
     intro k hk
     by_cases hki:k=i
     ·subst hki
      unfold longB
      simp only [Bool.or_eq_false_iff,decide_eq_false_iff_not]
      omega
     ·exact hinv.2 k oM
    ·exact nD
  ·try simp only [boolS] at hz1
   refine PW.exit ?_
   show PW _ _ _ _ _
   refine PW.sr [4] 1 trivial ?_
   refine PW.ret ?_
   refine retQ_ret (d:=D.v (.bool true)) (ps:=[]) kR trivial ?_
   unfold rightB
   have h9:(decide (l.length>40)||decide (x.start < -549755813888)||decide (x.start>549755813888)||decide (x.ages.length>20))=false:=by
     simp only [Bool.or_eq_false_iff,decide_eq_false_iff_not]
     omega
   rw [any_no (fun k hk=>hinv.2 k oM),h9]
   rfl
end Go.Proofs.YtnjoklfclnkklaaGreatDoor.Pl
