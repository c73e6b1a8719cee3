/- Chapter 11: lists of what is said, and frames, as arguments of a law. -/
import Derived.Test.YtdomlccfjnkbjaaGreatDoorAiFive
import Derived.Test.YtdomlccfjnkbjaaGreatDoorRdFour
import Derived.Test.YtdomlccfjnkbjaaGreatDoorLsArg
import Derived.Test.YtdomlccfjnkbjaaGreatDoorFrAlive
namespace Go.Proofs.YtdomlccfjnkbjaaGreatDoor.Pl
open Go.RowKit Go.Proofs.YtdomlccfjnkbjaaGreatDoor.Sm Go.Proofs.YtdomlccfjnkbjaaGreatDoor.Dp
open Go.Proofs.YtdomlccfjnkbjaaGreatDoor.Fr (bare frD frC decX errOf frOf noOf atOf WfA wfA_dec bytesOf mayB)
set_option maxHeartbeats 4000000
set_option maxRecDepth 100000
set_option linter.unusedVariables false
set_option linter.unusedSimpArgs false
theorem same_self (f:Frame):decide (f=f)=true:=by simp
theorem drumlineref10_SameHeard_pc (xs:List Heard) (hl:xs.length<1000000) (hW:∀ k,k<xs.length→WfA (xs.getD k default).frame):PC Tryz.prog [] 15 [sl' 16 Heard.d xs,sl' 16 Heard.d xs] (· = D.v (.bool true)):=by
 refine PC.of (N:=55) Tryz.func15 rfl rfl (Nat.le_of_ble_eq_true rfl) ?_
 refine PW.a [0,1] 0 (PW.q [0,1,10] 0 (PW.cd ((xs.length:Int) != (xs.length:Int)) ?_ ?_)) <;> intro hz0 <;> try simp only [boolS] at hz0
 ·refine PW.t [4] 0 (rq (D.v (.bool false)) ?_)
  exact absurd trivial hz0
 ·refine PW.k (PW.q [0,1,5] 0 (PW.block (PW.lp (α := Nat) (fun i=>{ tab:=[⟨0,[],sl' 16 Heard.d xs⟩,⟨1,[],sl' 16 Heard.d xs⟩,⟨5,[],I (i:Int)⟩],mem:=[] }) (fun i=>i≤xs.length) (fun i=>xs.length-i) [0,1,5] 0 (0) ?_ ?_)))
  ·exact Nat.zero_le _
  rintro i hinv
  show PW _ _ _ _ _
  refine PW.q [0,1,5,14] 0 (PW.cd (decide ((i:Int)<(xs.length:Int))) ?_ ?_) <;> intro hz1 <;> try simp only [boolS] at hz1
  ·refine PW.k (PW.seq (PW.block (PW.seq (PW.open [] kR (PO.tk [0,1,2,3,4,5,6,7,8,9,10,11,12,13,14,15,16,17,18,19,20,21,22,23,24,25,26,27,28,29,30,31,32,33,34] 38 [0,1,5,41,46,51] 3 (p:=(0≤(i:Int)∧(i:Int)<(xs.length:Int))∧(0≤(i:Int)∧(i:Int)<(xs.length:Int))∧(((((xs.getD i default).slot) != ((xs.getD i default).slot))=false∧True→0≤(i:Int)∧(i:Int)<(xs.length:Int)))∧(((((xs.getD i default).slot) != ((xs.getD i default).slot))=false∧True→0≤(i:Int)∧(i:Int)<(xs.length:Int)))∧((((((xs.getD i default).slot) != ((xs.getD i default).slot))||(((xs.getD i default).at_) != ((xs.getD i default).at_)))=false∧True→0≤(i:Int)∧(i:Int)<(xs.length:Int)))∧((((((xs.getD i default).slot) != ((xs.getD i default).slot))||(((xs.getD i default).at_) != ((xs.getD i default).at_)))=false∧True→0≤(i:Int)∧(i:Int)<(xs.length:Int)))) nD (fun _ _ h=>h) (PO.one (n:=2) 35 kR ?_))))))
   refine PO1.gc _ (ds0:=[D.r [I (((xs.getD i default).frame).kind),I (((xs.getD i default).frame).part),I (((xs.getD i default).frame).node),I (((xs.getD i default).frame).wait),I (((xs.getD i default).frame).mask),I (((xs.getD i default).frame).link),D.v (.bool (((xs.getD i default).frame).flag)),I (((xs.getD i default).frame).cycle),I (((xs.getD i default).frame).offset),sl' 1 (fun x=>[I x]) (((xs.getD i default).frame).ages),I (((xs.getD i default).frame).frm),I (((xs.getD i default).frame).to),I (((xs.getD i default).frame).seq),bytesD (((xs.getD i default).frame).body)],D.r [I (((xs.getD i default).frame).kind),I (((xs.getD i default).frame).part),I (((xs.getD i default).frame).node),I (((xs.getD i default).frame).wait),I (((xs.getD i default).frame).mask),I (((xs.getD i default).frame).link),D.v (.bool (((xs.getD i default).frame).flag)),I (((xs.getD i default).frame).cycle),I (((xs.getD i default).frame).offset),sl' 1 (fun x=>[I x]) (((xs.getD i default).frame).ages),I (((xs.getD i default).frame).frm),I (((xs.getD i default).frame).to),I (((xs.getD i default).frame).seq),bytesD (((xs.getD i default).frame).body)]]) (d:=D.v (.bool true)) (A:=[(41,false)]) (fun _=>(Fr.sameR_pc ((xs.getD i default).frame) ((xs.getD i default).frame) (hW _ oM) (hW _ oM)).eq (by rw [same_self])) ?_ rfl
   refine PO.a [36,37] 2 [0,1,5,54] 0 (PO.done kR ?_)
   show PW _ _ _ _ _
   refine PW.cd (((((xs.getD i default).slot) != ((xs.getD i default).slot))||(((xs.getD i default).at_) != ((xs.getD i default).at_)))||false) ?_ ?_ <;> intro hz2 <;> try simp only [boolS] at hz2
   ·refine PW.t [4] 0 (rq (D.v (.bool false)) ?_)
    simp at hz2
   ·refine PW.k (PW.b [0,1,5] 0 ?_)
    refine BackR.of (s1:={ tab:=[⟨0,[],sl' 16 Heard.d xs⟩,⟨1,[],sl' 16 Heard.d xs⟩,⟨5,[],I (IntKind.i64.wrap ((i:Int)+1))⟩],mem:=[] }) (i+1) kR kR ?_ ?_ ?_
    ·rw [wrap1 i oM]
     exact Rem.refl _
    ·omega
    ·exact nD
  ·refine PW.e (PW.t [4] 0 (rq (D.v (.bool true)) ?_))
   rfl
theorem heardN_wf {c:Config} {part:Int} {x:Guard} {ppm:Int} {says:List Say} {lost:List Int} (n:Nat):∀ h ∈ heardN c part x ppm says lost n,WfA h.frame:=by
 induction n with
 | zero=>exact fun h hh=>by cases hh
 | succ n ih =>
  unfold heardN
  split
  ·exact ih
  ·intro h hh
   rcases List.mem_append.1 hh with hh|hh
   ·exact ih h hh
   ·rw [List.mem_singleton.1 hh]
    exact wfA_dec _
theorem heardOf_wf (c:Config) (part:Int) (x:Guard) (ppm:Int) (says:List Say) (lost:List Int):∀ k,k<(heardOf c part x ppm says lost).length→WfA ((heardOf c part x ppm says lost).getD k default).frame:=fun k hk=>by
 refine heardN_wf (c:=c) (part:=part) (x:=x) (ppm:=ppm) (says:=says) (lost:=lost) (slotsOf c part).length _ ?_
 show _ ∈ heardOf c part x ppm says lost
 rw [List.getD_eq_getElem?_getD,List.getElem?_eq_getElem hk]
 exact List.getElem_mem hk
theorem heardOf_len (c:Config) (part:Int) (x:Guard) (ppm:Int) (says:List Say) (lost:List Int):(heardOf c part x ppm says lost).length≤48:=by
 have h1:=heardN_len (c:=c) (part:=part) (x:=x) (ppm:=ppm) (says:=says) (lost:=lost) (slotsOf c part).length
 have h2:=slotsOf_len c part
 unfold heardOf
 omega
theorem heard_coarse {P:Program} {G:List (Nat×List D)} {f:FuncId} {ds:List D} {xs:List Heard} {m:Int} (h:PC P G f ds (fun d=>d=D.t [sl' 16 Heard.d xs,I m]∨(d=D.t [D.v (.slice none 0 0),I m]∧xs=[]))):PC P G f ds (· = D.t [sl' 16 Heard.d xs,I m]):=h.coarse fun d hd=>by
 rcases hd with rfl|⟨rfl,rfl⟩
 ·exact ⟨_,rfl,fun _ _ _ h=>h⟩
 ·refine ⟨_,rfl,fun w ok v hv => ?_⟩
  cases hv with
  | t hl hd =>
   refine .t hl fun j d v e1 e2 => ?_
   match j,e1 with
   | 0,e1 =>
    cases e1
    exact (hd 0 _ _ rfl e2).nil_s
   | 1,e1=>exact hd 1 _ _ e1 e2
   | j+2,e1=>exact absurd e1 (by simp)
def addI (a b:Int):Int:=if b>0∧a>IntKind.i64.wrap (9223372036854775807-b) then 9223372036854775807 else if b<0∧a<IntKind.i64.wrap ((-9223372036854775808)-b) then -9223372036854775808 else IntKind.i64.wrap (a+b)
theorem addI_pc (a b:Int):PC Tryz.prog [] 37 [I a,I b] (· = I (addI a b)):=by
 refine PC.of (N:=24) Tryz.func37 rfl rfl (Nat.le_of_ble_eq_true rfl) ?_
 refine PW.a [0,1] 0 (PW.q [0,1,12] 0 (PW.cd ((decide (b>(0:Int)))&&(decide (a>(IntKind.i64.wrap (9223372036854775807-b))))) ?_ ?_)) <;> intro hz0 <;> try simp only [boolS] at hz0
 ·refine PW.t [4] 0 (rq (I 9223372036854775807) ?_)
  rw [addI,if_pos hz0]
 ·refine PW.k (PW.q [0,1,20] 0 (PW.cd ((decide (b<(0:Int)))&&(decide (a<(IntKind.i64.wrap ((-9223372036854775808)-b))))) ?_ ?_)) <;> intro hz1 <;> try simp only [boolS] at hz1
  ·refine PW.t [4] 0 (rq (I (-9223372036854775808)) ?_)
   rw [addI,if_neg oM,if_pos hz1]
  ·refine PW.k (PW.t [4] 0 (rq (I (IntKind.i64.wrap (a+b))) ?_))
   rw [addI,if_neg oM,if_neg oM]
structure Said where
 f:Frame
 b:List UInt8
 slot:Int
 late:Int
 fit:Bool
deriving Inhabited
def Said.d (s:Said):List D:=frD s.f++[bytesD s.b,I s.slot,I s.late,D.v (.bool s.fit)]
def longB (s:Said):Bool:=decide (s.b.length>100)||decide (s.f.ages.length>20)||decide (s.f.body.length>100)
def rightB (x:Guard) (l:List Said):Bool := !(decide (l.length>40)||decide (x.start < -549755813888)||decide (x.start>549755813888)||decide (x.ages.length>20)) && !(l.any longB)
def longS (s:Say):Bool:=decide (s.bytes.length>120)
def smallS (l:List Say):Bool := !decide (l.length>60) && !(l.any longS)
theorem any_at {α : Type} [Inhabited α] {p : α → Bool} {l:List α} {i:Nat} (hi:i<l.length) (h:p (l.getD i default)=true):l.any p=true :=
 List.any_eq_true.2 ⟨l.getD i default,by rw [List.getD_eq_getElem?_getD,List.getElem?_eq_getElem hi]; exact List.getElem_mem _,h⟩
theorem any_no {α : Type} [Inhabited α] {p : α → Bool} {l:List α} (h:∀ k,k<l.length→p (l.getD k default)=false):l.any p=false:=by
 rw [List.any_eq_false]
 intro x hx
 obtain ⟨i,hi,rfl⟩:=List.mem_iff_getElem.1 hx
 have:=h i hi
 rw [List.getD_eq_getElem?_getD,List.getElem?_eq_getElem hi] at this
 exact Bool.eq_false_iff.1 this
theorem drumlinelaw11_small_pc (l:List Say) (hl:l.length≤maxLen):PC Tryz.prog [] 12 [sl' 3 Say.d l] (· = D.v (.bool (smallS l))):=by
 refine PC.of (N:=20) Tryz.func12 rfl rfl (Nat.le_of_ble_eq_true rfl) ?_
 refine PW.a [0] 0 (PW.q [0,6] 0 (PW.cd (decide ((l.length:Int)>(60:Int))) ?_ ?_)) <;> intro hz0 <;> try simp only [boolS] at hz0
 ·refine PW.t [2] 0 (rq (D.v (.bool false)) ?_)
  unfold smallS
  rw [decide_eq_true oM]
  rfl
 ·refine PW.k (PW.q [0,3] 0 (PW.block (PW.lp (α := Nat) (fun i=>{ tab:=[⟨0,[],sl' 3 Say.d l⟩,⟨3,[],I (i:Int)⟩],mem:=[] }) (fun i=>i≤l.length∧∀ k,k<i→longS (l.getD k default)=false) (fun i=>l.length-i) [0,3] 0 (0) ?_ ?_)))
  ·exact ⟨Nat.zero_le _,fun k hk=>absurd hk (Nat.not_lt_zero _)⟩
  rintro i hinv
  show PW _ _ _ _ _
  refine PW.q [0,3,10] 0 (PW.cd (decide ((i:Int)<(l.length:Int))) ?_ ?_) <;> intro hz1 <;> try simp only [boolS] at hz1
  ·refine PW.k (PW.seq (PW.block (PW.sr [0,3,19] 0 (p:=(0≤(i:Int)∧(i:Int)<(l.length:Int))) oM (PW.cd (decide ((((l.getD i default).bytes).length:Int)>(120:Int))) ?_ ?_)))) <;> intro hz2 <;> try simp only [boolS] at hz2
   ·refine PW.t [2] 0 (rq (D.v (.bool false)) ?_)
    unfold smallS
    rw [any_at (p:=longS) (l:=l) (i:=i) oM (decide_eq_true oM)]
    simp
   ·refine PW.k (PW.b [0,3] 0 ?_)
    refine BackR.of (s1:={ tab:=[⟨0,[],sl' 3 Say.d l⟩,⟨3,[],I (IntKind.i64.wrap ((i:Int)+1))⟩],mem:=[] }) (i+1) kR kR ?_ ?_ ?_
    ·rw [wrapM i oM]
     exact Rem.refl _
    ·refine ⟨by omega,?_⟩
     intro k hk
     by_cases hki:k=i
     ·subst hki
      exact decide_eq_false oM
     ·exact hinv.2 k oM
    ·exact nD
  ·refine PW.e (PW.t [2] 0 (rq (D.v (.bool true)) ?_))
   unfold smallS
   rw [any_no (fun k hk=>hinv.2 k oM),decide_eq_false oM]
   rfl
theorem drumlinelaw11_right_pc (x:Guard) (l:List Said) (hl:l.length≤maxLen):PC Tryz.prog [] 16 [D.r (Guard.d x),sl' 18 Said.d l] (· = D.v (.bool (rightB x l))):=by
 refine PC.of (N:=58) Tryz.func16 rfl rfl (Nat.le_of_ble_eq_true rfl) ?_
 refine PW.a [1,2] 1 (PW.q [1,24] 1 (PW.cd ((((decide ((l.length:Int)>(40:Int)))||(decide (x.start<((-549755813888):Int))))||(decide (x.start>(549755813888:Int))))||(decide ((x.ages.length:Int)>(20:Int)))) ?_ ?_)) <;> intro hz0 <;> try simp only [boolS] at hz0
 ·refine PW.t [4] 1 (rq (D.v (.bool false)) ?_)
  unfold rightB
  have h9:(decide (l.length>40)||decide (x.start < -549755813888)||decide (x.start>549755813888)||decide (x.ages.length>20))=true:=by
    simp only [Bool.or_eq_true,decide_eq_true_eq]
    omega
  rw [h9]
  rfl
 ·refine PW.k (PW.q [1,5] 1 (PW.block (PW.lp (α := Nat) (fun i=>{ tab:=[⟨1,[],sl' 18 Said.d l⟩,⟨5,[],I (i:Int)⟩],mem:=[Obj.var 35 [D.v (.bool x.on),I x.start,sl' 1 (fun x=>[I x]) x.ages]] }) (fun i=>i≤l.length∧∀ k,k<i→longB (l.getD k default)=false) (fun i=>l.length-i) [1,5] 1 (0) ?_ ?_)))
  ·exact ⟨Nat.zero_le _,fun k hk=>absurd hk (Nat.not_lt_zero _)⟩
  rintro i hinv
  show PW _ _ _ _ _
  refine PW.q [1,5,28] 1 (PW.cd (decide ((i:Int)<(l.length:Int))) ?_ ?_) <;> intro hz1 <;> try simp only [boolS] at hz1
  ·refine PW.k (PW.seq (PW.block (PW.sr [1,5,57] 1 (p:=(0≤(i:Int)∧(i:Int)<(l.length:Int))∧(((decide ((((l.getD i default).b).length:Int)>(100:Int)))=false∧True→0≤(i:Int)∧(i:Int)<(l.length:Int)))∧((((decide ((((l.getD i default).b).length:Int)>(100:Int)))||(decide (((((l.getD i default).f).ages).length:Int)>(20:Int))))=false∧True→0≤(i:Int)∧(i:Int)<(l.length:Int)))) nD (PW.cd (((decide ((((l.getD i default).b).length:Int)>(100:Int)))||(decide (((((l.getD i default).f).ages).length:Int)>(20:Int))))||(decide (((((l.getD i default).f).body).length:Int)>(100:Int)))) ?_ ?_)))) <;> intro hz2 <;> try simp only [boolS] at hz2
   ·refine PW.t [4] 1 (rq (D.v (.bool false)) ?_)
    unfold rightB
    rw [any_at (p:=longB) (l:=l) (i:=i) oM (by unfold longB; simp only [Bool.or_eq_true,decide_eq_true_eq]; omega)]
    simp
   ·refine PW.k (PW.b [1,5] 1 ?_)
    refine BackR.of (s1:={ tab:=[⟨1,[],sl' 18 Said.d l⟩,⟨5,[],I (IntKind.i64.wrap ((i:Int)+1))⟩],mem:=[Obj.var 35 [D.v (.bool x.on),I x.start,sl' 1 (fun x=>[I x]) x.ages]] }) (i+1) kR kR ?_ ?_ ?_
    ·rw [wrapM i oM]
     exact Rem.refl _
    ·refine ⟨by omega,?_⟩
     intro k hk
     by_cases hki:k=i
     ·subst hki
      unfold longB
      simp only [Bool.or_eq_false_iff,decide_eq_false_iff_not]
      omega
     ·exact hinv.2 k oM
    ·exact nD
  ·refine PW.e (PW.t [4] 1 (rq (D.v (.bool true)) ?_))
   unfold rightB
   have h9:(decide (l.length>40)||decide (x.start < -549755813888)||decide (x.start>549755813888)||decide (x.ages.length>20))=false:=by
     simp only [Bool.or_eq_false_iff,decide_eq_false_iff_not]
     omega
   rw [any_no (fun k hk=>hinv.2 k oM),h9]
   rfl
section
variable {c:Config} {part:Int} {x:Guard} {ppm:Int} {says:List Say} {lost:List Int}
def below (n:Nat) (s:Say):Bool:=decide (0≤s.slot)&&decide (s.slot<(n:Int))
end
section
variable {c:Config} {part:Int} {x:Guard} {ppm:Int} {says says':List Say} {lost lost':List Int}
end
end Go.Proofs.YtdomlccfjnkbjaaGreatDoor.Pl
namespace Go.Proofs.YtdomlccfjnkbjaaGreatDoor.Pl
open Go.ChangeShapes Go.WideShapes Go.ChangeAt Go.RowKit Go.Proofs.YtdomlccfjnkbjaaGreatDoor.Sm Go.Proofs.YtdomlccfjnkbjaaGreatDoor.Dp
open Go.Proofs.YtdomlccfjnkbjaaGreatDoor.Fr (bare frD frC decX errOf frOf noOf atOf WfA wfA_dec bytesOf mayB)
set_option maxHeartbeats 4000000
set_option maxRecDepth 100000
set_option linter.unusedVariables false
set_option linter.unusedSimpArgs false
def shSay:List Sh:=[.int .i64,.sl [.int .u8],.int .i64]
theorem say_of (ds:List D) (h:Fits shSay ds):∃ s:Say,((Say.d s).length=shSay.length∧(Say.d s).all D.one=true∧∀ (j:Nat) (d':D),(Say.d s)[j]? = some d'→∃ d,ds[j]? = some d∧∀ (w:World) (ok:Nat→Prop) (v:Value),RepC w ok d v→RepC w ok d' v)∧True:=by
 have hl:=h.len
 match ds,hl with
 | [d0,d1,d2],_ =>
  obtain ⟨n0,rfl,_⟩:=Fit.i64 (h.fit 0 _ d0 rfl rfl)
  obtain ⟨b,_,hb⟩:=Fit.bytes (h.fit 1 _ d1 rfl rfl)
  obtain ⟨n2,rfl,_⟩:=Fit.i64 (h.fit 2 _ d2 rfl rfl)
  refine ⟨⟨n0,b,n2⟩,⟨rfl,rfl,fun j d' hj => ?_⟩,trivial⟩
  match j,hj with
  | 0,hj=>cases hj; exact ⟨_,rfl,fun _ _ _ h=>h⟩
  | 1,hj=>cases hj; exact ⟨_,rfl,hb⟩
  | 2,hj=>cases hj; exact ⟨_,rfl,fun _ _ _ h=>h⟩
  | j+3,hj=>exact absurd hj (by simp [Say.d])
def shFrame:List Sh:=[.int .i64,.int .i64,.int .i64,.int .i64,.int .i64,.int .i64,.bool,.int .i64,.int .i64,.sl [.int .i64],.int .i64,.int .i64,.int .i64,.sl [.int .u8]]
def shSaid:List Sh:=shFrame++[.sl [.int .u8],.int .i64,.int .i64,.bool]
theorem said_of (ds:List D) (h:Fits shSaid ds):∃ s:Said,((Said.d s).length=shSaid.length∧(Said.d s).all D.one=true∧∀ (j:Nat) (d':D),(Said.d s)[j]? = some d'→∃ d,ds[j]? = some d∧∀ (w:World) (ok:Nat→Prop) (v:Value),RepC w ok d v→RepC w ok d' v)∧WfA s.f:=by
 have hl:=h.len
 match ds,hl with
 | [d0,d1,d2,d3,d4,d5,d6,d7,d8,d9,d10,d11,d12,d13,d14,d15,d16,d17],_ =>
  obtain ⟨n0,rfl,w0⟩:=Fit.i64 (h.fit 0 _ d0 rfl rfl)
  obtain ⟨n1,rfl,w1⟩:=Fit.i64 (h.fit 1 _ d1 rfl rfl)
  obtain ⟨n2,rfl,w2⟩:=Fit.i64 (h.fit 2 _ d2 rfl rfl)
  obtain ⟨n3,rfl,w3⟩:=Fit.i64 (h.fit 3 _ d3 rfl rfl)
  obtain ⟨n4,rfl,w4⟩:=Fit.i64 (h.fit 4 _ d4 rfl rfl)
  obtain ⟨n5,rfl,w5⟩:=Fit.i64 (h.fit 5 _ d5 rfl rfl)
  obtain ⟨n6,rfl⟩:=Fit.b (h.fit 6 _ d6 rfl rfl)
  obtain ⟨n7,rfl,w7⟩:=Fit.i64 (h.fit 7 _ d7 rfl rfl)
  obtain ⟨n8,rfl,w8⟩:=Fit.i64 (h.fit 8 _ d8 rfl rfl)
  obtain ⟨n9,w9,_,r9⟩:=Fit.intsL (h.fit 9 _ d9 rfl rfl)
  obtain ⟨n10,rfl,w10⟩:=Fit.i64 (h.fit 10 _ d10 rfl rfl)
  obtain ⟨n11,rfl,w11⟩:=Fit.i64 (h.fit 11 _ d11 rfl rfl)
  obtain ⟨n12,rfl,w12⟩:=Fit.i64 (h.fit 12 _ d12 rfl rfl)
  obtain ⟨n13,_,r13⟩:=Fit.bytes (h.fit 13 _ d13 rfl rfl)
  obtain ⟨n14,_,r14⟩:=Fit.bytes (h.fit 14 _ d14 rfl rfl)
  obtain ⟨n15,rfl,w15⟩:=Fit.i64 (h.fit 15 _ d15 rfl rfl)
  obtain ⟨n16,rfl,w16⟩:=Fit.i64 (h.fit 16 _ d16 rfl rfl)
  obtain ⟨n17,rfl⟩:=Fit.b (h.fit 17 _ d17 rfl rfl)
  refine ⟨⟨⟨n0,n1,n2,n3,n4,n5,n6,n7,n8,n9,n10,n11,n12,n13⟩,n14,n15,n16,n17⟩,⟨rfl,rfl,fun j d' hj => ?_⟩,⟨w0,w1,w2,w3,w4,w5,w7,w8,w10,w11,w12⟩,w9⟩
  match j,hj with
  | 0,hj=>cases hj; exact ⟨_,rfl,fun _ _ _ h=>h⟩
  | 1,hj=>cases hj; exact ⟨_,rfl,fun _ _ _ h=>h⟩
  | 2,hj=>cases hj; exact ⟨_,rfl,fun _ _ _ h=>h⟩
  | 3,hj=>cases hj; exact ⟨_,rfl,fun _ _ _ h=>h⟩
  | 4,hj=>cases hj; exact ⟨_,rfl,fun _ _ _ h=>h⟩
  | 5,hj=>cases hj; exact ⟨_,rfl,fun _ _ _ h=>h⟩
  | 6,hj=>cases hj; exact ⟨_,rfl,fun _ _ _ h=>h⟩
  | 7,hj=>cases hj; exact ⟨_,rfl,fun _ _ _ h=>h⟩
  | 8,hj=>cases hj; exact ⟨_,rfl,fun _ _ _ h=>h⟩
  | 9,hj=>cases hj; exact ⟨_,rfl,r9⟩
  | 10,hj=>cases hj; exact ⟨_,rfl,fun _ _ _ h=>h⟩
  | 11,hj=>cases hj; exact ⟨_,rfl,fun _ _ _ h=>h⟩
  | 12,hj=>cases hj; exact ⟨_,rfl,fun _ _ _ h=>h⟩
  | 13,hj=>cases hj; exact ⟨_,rfl,r13⟩
  | 14,hj=>cases hj; exact ⟨_,rfl,r14⟩
  | 15,hj=>cases hj; exact ⟨_,rfl,fun _ _ _ h=>h⟩
  | 16,hj=>cases hj; exact ⟨_,rfl,fun _ _ _ h=>h⟩
  | 17,hj=>cases hj; exact ⟨_,rfl,fun _ _ _ h=>h⟩
  | j+18,hj=>exact absurd hj (by simp [Said.d,frD,frC])
section
variable {H:Type} {enc:TypeId×Value→H} {W:World} {a:Option Addr} {len cap:Nat} {d:DataW H} {p:List MemPlace}
def SaysV (w:World) (a:Option Addr) (len cap:Nat) (l:List Say):Prop:=RepC w (fun g=>g<w.heap.size) (sl' 3 Say.d l) (.slice a len cap)∧l.length≤maxLen
def SaidsV (w:World) (a:Option Addr) (len cap:Nat) (l:List Said):Prop:=RepC w (fun g=>g<w.heap.size) (sl' 18 Said.d l) (.slice a len cap)∧l.length≤maxLen∧∀ s ∈ l,WfA s.f
theorem says_of_trod (h:DataW.Trod enc Tryz.prog W 0 (fun _=>true) true 36 (.slice a len cap) d p):∃ l,SaysV W a len cap l:=by
 obtain ⟨d0,h1,h2⟩:=slice_came (e:=shSay) kR h
 obtain ⟨l,_,h3,h4⟩:=Fit.listC (enc:=Say.d) (Ok:=fun _=>True) h1 say_of
 exact ⟨l,h4 _ _ _ h2,h3⟩
theorem saids_of_trod (h:DataW.Trod enc Tryz.prog W 0 (fun _=>true) true 43 (.slice a len cap) d p):∃ l,SaidsV W a len cap l:=by
 obtain ⟨d0,h1,h2⟩:=slice_came (e:=shSaid) kR h
 obtain ⟨l,h5,h3,h4⟩:=Fit.listC (enc:=Said.d) (Ok:=fun s=>WfA s.f) h1 said_of
 exact ⟨l,h4 _ _ _ h2,h3,h5⟩
end
end Go.Proofs.YtdomlccfjnkbjaaGreatDoor.Pl
