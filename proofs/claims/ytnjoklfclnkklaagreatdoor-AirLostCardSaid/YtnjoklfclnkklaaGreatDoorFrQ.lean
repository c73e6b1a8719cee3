/- What the document's own Encode returns: the bytes. -/
import Derived.Test.YtnjoklfclnkklaaGreatDoorDpC
import Derived.Test.YtnjoklfclnkklaaGreatDoorSmA
import Derived.Test.YtnjoklfclnkklaaGreatDoorSmOpen
import Derived.RegionTactic
import Derived.ChangeAlike
import Derived.Deep.QuietTactic
import Derived.BigQuiet
import Derived.Deep.Draws
import Derived.Deep.RegionWith
import Derived.Test.YtnjoklfclnkklaaGreatDoorRdOne
import Derived.Test.YtnjoklfclnkklaaGreatDoorFrNum
import Derived.Test.YtnjoklfclnkklaaGreatDoorFrAlive
import Derived.Test.YtnjoklfclnkklaaGreatDoorWr
import Derived.Test.YtnjoklfclnkklaaGreatDoorPlTwelve
namespace Go.Proofs.YtnjoklfclnkklaaGreatDoor.Dp
open Go.RowKit Go.Proofs.YtnjoklfclnkklaaGreatDoor.Sm
set_option maxHeartbeats 1000000
set_option linter.unusedVariables false
theorem PC.arg {P:Program} {G:List (Nat×List D)} {f:FuncId} {ds:List D} {R:D→Prop} (k:Nat) (d':D) {d0:D} (hk:ds[k]? = some d0) (hd:∀ w ok v,RepC w ok d0 v→RepC w ok d' v) (h:PC P G f (ds.set k d') R):PC P G f ds R:=fun κ w vs h1 h2 h3 h4=>h κ w vs h1 h2 (by rw [List.length_set]; exact h3) fun j d v e1 e2=>by
 have hlt:k<ds.length:=(List.getElem?_eq_some_iff.1 hk).1
 by_cases hj:k=j
 ·subst hj
  rw [List.getElem?_set_self hlt] at e1
  injection e1 with e1
  subst e1
  exact hd _ _ _ (h4 k d0 v hk e2)
 ·rw [List.getElem?_set_ne hj] at e1
  exact h4 j d v e1 e2
theorem PC.argnil {P:Program} {G:List (Nat×List D)} {f:FuncId} {ds cs:List D} {R:D→Prop} (k i z:Nat) (g:Nat→List D) (hk:ds[k]? = some (.r cs)) (hi:cs[i]? = some (.v (.slice none 0 0))) (h:PC P G f (ds.set k (.r (cs.set i (.s 0 z g)))) R):PC P G f ds R :=
 PC.arg k _ hk (fun w ok v hv=>hv.renil hi) h
theorem PC.argnil1 {P:Program} {G:List (Nat×List D)} {f:FuncId} {ds:List D} {R:D→Prop} (k z:Nat) (g:Nat→List D) (hk:ds[k]? = some (.v (.slice none 0 0))) (h:PC P G f (ds.set k (.s 0 z g)) R):PC P G f ds R :=
 PC.arg k _ hk (fun w ok v hv=>by cases hv; exact .s0 z g none 0 (fun _=>rfl) (Nat.zero_le _)) h
end Go.Proofs.YtnjoklfclnkklaaGreatDoor.Dp
namespace Go.Proofs.YtnjoklfclnkklaaGreatDoor.Sm
open Go.ChangeShapes Go.WideShapes Go.ChangeAt Go.RowKit
set_option maxHeartbeats 400000
theorem copyR_calls (a:Option Addr) (n c:Nat) (l:List UInt8) (w:World) (hr:Row8 w w.heap.size a n c l) (hn:n≤1000000000) :
  Calls Tryz.prog 73 #[.slice a n c] w fun e w'=>RetMade w 5 l e w':=by
 obtain ⟨i0,hi0,hz0,hz1,hz2⟩:=info_parts byte_info
 have HR:=hid hr
 clear hr
 go_enter Tryz.func73,Tryz.ntmps73
 go_wp2_with (at_builtin; refine wpList_append_row _ rfl _ _ _ rfl w.heap.size 5 i0 _ Tryz.underlying23 hi0 hz0 hz1 hz2 rfl (.slice none 0 0) [] rfl (World.ownsRow_nil _ _ _ _) _ a n c l rfl HR.out (by simp; omega) (Nat.le_refl _) ?_; intro v1 w1 hown hgrow hlt)
 go_ret
 exact ⟨_,rfl,hown,(Below.refl _ _).grown hgrow (Nat.le_refl _) hlt⟩
theorem sealR_calls (a:Option Addr) (n c:Nat) (l:List UInt8) (w:World) (hr:Row8 w w.heap.size a n c l) (hn:n≤1000000) :
  Calls Tryz.prog 45 #[.slice a n c] w fun e w'=>RetMade w 5 (sealB l) e w':=by
 obtain ⟨i0,hi0,hz0,hz1,hz2⟩:=info_parts byte_info
 have HR:=hid hr
 clear hr
 go_enter Tryz.func45,Tryz.ntmps45
 go_wp2_with (first|(go_at_call 72; refine (ofR_calls a n c l _ _ HR.out).mono ?_; rintro e w' ⟨rfl,rfl⟩)|(go_at_call 73; refine (copyR_calls a n c l _ HR.out oM).mono ?_; rintro e w2 ⟨v2,rfl,hown2,hb2⟩)|(at_builtin; refine stop ?_))
 unfold Stop
 refine wpList_append_row _ rfl _ _ _ rfl w.heap.size 5 i0 _ Tryz.underlying23 hi0 hz0 hz1 hz2 rfl v2 l rfl (hown2.alloc _) _ _ 4 4 (tail4 (of l)) rfl (Row8.lit w2 _ _ _ 4 rfl (by decide) (bytes_of (of l)).symm) (by have:=HR.out.len; omega) (by have:=hb2.size; simp; omega) ?_
 intro v3 w3 hown3 hgrow3 hlt3
 go_wp2
 go_ret
 exact ⟨_,rfl,hown3,(hb2.alloc hb2.size _).grown hgrow3 (by have:=hb2.size; simp; omega) hlt3⟩
end Go.Proofs.YtnjoklfclnkklaaGreatDoor.Sm
namespace Go.Proofs.YtnjoklfclnkklaaGreatDoor.Pl
open Go.RowKit Go.Proofs.YtnjoklfclnkklaaGreatDoor.Sm Go.Proofs.YtnjoklfclnkklaaGreatDoor.Dp
open Go.Proofs.YtnjoklfclnkklaaGreatDoor.Wr
open Go.Proofs.YtnjoklfclnkklaaGreatDoor.Fr (runP runP_ok runP_error numP offP Par)
set_option maxHeartbeats 4000000
set_option maxRecDepth 100000
set_option linter.unusedVariables false
set_option linter.unusedSimpArgs false
structure FieldP (Q:Par Int) (l:List UInt8) (at_ k:Nat) (lo hi N:Int):Prop where
 short:l.length<at_+k→Q l at_ = .error (2,at_)
 bad:at_+k≤l.length→¬(lo≤N∧N≤hi)→Q l at_ = .error (6,at_)
 ok:at_+k≤l.length→(lo≤N∧N≤hi)→Q l at_ = .ok (N,at_+k)
section
variable {l:List UInt8} {at_ k:Nat} {bad:Bool} {e p e' p':Int} {z:Bool} {st:Except (Int×Nat) Nat}
end
end Go.Proofs.YtnjoklfclnkklaaGreatDoor.Pl
namespace Go.Proofs.YtnjoklfclnkklaaGreatDoor.Fr
open Go.RowKit Go.Proofs.YtnjoklfclnkklaaGreatDoor.Sm Go.Proofs.YtnjoklfclnkklaaGreatDoor.Wr Go.Proofs.YtnjoklfclnkklaaGreatDoor.Dp
set_option maxHeartbeats 4000000
set_option maxRecDepth 100000
set_option linter.unusedVariables false
set_option linter.unusedSimpArgs false
def AgD (A:D) (l:List Int):Prop:=A=sl' 1 (fun x=>[I x]) l∨(A = .v (.slice none 0 0)∧l=[])
def ByD (A:D) (l:List UInt8):Prop:=A=bytesD l∨(A = .v (.slice none 0 0)∧l=[])
structure End (x:List UInt8) (f:Frame) (s:Except (Int×Nat) Nat):Prop where
 run:(runP frameP (bare 0 0 0) x (.ok 0)).2=s
 val:∀ pos,s = .ok pos→(runP frameP (bare 0 0 0) x (.ok 0)).1=f
section
variable {x:List UInt8} {f:Frame} {s:Except (Int×Nat) Nat} {at_:Nat} {bad:Bool} {e p:Int} {A B:D}
end
end Go.Proofs.YtnjoklfclnkklaaGreatDoor.Fr
namespace Go.Proofs.YtnjoklfclnkklaaGreatDoor.Fr
open Go.RowKit Go.Proofs.YtnjoklfclnkklaaGreatDoor.Sm Go.Proofs.YtnjoklfclnkklaaGreatDoor.Wr Go.Proofs.YtnjoklfclnkklaaGreatDoor.Dp
set_option maxHeartbeats 1000000
set_option maxRecDepth 100000
set_option linter.unusedVariables false
theorem wf_of {x:List UInt8} {f:Frame} (h:readX x = .ok f):Wf f∧∀ d ∈ f.ages, -9223372036854775808≤d∧d≤9223372036854775807:=by
 obtain ⟨⟨hk,hp,hn⟩,hs,ha,hq,r1,r2,r3,r4,r5,r6,r7,r8⟩:=may_iff.1 (read_back h).1
 constructor
 ·have hseq : -9223372036854775808≤f.seq∧f.seq≤9223372036854775807:=by
   by_cases h5:f.kind=5
   ·have:=hq h5; omega
   ·have e:=congrArg Frame.seq hs
    have:(spare f).seq=0:=by
     unfold spare
     repeat' split
     all_goals first|rfl|(exfalso; omega)
    omega
  unfold Wf Is64
  omega
 ·by_cases h24:f.kind=2∨f.kind=4
  ·have:=ha h24
   intro d hd
   unfold agesOk at this
   simp only [Bool.and_eq_true,decide_eq_true_eq,List.all_eq_true] at this
   have:=this.2 d hd
   omega
  ·have e:=congrArg Frame.ages hs
   have:(spare f).ages=[]:=by
    unfold spare
    repeat' split
    all_goals first|rfl|(exfalso; omega)
   intro d hd
   rw [e,this] at hd
   cases hd
theorem wf_fr (x:List UInt8):Wf (frOf (readX x))∧∀ d ∈ (frOf (readX x)).ages, -9223372036854775808≤d∧d≤9223372036854775807:=by
 cases h:readX x with
 | ok f=>exact wf_of h
 | error z=>exact ⟨by unfold Wf Is64 frOf bare; dsimp only; omega,fun d hd=>by cases hd⟩
section
variable {w:World} {ok:Nat→Prop} {B:Nat} {D1:D} {v:Value}
theorem by_row {l:List UInt8} (hB:ByD D1 l) (h:RepC w ok D1 v) (hok:∀ g,ok g→g<B):∃ a n c,v = .slice a n c∧Row8 w B a n c l:=by
 rcases hB with rfl|⟨rfl,rfl⟩
 ·obtain ⟨a,c,rfl,hr⟩:=rep_bytes h hok
  exact ⟨_,_,_,rfl,hr⟩
 ·obtain rfl:=repC_v h
  exact ⟨_,_,_,rfl,Row8.nil⟩
theorem ints_row {n:Nat} {f:Nat→List D} {l:List Int} (h:RepC w ok (.s n 1 f) v) (hn:n=l.length) (hf:∀ i,i<n→f i=[I (l.getD i default)]) (hB:∀ g,ok g→g<B):∃ a c,v = .slice a n c∧RowC w B a n c 1 (cellsI l):=by
 cases h with
 | s0 z f a c ha hc=>exact ⟨a,c,rfl,by rw [cellsI_length]; omega,Nat.zero_le _,hc,ha,fun h=>absurd h oM⟩
 | @s n z f b off c vals hb hn' hc hz hv hd =>
  refine ⟨some ⟨b,off,none⟩,c,rfl,RowC.mk (by rw [cellsI_length]; omega) hn' hc (fun h=>nomatch h) fun _=>⟨b,off,rfl,hB b hb,fun i u hi => ?_⟩⟩
  rw [cellsI_get] at hi
  obtain ⟨d,hi0,rfl⟩:=Option.map_eq_some_iff.1 hi
  have hi':i<n:=by rw [hn]; exact (List.getElem?_eq_some_iff.1 hi0).1
  have h1:=hv i 0 hi' oM
  rw [Nat.mul_one,Nat.add_zero] at h1
  rw [h1,repC_v (hd i 0 (.v (.int .i64 d)) hi' (by rw [hf i hi',List.getD_eq_getElem?_getD,hi0]; rfl))]
theorem ag_row {l:List Int} (hA:AgD D1 l) (h:RepC w ok D1 v) (hok:∀ g,ok g→g<B) (hw:∀ d ∈ l, -9223372036854775808≤d∧d≤9223372036854775807):∃ a n c,v = .slice a n c∧RowI w B a n c l:=by
 rcases hA with rfl|⟨rfl,rfl⟩
 ·obtain ⟨a,c,rfl,hr⟩:=ints_row h rfl (fun _ _=>rfl) hok
  exact ⟨_,_,_,rfl,hr,hw⟩
 ·obtain rfl:=repC_v h
  exact ⟨_,_,_,rfl,RowI.nil⟩
end
end Go.Proofs.YtnjoklfclnkklaaGreatDoor.Fr
namespace Go.Proofs.YtnjoklfclnkklaaGreatDoor.Fr
open Go.RowKit Go.Proofs.YtnjoklfclnkklaaGreatDoor.Sm Go.Proofs.YtnjoklfclnkklaaGreatDoor.Wr Go.Proofs.YtnjoklfclnkklaaGreatDoor.Dp
set_option maxHeartbeats 4000000
set_option maxRecDepth 100000
set_option linter.unusedVariables false
set_option linter.unusedSimpArgs false
def RdE (res:Except (Int×Nat) Frame) (d:D):Prop:=∃ A B,AgD A (frOf res).ages∧ByD B (frOf res).body∧d = .t [.r (frC (frOf res) A B),I (noOf (errOf res)),I (atOf (errOf res):Nat)]
theorem rep_ag {w:World} {ok:Nat→Prop} {A:D} {l:List Int} {v:Value} (h:AgD A l) (hr:RepC w ok A v):RepC w ok (sl' 1 (fun x=>[I x]) l) v:=by
 rcases h with rfl|⟨rfl,rfl⟩
 ·exact hr
 ·obtain rfl:=repC_v hr
  exact .s0 _ _ none 0 (fun _=>rfl) (Nat.zero_le _)
theorem rep_by {w:World} {ok:Nat→Prop} {A:D} {l:List UInt8} {v:Value} (h:ByD A l) (hr:RepC w ok A v):RepC w ok (bytesD l) v:=by
 rcases h with rfl|⟨rfl,rfl⟩
 ·exact hr
 ·obtain rfl:=repC_v hr
  exact .s0 _ _ none 0 (fun _=>rfl) (Nat.zero_le _)
theorem rep_frD {w:World} {ok:Nat→Prop} {f:Frame} {A B:D} {v:Value} (hA:AgD A f.ages) (hB:ByD B f.body) (h:RepC w ok (.r (frC f A B)) v):RepC w ok (.r (frD f)) v:=by
 cases h with
 | @r _ us hl hd =>
  refine .r hl fun j d v h1 h2 => ?_
  by_cases h9:j=9
  ·subst h9
   cases h1
   exact rep_ag hA (hd 9 _ _ rfl h2)
  ·by_cases h13:j=13
   ·subst h13
    cases h1
    exact rep_by hB (hd 13 _ _ rfl h2)
   ·refine hd j d v ?_ h2
    match j,h1 with
    | 0,h1=>exact h1
    | 1,h1=>exact h1
    | 2,h1=>exact h1
    | 3,h1=>exact h1
    | 4,h1=>exact h1
    | 5,h1=>exact h1
    | 6,h1=>exact h1
    | 7,h1=>exact h1
    | 8,h1=>exact h1
    | 9,h1=>exact absurd rfl h9
    | 10,h1=>exact h1
    | 11,h1=>exact h1
    | 12,h1=>exact h1
    | 13,h1=>exact absurd rfl h13
    | j+14,h1=>exact absurd h1 (by simp [frD,frC])
theorem PC.frame {f:FuncId} {ds:List D} {res:Except (Int×Nat) Frame} (h:PC Tryz.prog [] f ds (RdE res)):PC Tryz.prog [] f ds (· = D.t [D.r (frD (frOf res)),I (noOf (errOf res)),I (atOf (errOf res):Nat)]):=by
 intro κ w vs h1 h2 h3 h4
 refine Calls.mono (h κ w vs h1 h2 h3 h4) ?_
 rintro e w' ⟨v,d,he,⟨A,B,hA,hB,rfl⟩,hr,hb⟩
 refine ⟨v,_,he,rfl,?_,hb⟩
 cases hr with
 | @t _ us hl hd =>
  refine .t hl fun j d v k1 k2 => ?_
  match j,k1 with
  | 0,k1 =>
   cases k1
   exact rep_frD hA hB (hd 0 _ _ rfl k2)
  | 1,k1=>exact hd 1 _ _ k1 k2
  | 2,k1=>exact hd 2 _ _ k1 k2
  | j+3,k1=>exact absurd k1 (by simp)
theorem wf_dec (x:List UInt8):Wf (frOf (decX x))∧∀ d ∈ (frOf (decX x)).ages, -9223372036854775808≤d∧d≤9223372036854775807:=by
 have hb:Wf (bare 0 0 0)∧∀ d ∈ (bare 0 0 0).ages, -9223372036854775808≤d∧d≤9223372036854775807:=⟨by unfold Wf Is64 bare; dsimp only; omega,fun d hd=>by cases hd⟩
 unfold decX
 split
 ·exact hb
 ·split
  ·exact wf_fr _
  ·exact hb
theorem frv_of {w':World} {ok:Nat→Prop} {f:Frame} {v:Value} (hf:Wf f∧∀ d ∈ f.ages, -9223372036854775808≤d∧d≤9223372036854775807) (hok:∀ g,ok g→g<w'.heap.size) (h:RepC w' ok (.r (frD f)) v):∃ cs:List Value,v = .agg cs.toArray∧FrV w' w'.heap.size (.agg cs.toArray) f:=by
 cases h with
 | @r _ us hl2 hd2 =>
  match us,hl2 with
  | [u0,u1,u2,u3,u4,u5,u6,u7,u8,u9,u10,u11,u12,u13],_ =>
   obtain rfl:=repC_v (hd2 0 _ _ rfl rfl)
   obtain rfl:=repC_v (hd2 1 _ _ rfl rfl)
   obtain rfl:=repC_v (hd2 2 _ _ rfl rfl)
   obtain rfl:=repC_v (hd2 3 _ _ rfl rfl)
   obtain rfl:=repC_v (hd2 4 _ _ rfl rfl)
   obtain rfl:=repC_v (hd2 5 _ _ rfl rfl)
   obtain rfl:=repC_v (hd2 6 _ _ rfl rfl)
   obtain rfl:=repC_v (hd2 7 _ _ rfl rfl)
   obtain rfl:=repC_v (hd2 8 _ _ rfl rfl)
   obtain ⟨a1,n1,c1,rfl,hr1⟩:=ag_row (B:=w'.heap.size) (.inl rfl) (hd2 9 _ _ rfl rfl) hok hf.2
   obtain rfl:=repC_v (hd2 10 _ _ rfl rfl)
   obtain rfl:=repC_v (hd2 11 _ _ rfl rfl)
   obtain rfl:=repC_v (hd2 12 _ _ rfl rfl)
   obtain ⟨a2,n2,c2,rfl,hr2⟩:=by_row (B:=w'.heap.size) (.inl rfl) (hd2 13 _ _ rfl rfl) hok
   exact ⟨_,rfl,⟨a1,n1,c1,a2,n2,c2,rfl,hr1,hr2,hf.1⟩⟩
end Go.Proofs.YtnjoklfclnkklaaGreatDoor.Fr
namespace Go.Proofs.YtnjoklfclnkklaaGreatDoor.Fr
open Go.ChangeShapes Go.WideShapes Go.ChangeAt Go.RowKit Go.Proofs.YtnjoklfclnkklaaGreatDoor.Sm Go.Proofs.YtnjoklfclnkklaaGreatDoor.Wr
set_option maxHeartbeats 4000000
set_option maxRecDepth 100000
set_option linter.unusedVariables false
theorem plainL_be {n:Int} (k:Nat) (hk:1≤k∧k≤7) (h0:0≤n) (h1:n<256^k):plainL n k=be n.toNat k:=by
 have hb:plainB n k=true:=by unfold plainB; exact decide_eq_true ⟨by omega,h0,by simpa using h1⟩
 unfold plainL
 rw [if_pos hb]
 rfl
theorem ages_be {l:List Int} (h:agesOk l=true):plainL l.length 1++agesL l=be l.length 1++agesB l:=by
 obtain ⟨⟨h1,h2⟩,h3⟩:=agesOk_iff.1 h
 rw [show plainL (l.length:Int) 1=be l.length 1 from plainL_be (n:=(l.length:Int)) 1 oM oM oM]
 congr 1
 unfold agesL agesB
 exact congrArg List.flatten (List.map_congr_left fun x hx=>plainL_be 1 oM (h3 x hx).1 (by have:=(h3 x hx).2; omega))
theorem encL_1 {f:Frame} (hm:mayB f=true) (hk:f.kind=1):((((([]:List UInt8)++plainL f.kind 1)++plainL f.part 1)++plainL f.node 1)++plainL f.wait 2)=enc f:=by
 obtain ⟨⟨g1,g2,g3⟩,g4,g5,g6,g7⟩:=may_iff.1 hm
 unfold enc tailL
 rw [show plainL f.kind 1=be (f.kind).toNat 1 from plainL_be 1 oM oM oM]
 rw [show plainL f.part 1=be (f.part).toNat 1 from plainL_be 1 oM oM oM]
 rw [show plainL f.node 1=be (f.node).toNat 1 from plainL_be 1 oM oM oM]
 rw [show plainL f.wait 2=be (f.wait).toNat 2 from plainL_be 2 oM oM oM]
 simp [hk]
theorem encL_2 {f:Frame} (hm:mayB f=true) (hk:f.kind=2):((((((([]:List UInt8)++plainL f.kind 1)++plainL f.part 1)++plainL f.node 1)++plainL f.cycle 6)++plainL f.mask 2)++(plainL f.ages.length 1++agesL f.ages))=enc f:=by
 obtain ⟨⟨g1,g2,g3⟩,g4,g5,g6,g7⟩:=may_iff.1 hm
 unfold enc tailL
 rw [show plainL f.kind 1=be (f.kind).toNat 1 from plainL_be 1 oM oM oM]
 rw [show plainL f.part 1=be (f.part).toNat 1 from plainL_be 1 oM oM oM]
 rw [show plainL f.node 1=be (f.node).toNat 1 from plainL_be 1 oM oM oM]
 rw [show plainL f.cycle 6=be (f.cycle).toNat 6 from plainL_be 6 oM oM oM]
 rw [show plainL f.mask 2=be (f.mask).toNat 2 from plainL_be 2 oM oM oM]
 rw [ages_be (g5 (.inl hk))]
 simp [hk]
theorem encL_3 {f:Frame} (hm:mayB f=true) (hk:f.kind=3):(((((((([]:List UInt8)++plainL f.kind 1)++plainL f.part 1)++plainL f.node 1)++plainL f.link 1)++plainL (if f.flag=true then (1:Int) else 0) 1)++plainL f.cycle 6)++signedL f.offset 6)=enc f:=by
 obtain ⟨⟨g1,g2,g3⟩,g4,g5,g6,g7⟩:=may_iff.1 hm
 unfold enc tailL
 rw [show plainL f.kind 1=be (f.kind).toNat 1 from plainL_be 1 oM oM oM]
 rw [show plainL f.part 1=be (f.part).toNat 1 from plainL_be 1 oM oM oM]
 rw [show plainL f.node 1=be (f.node).toNat 1 from plainL_be 1 oM oM oM]
 rw [show plainL f.link 1=be (f.link).toNat 1 from plainL_be 1 oM oM oM]
 rw [show plainL (if f.flag=true then (1:Int) else 0) 1=be f.flag.toNat 1 by cases f.flag <;> rfl]
 rw [show plainL f.cycle 6=be (f.cycle).toNat 6 from plainL_be 6 oM oM oM]
 simp [hk]
theorem encL_4 {f:Frame} (hm:mayB f=true) (hk:f.kind=4):(((((([]:List UInt8)++plainL f.kind 1)++plainL f.part 1)++plainL f.node 1)++plainL f.link 1)++(plainL f.ages.length 1++agesL f.ages))=enc f:=by
 obtain ⟨⟨g1,g2,g3⟩,g4,g5,g6,g7⟩:=may_iff.1 hm
 unfold enc tailL
 rw [show plainL f.kind 1=be (f.kind).toNat 1 from plainL_be 1 oM oM oM]
 rw [show plainL f.part 1=be (f.part).toNat 1 from plainL_be 1 oM oM oM]
 rw [show plainL f.node 1=be (f.node).toNat 1 from plainL_be 1 oM oM oM]
 rw [show plainL f.link 1=be (f.link).toNat 1 from plainL_be 1 oM oM oM]
 rw [ages_be (g5 (.inr hk))]
 simp [hk]
theorem encL_5 {f:Frame} {n':Nat} (hm:mayB f=true) (hla:f.body.length=n') (hk:f.kind=5):(((((((((([]:List UInt8)++plainL f.kind 1)++plainL f.part 1)++plainL f.node 1)++plainL f.link 1)++plainL f.frm 1)++plainL f.to 1)++plainL f.seq 4)++plainL (n':Int) 1)++f.body)=enc f:=by
 obtain ⟨⟨g1,g2,g3⟩,g4,g5,g6,g7⟩:=may_iff.1 hm
 unfold enc tailL
 rw [show plainL f.kind 1=be (f.kind).toNat 1 from plainL_be 1 oM oM oM]
 rw [show plainL f.part 1=be (f.part).toNat 1 from plainL_be 1 oM oM oM]
 rw [show plainL f.node 1=be (f.node).toNat 1 from plainL_be 1 oM oM oM]
 rw [show plainL f.link 1=be (f.link).toNat 1 from plainL_be 1 oM oM oM]
 rw [show plainL f.frm 1=be (f.frm).toNat 1 from plainL_be 1 oM oM oM]
 rw [show plainL f.to 1=be (f.to).toNat 1 from plainL_be 1 oM oM oM]
 rw [show plainL f.seq 4=be (f.seq).toNat 4 from plainL_be 4 oM oM oM]
 rw [show plainL (n':Int) 1=be ((n':Int)).toNat 1 from plainL_be 1 oM oM oM]
 simp [hk,hla]
end Go.Proofs.YtnjoklfclnkklaaGreatDoor.Fr
