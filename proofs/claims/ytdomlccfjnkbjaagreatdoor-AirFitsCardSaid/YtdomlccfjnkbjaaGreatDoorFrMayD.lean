/- The document's own answer to: may a frame be? -/
import Derived.Test.YtdomlccfjnkbjaaGreatDoorFrAlive
import Derived.Test.YtdomlccfjnkbjaaGreatDoorSmA
import Derived.Test.YtdomlccfjnkbjaaGreatDoorFrQ
import Derived.Test.YtdomlccfjnkbjaaGreatDoorDpTake
import Derived.Test.YtdomlccfjnkbjaaGreatDoorLsArg
import Derived.Test.YtdomlccfjnkbjaaGreatDoorPlArg
import Derived.Test.YtdomlccfjnkbjaaGreatDoorPlTwelve
namespace Go.Proofs.YtdomlccfjnkbjaaGreatDoor.Fr
open Go.ChangeShapes Go.WideShapes Go.ChangeAt Go.RowKit Go.Proofs.YtdomlccfjnkbjaaGreatDoor.Sm Go.Proofs.YtdomlccfjnkbjaaGreatDoor.Wr
set_option maxHeartbeats 4000000
set_option maxRecDepth 100000
theorem intsEqR_calls (a:Option Addr) (n c:Nat) (a':Option Addr) (n' c':Nat) (l m:List Int) (B B':Nat) (w:World) (hr:RowI w B a n c l) (hr':RowI w B' a' n' c' m) :
  Calls Tryz.prog 65 #[.slice a n c,.slice a' n' c'] w fun e w'=>e = .returned (.bool (decide (l=m)))∧∃ q,w'=w.drewN q:=by
 have hn:=hr.row.small
 have hn':=hr'.row.small
 have HR:=hid hr
 have HR':=hid hr'
 have HN:=hid hr.len
 have HN':=hid hr'.len
 clear hr hr'
 by_cases hl:n=n'
 ·subst hl
  go_enter Tryz.func65,Tryz.ntmps65
  go_wp2
  go_loopw [5] (fun i wr=>∃ k q:Nat,k≤n∧i = .int .i64 k∧Hid (l.take k=m.take k)∧wr=w.drewN q) (fun i _=>n-(intOf i).toNat)
  case atStart=>exact ⟨0,0,by omega,rfl,rfl,rfl⟩
  case round =>
   obtain ⟨k,q,hk,rfl,HT,rfl⟩:=hrel
   by_cases hlt:k<n
   ·obtain ⟨b,off,d,rfl,_,hl1,hc,hd,hd'⟩:=(HR.out.drewN q).at_ hlt
    obtain ⟨b2,off2,d2,rfl,_,hl2,hc2,hd2,hd2'⟩:=(HR'.out.drewN q).at_ hlt
    have HL1:=hid hl1
    have HL2:=hid hl2
    clear hl1 hl2
    have HQ:Hid (∀ j,(w.drewN q).drewN j=w.drewN (q+j)):=fun j=>World.drewN_drewN _ _ _
    generalize w.drewN q=W at *
    by_cases hdd:d=d2
    ·subst hdd
     go_wp2
     go_quiet (fail)
     go_wp2
     go_roundw
     case rel =>
      refine ⟨k+1,_,by omega,by go_num,?_,HQ.out _⟩
      exact (show l.take (k+1)=m.take (k+1) by exact (show l.take (k+1)=m.take (k+1) by rw [List.take_add_one,List.take_add_one,HL1.out,HL2.out,HT.out]))
     case measure=>simp [intOf]; omega
    ·have hne:(d == d2)=false:=by simpa using hdd
     go_wp2
     go_quiet (fail)
     go_wp2
     go_ret
     refine ⟨?_,_,HQ.out _⟩
     have:¬ l=m:=by
      rintro rfl
      have:=HL1.out.symm.trans HL2.out
      injection this with this
      exact hdd this
     rw [decide_eq_false this]; rfl
   ·obtain rfl:k=n:=by omega
    go_wp2
    go_ret
    refine ⟨?_,_,rfl⟩
    have:l=m:=by
     have h:=HT.out
     rwa [List.take_of_length_le (by rw [HN.out]; omega),List.take_of_length_le (by rw [HN'.out]; omega)] at h
    rw [decide_eq_true this]; rfl
 ·have hne:((n:Int) == (n':Int))=false:=by simp; omega
  go_enter Tryz.func65,Tryz.ntmps65
  go_wp2
  go_ret
  refine ⟨?_,0,rfl⟩
  have:¬ l=m:=by
   rintro rfl
   exact hl (HN.out.symm.trans HN'.out)
  rw [decide_eq_false this]; rfl
theorem sameR_calls (v v':Value) (f g:Frame) (B B':Nat) (w:World) (hf:FrV w B v f) (hg:FrV w B' v' g) (hB:B≤w.heap.size) (hB':B'≤w.heap.size) :
  Calls Tryz.prog 35 #[v,v'] w fun e w'=>e = .returned (.bool (decide (f=g)))∧Below w.heap.size w w':=by
 obtain ⟨a,n,c,a',n',c',ev,ra,rb,hw⟩:=hf
 obtain ⟨x,m,d,x',m',d',ev',rx,ry,hw'⟩:=hg
 clear hw hw'
 obtain ⟨a0,a1,a2,a3,a4,a5,a6,a7,a8,a9,a10,a11,a12,a13⟩:=f
 obtain ⟨b0,b1,b2,b3,b4,b5,b6,b7,b8,b9,b10,b11,b12,b13⟩:=g
 have HV:=hid ev
 have HV':=hid ev'
 have HA:=hid ra
 have HB:=hid rb
 have HX:=hid rx
 have HY:=hid ry
 clear ev ev' ra rb rx ry
 obtain ⟨z,hz⟩:∃ z,decide ((⟨a0,a1,a2,a3,a4,a5,a6,a7,a8,a9,a10,a11,a12,a13⟩:Frame)=⟨b0,b1,b2,b3,b4,b5,b6,b7,b8,b9,b10,b11,b12,b13⟩)=z:=⟨_,rfl⟩
 rw [hz]
 have HZ:Hid (z=(a0 == b0&&a1 == b1&&a2 == b2&&a3 == b3&&a4 == b4&&a5 == b5&&a6 == b6&&a7 == b7&&a8 == b8&&decide (a9=b9)&&a10 == b10&&a11 == b11&&a12 == b12&&decide (a13=b13))):=by
  show z=_
  rw [← hz,Bool.eq_iff_iff]
  simp [and_assoc]
 clear hz
 go_enter Tryz.func35,Tryz.ntmps35
 go_step
 go_step
 go_step
 refine wpList_box_any rfl _ _ rfl _ HV.out ?_
 intro p1 W1 n1
 refine wpList_box_any rfl _ _ rfl _ HV'.out ?_
 intro p2 W2 n2
 have hb2:Below w.heap.size w W2:=n1.below.trans (n2.below.mono n1.below.size)
 have o1:Ob W2 p1 _ _:=n1.ob.below n2.below n1.ob.lt
 have o2:Ob W2 p2 _ _:=n2.ob
 have HA:=hid (HA.out.below (hb2.mono hB))
 have HB:=hid (HB.out.below (hb2.mono hB))
 have HX:=hid (HX.out.below (hb2.mono hB'))
 have HY:=hid (HY.out.below (hb2.mono hB'))
 have HB2:=hid hb2
 dsimp only at HA HB HX HY
 have O1:=hid o1
 have O2:=hid o2
 clear o1 o2 n1 n2 hb2 HV HV' hB hB'
 iterate 9 go_step
 refine letter 101 2 3 p1 p2 4 false ⟨rfl,rfl,rfl,rfl⟩ rfl ?_
 intro AA TA cA
 refine first_ .neq TA (by decide) (by decide) fieldAt0 (loads_one Tryz.underlying3 rfl) (x := .int .i64 a0) (y := .int .i64 b0) (O1.out.cell (i:=0) rfl) (O2.out.cell (i:=0) rfl) (z:=a0 != b0) (by simp [go_sem]) ?_
 intro A0 T0 c0
 refine or_link .neq T0 c0 (by decide) (by decide) (by decide) (by decide) rfl fieldAt1 (loads_one Tryz.underlying3 rfl) (x := .int .i64 a1) (y := .int .i64 b1) ((O1.out).cell (i:=1) rfl) ((O2.out).cell (i:=1) rfl) (z:=a1 != b1) (by simp [go_sem]) ?_
 intro A1 T1 c1
 refine or_link .neq T1 c1 (by decide) (by decide) (by decide) (by decide) rfl fieldAt2 (loads_one Tryz.underlying3 rfl) (x := .int .i64 a2) (y := .int .i64 b2) ((O1.out).cell (i:=2) rfl) ((O2.out).cell (i:=2) rfl) (z:=a2 != b2) (by simp [go_sem]) ?_
 intro A2 T2 c2
 refine or_link .neq T2 c2 (by decide) (by decide) (by decide) (by decide) rfl fieldAt3 (loads_one Tryz.underlying3 rfl) (x := .int .i64 a3) (y := .int .i64 b3) ((O1.out).cell (i:=3) rfl) ((O2.out).cell (i:=3) rfl) (z:=a3 != b3) (by simp [go_sem]) ?_
 intro A3 T3 c3
 refine or_link .neq T3 c3 (by decide) (by decide) (by decide) (by decide) rfl fieldAt4 (loads_one Tryz.underlying3 rfl) (x := .int .i64 a4) (y := .int .i64 b4) ((O1.out).cell (i:=4) rfl) ((O2.out).cell (i:=4) rfl) (z:=a4 != b4) (by simp [go_sem]) ?_
 intro A4 T4 c4
 refine or_link .neq T4 c4 (by decide) (by decide) (by decide) (by decide) rfl fieldAt5 (loads_one Tryz.underlying3 rfl) (x := .int .i64 a5) (y := .int .i64 b5) ((O1.out).cell (i:=5) rfl) ((O2.out).cell (i:=5) rfl) (z:=a5 != b5) (by simp [go_sem]) ?_
 intro A5 T5 c5
 refine or_link .neq T5 c5 (by decide) (by decide) (by decide) (by decide) rfl fieldAt6 (loads_one Tryz.underlying4 rfl) (x := .bool a6) (y := .bool b6) ((O1.out).cell (i:=6) rfl) ((O2.out).cell (i:=6) rfl) (z:=a6 != b6) (by cases a6 <;> cases b6 <;> simp [go_sem,Tryz.underlying4]) ?_
 intro A6 T6 c6
 iterate 3 go_step
 refine wp_cond_split (show A6.eval (.tmp 51)=_ from c6) (fun h => ?_) (fun h => ?_)
 ·obtain rfl:z=false:=by
   rw [HZ.out]
   clear HZ
   simp only [Bool.or_eq_true,bne_iff_ne,ne_eq] at h
   rcases h with (((((h|h)|h)|h)|h)|h)|h <;> simp [h]
  have hs:=sl_put_same (a:=A6) (d:=4) (v := .bool false) (by rw [T6.size]; decide)
  go_wp2
  (try simp only [Exit.inBlock,Exit.then])
  refine bodyPost_ret (results_tmp rfl _ _ _) ?_ ?_
  ·exact T6.dfr
  exact ⟨congrArg Ending.returned hs,HB2.out⟩
 iterate 5 go_step
 refine first_ .eql T6 (by decide) (by decide) fieldAt7 (loads_one Tryz.underlying2 rfl) (x := .int .i64 a7) (y := .int .i64 b7) (O1.out.cell (i:=7) rfl) (O2.out.cell (i:=7) rfl) (z:=a7 == b7) (by simp [go_sem]) ?_
 intro A7 T7 c7
 refine and_link .eql T7 c7 (by decide) (by decide) (by decide) (by decide) rfl fieldAt8 (loads_one Tryz.underlying2 rfl) (x := .int .i64 a8) (y := .int .i64 b8) ((O1.out).cell (i:=8) rfl) ((O2.out).cell (i:=8) rfl) (z:=a8 == b8) (by simp [go_sem]) ?_
 intro A8 T8 c8
 refine call_link (R:=fun w'=>∃ q,w'=W2.drewN q) T8 c8 (by decide) (by decide) (by decide) (by decide) rfl fieldAt9 (loads_one Tryz.underlying22 rfl) (O1.out.cell (i:=9) rfl) (O2.out.cell (i:=9) rfl) (fun _ _=>by kernel_rfl) (intsEqR_calls _ _ _ _ _ _ a9 b9 _ _ _ HA.out HX.out) ⟨0,rfl⟩ ?_
 rintro A9 _ ⟨q,rfl⟩ T9 c9
 refine and_link .eql T9 c9 (by decide) (by decide) (by decide) (by decide) rfl fieldAt10 (loads_one Tryz.underlying3 rfl) (x := .int .i64 a10) (y := .int .i64 b10) ((O1.out.drewN q).cell (i:=10) rfl) ((O2.out.drewN q).cell (i:=10) rfl) (z:=a10 == b10) (by simp [go_sem]) ?_
 intro A10 T10 c10
 refine and_link .eql T10 c10 (by decide) (by decide) (by decide) (by decide) rfl fieldAt11 (loads_one Tryz.underlying3 rfl) (x := .int .i64 a11) (y := .int .i64 b11) ((O1.out.drewN q).cell (i:=11) rfl) ((O2.out.drewN q).cell (i:=11) rfl) (z:=a11 == b11) (by simp [go_sem]) ?_
 intro A11 T11 c11
 refine and_link .eql T11 c11 (by decide) (by decide) (by decide) (by decide) rfl fieldAt12 (loads_one Tryz.underlying2 rfl) (x := .int .i64 a12) (y := .int .i64 b12) ((O1.out.drewN q).cell (i:=12) rfl) ((O2.out.drewN q).cell (i:=12) rfl) (z:=a12 == b12) (by simp [go_sem]) ?_
 intro A12 T12 c12
 have hv1:=conv_str (P:=Tryz.prog) (HB.out.drewN q) Tryz.underlying23 Tryz.underlying5 Tryz.underlying9
 have hv2:=conv_str (P:=Tryz.prog) (HY.out.drewN q) Tryz.underlying23 Tryz.underlying5 Tryz.underlying9
 have hq:=str_eq a13 b13
 refine str_link T12 c12 (by decide) (by decide) (by decide) (by decide) rfl fieldAt13 (loads_one Tryz.underlying23 rfl) ((O1.out.drewN q).cell (i:=13) rfl) ((O2.out.drewN q).cell (i:=13) rfl) hv1 hv2 (z:=decide (a13=b13)) (by simp [go_sem,hq]) ?_
 intro A13 T13 c13
 refine wpList_go (wanted_none rfl _) (show _=Result.ok (Next.value (sl A13 100)) _ from rfl) ?_
 have hz':z=(a7 == b7&&a8 == b8&&decide (a9=b9)&&a10 == b10&&a11 == b11&&a12 == b12&&decide (a13=b13)):=by
  rw [HZ.out]
  simp only [Bool.or_eq_false_iff,bne_eq_false_iff_eq] at h
  obtain ⟨⟨⟨⟨⟨⟨rfl,rfl⟩,rfl⟩,rfl⟩,rfl⟩,rfl⟩,rfl⟩:=h
  simp
 rw [c13,← hz']
 clear hz' h HZ
 have hs:=sl_put_same (a:=A13) (d:=4) (v := .bool z) (by rw [T13.size]; decide)
 go_wp2
 (try simp only [Exit.inBlock,Exit.then])
 refine bodyPost_ret (results_tmp rfl _ _ _) ?_ ?_
 ·exact T13.dfr
 exact ⟨congrArg Ending.returned hs,Sm.below_drewN HB2.out _⟩
end Go.Proofs.YtdomlccfjnkbjaaGreatDoor.Fr
namespace Go.Proofs.YtdomlccfjnkbjaaGreatDoor.Fr
open Go.ChangeShapes Go.WideShapes Go.ChangeAt Go.RowKit Go.Proofs.YtdomlccfjnkbjaaGreatDoor.Sm Go.Proofs.YtdomlccfjnkbjaaGreatDoor.Wr Go.Proofs.YtdomlccfjnkbjaaGreatDoor.Dp
set_option maxHeartbeats 4000000
set_option maxRecDepth 100000
set_option linter.unusedVariables false
set_option linter.unusedSimpArgs false
theorem row8_rep1 {w:World} {ok:Nat→Prop} {B n c:Nat} {a:Option Addr} {l:List UInt8} (h:Row8 w B a n c l) (hok:0<n→∀ b off,a=some ⟨b,off,none⟩→ok b):RepC w ok (bytesD l) (.slice a n c):=by
 obtain rfl:=h.len
 unfold bytesD sl'
 rcases Nat.eq_zero_or_pos l.length with h0|h0
 ·rw [h0]
  exact .s0 _ _ _ _ h.none_ h.cap
 ·obtain ⟨b,off,rfl,hb,hc⟩:=h.cells h0
  refine .s (fun i _ => .int .u8 ((l.getD i default).toNat:Int)) (hok h0 b off rfl) h.room h.cap (fun i _=>⟨rfl,rfl⟩) (fun i j hi hj => ?_) fun i j d hi hj => ?_
  ·obtain rfl:j=0:=by omega
   rw [Nat.mul_one,Nat.add_zero]
   exact hc i _ (by rw [List.getD_eq_getElem?_getD,List.getElem?_eq_getElem hi]; rfl)
  ·match j,hj with
   | 0,hj=>cases hj; exact .v _
theorem rowI_rep1 {w:World} {ok:Nat→Prop} {B n c:Nat} {a:Option Addr} {l:List Int} (h:RowI w B a n c l) (hok:0<n→∀ b off,a=some ⟨b,off,none⟩→ok b):RepC w ok (sl' 1 (fun x=>[I x]) l) (.slice a n c):=by
 have hlen:=h.len
 obtain ⟨⟨_,hroom,hcap,hnone,hcells⟩,_⟩:=h
 subst hlen
 unfold sl'
 rcases Nat.eq_zero_or_pos l.length with h0|h0
 ·rw [h0]
  exact .s0 _ _ _ _ hnone hcap
 ·obtain ⟨b,off,rfl,hb,hc⟩:=hcells h0
  refine .s (fun i _ => .int .i64 (l.getD i default)) (hok h0 b off rfl) hroom hcap (fun i _=>⟨rfl,rfl⟩) (fun i j hi hj => ?_) fun i j d hi hj => ?_
  ·obtain rfl:j=0:=by omega
   rw [Nat.mul_one,Nat.add_zero]
   exact hc i _ (by rw [cellsI_get,List.getElem?_eq_getElem hi,List.getD_eq_getElem?_getD,List.getElem?_eq_getElem hi]; rfl)
  ·match j,hj with
   | 0,hj=>cases hj; exact .v _
theorem frv_rep {w:World} {ok:Nat→Prop} {B:Nat} {v:Value} {f:Frame} (h:FrV w B v f) (hok:∀ b off,(∃ u,w.cell? ⟨b,off,none⟩=some u)→b<B→ok b):RepC w ok (.r (frD f)) v:=by
 obtain ⟨a,n,c,a',n',c',rfl,h1,h2,_⟩:=h
 have r1:RepC w ok (sl' 1 (fun x=>[I x]) f.ages) (.slice a n c):=rowI_rep1 h1 fun h0 b off ha=>by
  obtain ⟨b',off',d,ea,hb,_,hc,_⟩:=h1.at_ h0
  rw [ea] at ha
  injection ha with ha
  injection ha with e1 e2
  subst e1
  exact hok _ _ ⟨_,hc⟩ hb
 have r2:RepC w ok (bytesD f.body) (.slice a' n' c'):=row8_rep1 h2 fun h0 b off ha=>by
  obtain ⟨b',off',d,ea,hb,_,hc⟩:=h2.at_ h0
  rw [ea] at ha
  injection ha with ha
  injection ha with e1 e2
  subst e1
  exact hok _ _ ⟨_,hc⟩ hb
 refine .r rfl fun j d v e1 e2 => ?_
 match j,e1,e2 with
 | 0,e1,e2|1,e1,e2|2,e1,e2|3,e1,e2|4,e1,e2|5,e1,e2|6,e1,e2|7,e1,e2|8,e1,e2|10,e1,e2|11,e1,e2|12,e1,e2 =>
  cases e1
  cases e2
  exact .v _
 | 9,e1,e2 =>
  cases e1
  cases e2
  exact r1
 | 13,e1,e2 =>
  cases e1
  cases e2
  exact r2
 | j+14,e1,e2=>exact absurd e1 (by simp [frD,frC])
def WfA (f:Frame):Prop:=Wf f∧∀ d ∈ f.ages, -9223372036854775808≤d∧d≤9223372036854775807
theorem sameR_pc (f g:Frame) (hf:WfA f) (hg:WfA g):PC Tryz.prog [] 35 [D.r (frD f),D.r (frD g)] (· = D.v (.bool (decide (f=g)))):=by
 intro κ w vs hκ _ hl hd
 match vs,hl with
 | [u,v],_ =>
  obtain ⟨cs,rfl,h1⟩:=frv_of hf (w':=w) hκ (hd 0 _ _ rfl rfl)
  obtain ⟨cs',rfl,h2⟩:=frv_of hg (w':=w) hκ (hd 1 _ _ rfl rfl)
  refine (sameR_calls _ _ f g _ _ w h1 h2 (Nat.le_refl _) (Nat.le_refl _)).mono ?_
  rintro e w' ⟨rfl,hb⟩
  exact ⟨_,_,rfl,rfl,.v _,hb⟩
theorem wfA_spare {f:Frame} (h:WfA f):WfA (spare f):=by
 obtain ⟨⟨h1,h2,h3,h4,h5,h6,h7,h8,h9,h10,h11⟩,ha⟩:=h
 have z:Is64 0:=⟨by decide,by decide⟩
 unfold spare
 repeat' split
 all_goals refine ⟨⟨?_,?_,?_,?_,?_,?_,?_,?_,?_,?_,?_⟩,?_⟩ <;> first|assumption|exact z|exact fun d hd=>absurd hd List.not_mem_nil
end Go.Proofs.YtdomlccfjnkbjaaGreatDoor.Fr
namespace Go.Proofs.YtdomlccfjnkbjaaGreatDoor.Pl
open Go.RowKit Go.Proofs.YtdomlccfjnkbjaaGreatDoor.Sm Go.Proofs.YtdomlccfjnkbjaaGreatDoor.Dp
open Go.Proofs.YtdomlccfjnkbjaaGreatDoor.Fr (bare frD frC WfA)
set_option maxHeartbeats 4000000
set_option maxRecDepth 100000
set_option linter.unusedVariables false
set_option linter.unusedSimpArgs false
theorem plainR_pc (n k:Int):PC Tryz.prog [] 71 [I n,I k] (· = D.t [bytesD (Wr.plainL n k),.v (.bool (Wr.plainB n k))]):=by
 intro κ w vs hκ _ hl hd
 match vs,hl with
 | [u,v],_ =>
  have h1:=hd 0 _ _ rfl rfl
  have h2:=hd 1 _ _ rfl rfl
  cases h1
  cases h2
  refine (Wr.plainR_calls n k w).mono ?_
  rintro e w' ⟨v,rfl,hm⟩
  refine ⟨_,_,rfl,rfl,?_,hm.2⟩
  have hr:=made_rep hm
  refine .t rfl fun j d v e1 e2 => ?_
  match j,e1,e2 with
  | 0,e1,e2 =>
   cases e1
   cases e2
   exact hr.mono fun g hg=>⟨⟨.inr hg.1,hg.2⟩,rfl⟩
  | 1,e1,e2 =>
   cases e1
   cases e2
   exact .v _
  | j+2,e1,e2=>exact absurd e1 (by simp)
theorem put_row (l p:List UInt8):Obj.row 5 1 (l.length+p.length) (fun j=>if j<l.length then (fun j=>u8d (l.getD j default)) j else (fun i=>u8d (p.getD i default)) (j-l.length))=Obj.row 5 1 (l++p).length (fun j=>u8d ((l++p).getD j default)):=by
 rw [List.length_append]
 refine congrArg _ (funext fun j => ?_)
 by_cases h:j<l.length
 ·dsimp only
  rw [if_pos h,List.getD_eq_getElem?_getD,List.getD_eq_getElem?_getD,List.getElem?_append_left h]
 ·dsimp only
  rw [if_neg h,List.getD_eq_getElem?_getD,List.getD_eq_getElem?_getD,List.getElem?_append_right (Nat.le_of_not_lt h)]
theorem putR_pk (l:List UInt8) (n k:Int) (hl:l.length≤1000000) (hk:k≤7):PK Tryz.prog [] 41 [D.h 0 l.length,I n,I k] [Obj.row 5 1 l.length (fun j=>u8d (l.getD j default))] 0 (fun d m=>∃ n' ob',d = .h 0 n'∧m=[ob']∧ob'.shutB=true∧(∃ L:List UInt8,L=l++Wr.plainL n k∧L.length≤l.length+7∧n'=L.length∧ob'=Obj.row 5 1 L.length (fun j=>u8d (L.getD j default)))):=by
 refine PK.of (N:=18) Tryz.func41 rfl rfl (Nat.le_of_ble_eq_true rfl) 0 ?_
 have hp9:=Fr.plainL_le n k hk
 refine PW.a [0,1,2] 1 (PW.w 2 [0,10,11] 1 (PL.gc (A:=[]) (fun _=>plainR_pc n k) (PL.n 5 [0,7] 1 (PW.sr [6] 1 (p:=((l.length=l.length∧True)∧(l.length+(Wr.plainL n k).length)*1≤140737488355328∧l.length+(Wr.plainL n k).length≤9223372036854775807)) nD (PW.ret (retI_r (d:=D.h 0 (l.length+(Wr.plainL n k).length)) (ps:=[]) (mem:=[Obj.row 5 1 (l.length+(Wr.plainL n k).length) (fun j=>if j<l.length then (fun j=>u8d (l.getD j default)) j else (fun i=>u8d ((Wr.plainL n k).getD i default)) (j-l.length))]) trivial ?_))))))
 exact ⟨_,_,rfl,rfl,rfl,_,rfl,by rw [List.length_append]; omega,(List.length_append).symm,put_row _ _⟩
theorem putR_px (l:List UInt8) (n k:Int) (hl:l.length≤1000000) (hk:k≤7):PX Tryz.prog [] 41 [D.h 0 l.length,I n,I k] (Obj.row 5 1 l.length (fun j=>u8d (l.getD j default))) (fun n' ob'=>∃ L:List UInt8,L=l++Wr.plainL n k∧L.length≤l.length+7∧n'=L.length∧ob'=Obj.row 5 1 L.length (fun j=>u8d (L.getD j default))):=PX.of (putR_pk l n k hl hk)
theorem spareR_pc0 (f:Fr.Frame):PC Tryz.prog [] 36 [D.r (frD f)] (fun d=>∃ A B,Fr.AgD A (Fr.spare f).ages∧Fr.ByD B (Fr.spare f).body∧d=D.r (frC (Fr.spare f) A B)):=by
 refine PC.of (N:=69) Tryz.func36 rfl rfl (Nat.le_of_ble_eq_true rfl) ?_
 refine PW.a [1,2] 2 (PW.a [1,2,3] 3 (PW.q [1,2,3,12] 3 (PW.block (PW.a [1,2,3,12,13] 3 (PW.cd (f.kind == (1:Int)) ?_ ?_))))) <;> intro hz0 <;> try simp only [boolS] at hz0
 ·refine PW.b [2,3] 3 ?_
  show PW _ _ _ _ _
  refine PW.t [2] 3 (rq (D.r [I f.kind,I f.part,I f.node,I f.wait,I 0,I 0,D.v (.bool false),I 0,I 0,D.v (.slice none 0 0),I 0,I 0,I 0,D.v (.slice none 0 0)]) ?_)
  have hs:Fr.spare f={ bare f.kind f.part f.node with wait:=f.wait }:=by unfold Fr.spare; rw [if_pos oM]
  rw [hs]
  exact ⟨_,_,(.inr ⟨rfl,rfl⟩),(.inr ⟨rfl,rfl⟩),rfl⟩
 ·refine PW.a [1,2,3,12,18] 3 (PW.cd (f.kind == (2:Int)) ?_ ?_) <;> intro hz1 <;> try simp only [boolS] at hz1
  ·refine PW.a [1,2,3] 3 (PW.a [1,2,3] 3 (PW.b [2,3] 3 ?_))
   show PW _ _ _ _ _
   refine PW.t [2] 3 (rq (D.r [I f.kind,I f.part,I f.node,I 0,I f.mask,I 0,D.v (.bool false),I f.cycle,I 0,sl' 1 (fun x=>[I x]) f.ages,I 0,I 0,I 0,D.v (.slice none 0 0)]) ?_)
   have hs:Fr.spare f={ bare f.kind f.part f.node with cycle:=f.cycle,mask:=f.mask,ages:=f.ages }:=by unfold Fr.spare; rw [if_neg oM,if_pos oM]
   rw [hs]
   exact ⟨_,_,(.inl rfl),(.inr ⟨rfl,rfl⟩),rfl⟩
  ·refine PW.a [1,2,3,12,29] 3 (PW.cd (f.kind == (3:Int)) ?_ ?_) <;> intro hz2 <;> try simp only [boolS] at hz2
   ·refine PW.a [1,2,3] 3 (PW.a [1,2,3] 3 (PW.a [1,2,3] 3 (PW.b [2,3] 3 ?_)))
    show PW _ _ _ _ _
    refine PW.t [2] 3 (rq (D.r [I f.kind,I f.part,I f.node,I 0,I 0,I f.link,D.v (.bool f.flag),I f.cycle,I f.offset,D.v (.slice none 0 0),I 0,I 0,I 0,D.v (.slice none 0 0)]) ?_)
    have hs:Fr.spare f={ bare f.kind f.part f.node with link:=f.link,flag:=f.flag,cycle:=f.cycle,offset:=f.offset }:=by unfold Fr.spare; rw [if_neg oM,if_neg oM,if_pos oM]
    rw [hs]
    exact ⟨_,_,(.inr ⟨rfl,rfl⟩),(.inr ⟨rfl,rfl⟩),rfl⟩
   ·refine PW.a [1,2,3,12,43] 3 (PW.cd (f.kind == (4:Int)) ?_ ?_) <;> intro hz3 <;> try simp only [boolS] at hz3
    ·refine PW.a [1,2,3] 3 (PW.b [2,3] 3 ?_)
     show PW _ _ _ _ _
     refine PW.t [2] 3 (rq (D.r [I f.kind,I f.part,I f.node,I 0,I 0,I f.link,D.v (.bool false),I 0,I 0,sl' 1 (fun x=>[I x]) f.ages,I 0,I 0,I 0,D.v (.slice none 0 0)]) ?_)
     have hs:Fr.spare f={ bare f.kind f.part f.node with link:=f.link,ages:=f.ages }:=by unfold Fr.spare; rw [if_neg oM,if_neg oM,if_neg oM,if_pos oM]
     rw [hs]
     exact ⟨_,_,(.inl rfl),(.inr ⟨rfl,rfl⟩),rfl⟩
    ·refine PW.a [1,2,3,51] 3 (PW.cd (f.kind == (5:Int)) ?_ ?_) <;> intro hz4 <;> try simp only [boolS] at hz4
     ·refine PW.a [1,2,3] 3 (PW.a [1,2,3] 3 (PW.a [1,2,3] 3 (PW.a [1,2,3] 3 (PW.b [2,3] 3 ?_))))
      show PW _ _ _ _ _
      refine PW.t [2] 3 (rq (D.r [I f.kind,I f.part,I f.node,I 0,I 0,I f.link,D.v (.bool false),I 0,I 0,D.v (.slice none 0 0),I f.frm,I f.to,I f.seq,bytesD f.body]) ?_)
      have hs:Fr.spare f={ bare f.kind f.part f.node with link:=f.link,frm:=f.frm,to:=f.to,seq:=f.seq,body:=f.body }:=by unfold Fr.spare; rw [if_neg oM,if_neg oM,if_neg oM,if_neg oM,if_pos oM]
      rw [hs]
      exact ⟨_,_,(.inr ⟨rfl,rfl⟩),(.inl rfl),rfl⟩
     ·refine PW.k (PW.t [2] 3 (rq (D.r [I f.kind,I f.part,I f.node,I 0,I 0,I 0,D.v (.bool false),I 0,I 0,D.v (.slice none 0 0),I 0,I 0,I 0,D.v (.slice none 0 0)]) ?_))
      have hs:Fr.spare f=bare f.kind f.part f.node:=by unfold Fr.spare; rw [if_neg oM,if_neg oM,if_neg oM,if_neg oM,if_neg oM]
      rw [hs]
      exact ⟨_,_,(.inr ⟨rfl,rfl⟩),(.inr ⟨rfl,rfl⟩),rfl⟩
theorem spareR_pc (f:Fr.Frame):PC Tryz.prog [] 36 [D.r (frD f)] (· = D.r (frD (Fr.spare f))):=(spareR_pc0 f).coarse fun d ⟨A,B,h1,h2,h3⟩=>⟨_,rfl,fun w ok v hv=>by
 subst h3
 exact Fr.rep_frD h1 h2 hv⟩
theorem withinR_pc (n lo hi:Int):PC Tryz.prog [] 69 [I n,I lo,I hi] (· = D.v (.bool (decide (n≥lo)&&decide (n≤hi)))):=by
 refine PC.of (N:=15) Tryz.func69 rfl rfl (Nat.le_of_ble_eq_true rfl) ?_
 refine PW.a [0,1,2] 0 (PW.t [6] 0 (rq (D.v (.bool ((decide (n≥lo))&&(decide (n≤hi))))) ?_))
 rfl
theorem timeR_pc (n:Int):PC Tryz.prog [] 70 [I n] (· = D.v (.bool (decide (n ≥ -1099511627776)&&decide (n≤1099511627776)))):=by
 refine PC.of (N:=9) Tryz.func70 rfl rfl (Nat.le_of_ble_eq_true rfl) ?_
 refine PW.a [0] 0 (PW.t [2] 0 (rq (D.v (.bool ((decide (n≥((-1099511627776):Int)))&&(decide (n≤(1099511627776:Int)))))) ?_))
 rfl
theorem agesR_more {l:List Int} (h:∀ i,i<l.length→0≤l.getD i default∧l.getD i default≤201) (h1:1≤l.length) (h2:l.length≤6):Fr.agesOk l=true:=Fr.agesOk_iff.2 ⟨⟨h1,h2⟩,fun a ha=>by
 obtain ⟨i,hi,rfl⟩:=List.mem_iff_getElem.1 ha
 have:=h i hi
 rw [List.getD_eq_getElem?_getD,List.getElem?_eq_getElem hi] at this
 exact this⟩
theorem agesR_not {l:List Int} {i:Nat} (hi:i<l.length) (h:¬(0≤l.getD i default∧l.getD i default≤201)):Fr.agesOk l=false:=Bool.eq_false_iff.2 fun hg=>h (by
 have:=(Fr.agesOk_iff.1 hg).2 _ (List.getElem_mem hi)
 rw [List.getD_eq_getElem?_getD,List.getElem?_eq_getElem hi]
 exact this)
theorem agesR_pc (l:List Int):PC Tryz.prog [] 68 [sl' 1 (fun x=>[I x]) l] (· = D.v (.bool (Fr.agesOk l))):=by
 refine PC.of (N:=30) Tryz.func68 rfl rfl (Nat.le_of_ble_eq_true rfl) ?_
 refine PW.a [0] 0 (PW.q [0,11] 0 (PW.cd ((decide ((l.length:Int)<(1:Int)))||(decide ((l.length:Int)>(6:Int)))) ?_ ?_)) <;> intro hz0 <;> try simp only [boolS] at hz0
 ·refine PW.t [2] 0 (rq (D.v (.bool false)) ?_)
  rw [show Fr.agesOk l=false from Bool.eq_false_iff.2 fun hg=>by have:=(Fr.agesOk_iff.1 hg).1; omega]
 ·refine PW.k (PW.q [0,3] 0 (PW.block (PW.lp (α := Nat) (fun i=>{ tab:=[⟨0,[],sl' 1 (fun x=>[I x]) l⟩,⟨3,[],I (i:Int)⟩],mem:=[] }) (fun i=>i≤l.length∧∀ k,k<i→0≤l.getD k default∧l.getD k default≤201) (fun i=>l.length-i) [0,3] 0 (0) ?_ ?_)))
  ·exact ⟨Nat.zero_le _,fun k hk=>absurd hk (Nat.not_lt_zero _)⟩
  rintro i hinv
  show PW _ _ _ _ _
  refine PW.q [0,3,15] 0 (PW.cd (decide ((i:Int)<(l.length:Int))) ?_ ?_) <;> intro hz1 <;> try simp only [boolS] at hz1
  ·refine PW.k (PW.seq (PW.block (PW.sr [0,3,29] 0 (p:=(0≤(i:Int)∧(i:Int)<(l.length:Int))∧(((decide ((l.getD i default)<(0:Int)))=false∧True→0≤(i:Int)∧(i:Int)<(l.length:Int)))) nD (PW.cd ((decide ((l.getD i default)<(0:Int)))||(decide ((l.getD i default)>(201:Int)))) ?_ ?_)))) <;> intro hz2 <;> try simp only [boolS] at hz2
   ·refine PW.t [2] 0 (rq (D.v (.bool false)) ?_)
    rw [agesR_not (i:=i) oM oM]
   ·refine PW.k (PW.b [0,3] 0 ?_)
    refine BackR.of (s1:={ tab:=[⟨0,[],sl' 1 (fun x=>[I x]) l⟩,⟨3,[],I (IntKind.i64.wrap ((i:Int)+1))⟩],mem:=[] }) (i+1) kR kR ?_ ?_ ?_
    ·rw [show IntKind.i64.wrap ((i:Int)+1)=((i+1:Nat):Int) by rw [Ev.wrap_i64 oM oM]; omega]
     exact Rem.refl _
    ·refine ⟨by omega,fun k hk => ?_⟩
     by_cases hki:k=i
     ·subst hki
      omega
     ·exact hinv.2 k oM
    ·exact nD
  ·refine PW.e (PW.t [2] 0 (rq (D.v (.bool true)) ?_))
   rw [agesR_more (fun k hk=>hinv.2 k oM) oM oM]
theorem mayR_pc (f:Fr.Frame) (hf:WfA f):PC Tryz.prog [] 40 [D.r (frD f)] (· = D.v (.bool (Fr.mayB f))):=by
 refine PC.of (N:=127) Tryz.func40 rfl rfl (Nat.le_of_ble_eq_true rfl) ?_
 refine PW.a [1] 1 (PW.seq (PW.seq (PW.open [] kR ?_)))
 refine PO.a [0,1,2,3,4,5,6,7,8,9,10,11,12,13,14,15,16,17,18,19,20,21,22,23,24,25,26,27,28,29,30] 35 [1,31,32,33] 4 (PO.one (n:=3) 31 kR ?_)
 refine PO1.gc _ (A:=[(31,false)]) (fun _=>spareR_pc f) ?_ rfl
 refine PO.one (n:=2) 32 kR ?_
 refine PO1.gc _ (A:=[(31,false)]) (fun _=>Fr.sameR_pc f (Fr.spare f) hf (Fr.wfA_spare hf)) ?_ rfl
 refine PO.a [33,34] 2 [1,37] 0 (PO.done kR ?_)
 show PW _ _ _ _ _
 refine PW.cd (((((((decide (f.kind<(1:Int)))||(decide (f.kind>(5:Int))))||(decide (f.part<(0:Int))))||(decide (f.part≥(6:Int))))||(decide (f.node<(0:Int))))||(decide (f.node≥(12:Int))))||(!(decide (f=Fr.spare f)))) ?_ ?_ <;> intro hz0 <;> try simp only [boolS] at hz0
 ·refine PW.t [2] 1 (rq (D.v (.bool false)) ?_)
  have hm:Fr.mayB f=false:=Bool.eq_false_iff.2 fun hm=>by
    obtain ⟨⟨h1,h2,h3⟩,h4,h5,h6,h7⟩:=Fr.may_iff.1 hm
    rcases hz0 with hz0|hz0
    · omega
    · exact hz0 h4
  rw [hm]
 ·refine PW.k (PW.seq (PW.w 11 [1,46,48] 1 (PL.gc (A:=[(46,true)]) (fun _=>agesR_pc f.ages) (PL.n 2 [1,51] 1 (PW.cd (((f.kind == (2:Int))||(f.kind == (4:Int)))&&(!(Fr.agesOk f.ages))) ?_ ?_))))) <;> intro hz1 <;> try simp only [boolS] at hz1
  ·refine PW.t [2] 1 (rq (D.v (.bool false)) ?_)
   have hm:Fr.mayB f=false:=Bool.eq_false_iff.2 fun hm=>by
     obtain ⟨⟨h1,h2,h3⟩,h4,h5,h6,h7⟩:=Fr.may_iff.1 hm
     have:=h5 hz1.1
     rw [hz1.2] at this
     cases this
   rw [hm]
  ·refine PW.k (PW.q [1,64] 1 (PW.cd ((f.kind == (5:Int))&&((decide (f.seq<(1:Int)))||(decide (f.seq>(2147483648:Int))))) ?_ ?_)) <;> intro hz2 <;> try simp only [boolS] at hz2
   ·refine PW.t [2] 1 (rq (D.v (.bool false)) ?_)
    have hm:Fr.mayB f=false:=Bool.eq_false_iff.2 fun hm=>by
      obtain ⟨⟨h1,h2,h3⟩,h4,h5,h6,h7⟩:=Fr.may_iff.1 hm
      have:=h6 hz2.1
      omega
    rw [hm]
   ·refine PW.k (PW.q [1,92] 1 (PW.cd ((((((decide (f.wait<(0:Int)))||(decide (f.wait>(60000:Int))))||(decide (f.mask<(0:Int))))||(decide (f.mask≥(4096:Int))))||(decide (f.link<(0:Int))))||(decide (f.link≥(10:Int)))) ?_ ?_)) <;> intro hz3 <;> try simp only [boolS] at hz3
    ·refine PW.t [2] 1 (rq (D.v (.bool false)) ?_)
     have hm:Fr.mayB f=false:=Bool.eq_false_iff.2 fun hm=>by
       obtain ⟨⟨h1,h2,h3⟩,h4,h5,h6,h7⟩:=Fr.may_iff.1 hm
       omega
     rw [hm]
    ·refine PW.k (PW.w 2 [1,94] 1 (PL.gc (A:=[]) (fun _=>withinR_pc f.cycle 0 1099511627776) (PL.a 3 [1,96,98] 1 (PL.gc (A:=[(96,true)]) (fun _=>timeR_pc f.offset) (PL.n 28 [2] 1 (PW.ret (rq (D.v (.bool (((((((decide (f.cycle≥0)&&decide (f.cycle≤1099511627776))&&(decide (f.offset ≥ -1099511627776)&&decide (f.offset≤1099511627776)))&&(decide (f.frm≥(0:Int))))&&(decide (f.frm<(6:Int))))&&(decide (f.to≥(0:Int))))&&(decide (f.to<(6:Int))))&&(decide ((f.body.length:Int)≤(24:Int)))))) ?_)))))))
     refine congrArg (fun b=>D.v (.bool b)) (Bool.eq_iff_iff.2 ?_)
     rw [Fr.may_iff]
     simp only [Bool.and_eq_true,decide_eq_true_eq]
     constructor
     · intro h
       exact ⟨by omega,hz0.2,fun h24=>by
        rcases hz1 with h1|h1
        ·omega
        ·exact h1,fun h5=>by omega,by omega⟩
     · intro h
       omega
end Go.Proofs.YtdomlccfjnkbjaaGreatDoor.Pl
