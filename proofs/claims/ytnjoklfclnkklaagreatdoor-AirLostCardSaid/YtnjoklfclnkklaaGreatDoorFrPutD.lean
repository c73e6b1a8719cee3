/- The document's own put. -/
import Derived.Test.YtnjoklfclnkklaaGreatDoorFrAlive
import Derived.Test.YtnjoklfclnkklaaGreatDoorSmA
import Derived.Test.YtnjoklfclnkklaaGreatDoorFrQ
import Derived.Test.YtnjoklfclnkklaaGreatDoorDpTake
import Derived.Test.YtnjoklfclnkklaaGreatDoorGdOne
import Derived.Test.YtnjoklfclnkklaaGreatDoorPlTwelve
namespace Go.Proofs.YtnjoklfclnkklaaGreatDoor.Fr
open Go.ChangeShapes Go.WideShapes Go.ChangeAt Go.RowKit Go.Proofs.YtnjoklfclnkklaaGreatDoor.Sm Go.Proofs.YtnjoklfclnkklaaGreatDoor.Wr
set_option maxHeartbeats 4000000
set_option maxRecDepth 100000
theorem intsEqR_calls (a:Option Addr) (n c:Nat) (a':Option Addr) (n' c':Nat) (l m:List Int) (B B':Nat) (w:World) (hr:RowI w B a n c l) (hr':RowI w B' a' n' c' m) :
  Calls Tryz.prog 65 #[.slice a n c,.slice a' n' c'] w fun e w'=>e = .returned (.bool (decide (l=m)))∧∃ q,w'=w.drewN q:=by
 have hn:=hr.row.small
 have hn':=hr'.row.small
 have HR:=hid hr
 have HR':=hid hr'
 have HN:=hid hr.len
 have HN':=hid hr'.len
 clear hr hr'
 by_cases hl:n=n'
 ·subst hl
  go_enter Tryz.func65,Tryz.ntmps65
  go_wp2
  go_loopw [5] (fun i wr=>∃ k q:Nat,k≤n∧i = .int .i64 k∧Hid (l.take k=m.take k)∧wr=w.drewN q) (fun i _=>n-(intOf i).toNat)
  case atStart=>exact ⟨0,0,by omega,rfl,rfl,rfl⟩
  case round =>
   obtain ⟨k,q,hk,rfl,HT,rfl⟩:=hrel
   by_cases hlt:k<n
   ·obtain ⟨b,off,d,rfl,_,hl1,hc,hd,hd'⟩:=(HR.out.drewN q).at_ hlt
    obtain ⟨b2,off2,d2,rfl,_,hl2,hc2,hd2,hd2'⟩:=(HR'.out.drewN q).at_ hlt
    have HL1:=hid hl1
    have HL2:=hid hl2
    clear hl1 hl2
    have HQ:Hid (∀ j,(w.drewN q).drewN j=w.drewN (q+j)):=fun j=>World.drewN_drewN _ _ _
    generalize w.drewN q=W at *
    by_cases hdd:d=d2
    ·subst hdd
     go_wp2
     go_quiet (fail)
     go_wp2
     go_roundw
     case rel =>
      refine ⟨k+1,_,by omega,by go_num,?_,HQ.out _⟩
      exact (show l.take (k+1)=m.take (k+1) by exact (show l.take (k+1)=m.take (k+1) by rw [List.take_add_one,List.take_add_one,HL1.out,HL2.out,HT.out]))
     case measure=>simp [intOf]; omega
    ·have hne:(d == d2)=false:=by simpa using hdd
     go_wp2
     go_quiet (fail)
     go_wp2
     go_ret
     refine ⟨?_,_,HQ.out _⟩
     have:¬ l=m:=by
      rintro rfl
      have:=HL1.out.symm.trans HL2.out
      injection this with this
      exact hdd this
     rw [decide_eq_false this]; rfl
   ·obtain rfl:k=n:=by omega
    go_wp2
    go_ret
    refine ⟨?_,_,rfl⟩
    have:l=m:=by
     have h:=HT.out
     rwa [List.take_of_length_le (by rw [HN.out]; omega),List.take_of_length_le (by rw [HN'.out]; omega)] at h
    rw [decide_eq_true this]; rfl
 ·have hne:((n:Int) == (n':Int))=false:=by simp; omega
  go_enter Tryz.func65,Tryz.ntmps65
  go_wp2
  go_ret
  refine ⟨?_,0,rfl⟩
  have:¬ l=m:=by
   rintro rfl
   exact hl (HN.out.symm.trans HN'.out)
  rw [decide_eq_false this]; rfl
theorem sameR_calls (v v':Value) (f g:Frame) (B B':Nat) (w:World) (hf:FrV w B v f) (hg:FrV w B' v' g) (hB:B≤w.heap.size) (hB':B'≤w.heap.size) :
  Calls Tryz.prog 35 #[v,v'] w fun e w'=>e = .returned (.bool (decide (f=g)))∧Below w.heap.size w w':=by
 obtain ⟨a,n,c,a',n',c',ev,ra,rb,hw⟩:=hf
 obtain ⟨x,m,d,x',m',d',ev',rx,ry,hw'⟩:=hg
 clear hw hw'
 obtain ⟨a0,a1,a2,a3,a4,a5,a6,a7,a8,a9,a10,a11,a12,a13⟩:=f
 obtain ⟨b0,b1,b2,b3,b4,b5,b6,b7,b8,b9,b10,b11,b12,b13⟩:=g
 have HV:=hid ev
 have HV':=hid ev'
 have HA:=hid ra
 have HB:=hid rb
 have HX:=hid rx
 have HY:=hid ry
 clear ev ev' ra rb rx ry
 obtain ⟨z,hz⟩:∃ z,decide ((⟨a0,a1,a2,a3,a4,a5,a6,a7,a8,a9,a10,a11,a12,a13⟩:Frame)=⟨b0,b1,b2,b3,b4,b5,b6,b7,b8,b9,b10,b11,b12,b13⟩)=z:=⟨_,rfl⟩
 rw [hz]
 have HZ:Hid (z=(a0 == b0&&a1 == b1&&a2 == b2&&a3 == b3&&a4 == b4&&a5 == b5&&a6 == b6&&a7 == b7&&a8 == b8&&decide (a9=b9)&&a10 == b10&&a11 == b11&&a12 == b12&&decide (a13=b13))):=by
  show z=_
  rw [← hz,Bool.eq_iff_iff]
  simp [and_assoc]
 clear hz
 go_enter Tryz.func35,Tryz.ntmps35
 go_step
 go_step
 go_step
 refine wpList_box_any rfl _ _ rfl _ HV.out ?_
 intro p1 W1 n1
 refine wpList_box_any rfl _ _ rfl _ HV'.out ?_
 intro p2 W2 n2
 have hb2:Below w.heap.size w W2:=n1.below.trans (n2.below.mono n1.below.size)
 have o1:Ob W2 p1 _ _:=n1.ob.below n2.below n1.ob.lt
 have o2:Ob W2 p2 _ _:=n2.ob
 have HA:=hid (HA.out.below (hb2.mono hB))
 have HB:=hid (HB.out.below (hb2.mono hB))
 have HX:=hid (HX.out.below (hb2.mono hB'))
 have HY:=hid (HY.out.below (hb2.mono hB'))
 have HB2:=hid hb2
 dsimp only at HA HB HX HY
 have O1:=hid o1
 have O2:=hid o2
 clear o1 o2 n1 n2 hb2 HV HV' hB hB'
 iterate 9 go_step
 refine letter 101 2 3 p1 p2 4 false ⟨rfl,rfl,rfl,rfl⟩ rfl ?_
 intro AA TA cA
 refine first_ .neq TA (by decide) (by decide) fieldAt0 (loads_one Tryz.underlying3 rfl) (x := .int .i64 a0) (y := .int .i64 b0) (O1.out.cell (i:=0) rfl) (O2.out.cell (i:=0) rfl) (z:=a0 != b0) (by simp [go_sem]) ?_
 intro A0 T0 c0
 refine or_link .neq T0 c0 (by decide) (by decide) (by decide) (by decide) rfl fieldAt1 (loads_one Tryz.underlying3 rfl) (x := .int .i64 a1) (y := .int .i64 b1) ((O1.out).cell (i:=1) rfl) ((O2.out).cell (i:=1) rfl) (z:=a1 != b1) (by simp [go_sem]) ?_
 intro A1 T1 c1
 refine or_link .neq T1 c1 (by decide) (by decide) (by decide) (by decide) rfl fieldAt2 (loads_one Tryz.underlying3 rfl) (x := .int .i64 a2) (y := .int .i64 b2) ((O1.out).cell (i:=2) rfl) ((O2.out).cell (i:=2) rfl) (z:=a2 != b2) (by simp [go_sem]) ?_
 intro A2 T2 c2
 refine or_link .neq T2 c2 (by decide) (by decide) (by decide) (by decide) rfl fieldAt3 (loads_one Tryz.underlying3 rfl) (x := .int .i64 a3) (y := .int .i64 b3) ((O1.out).cell (i:=3) rfl) ((O2.out).cell (i:=3) rfl) (z:=a3 != b3) (by simp [go_sem]) ?_
 intro A3 T3 c3
 refine or_link .neq T3 c3 (by decide) (by decide) (by decide) (by decide) rfl fieldAt4 (loads_one Tryz.underlying3 rfl) (x := .int .i64 a4) (y := .int .i64 b4) ((O1.out).cell (i:=4) rfl) ((O2.out).cell (i:=4) rfl) (z:=a4 != b4) (by simp [go_sem]) ?_
 intro A4 T4 c4
 refine or_link .neq T4 c4 (by decide) (by decide) (by decide) (by decide) rfl fieldAt5 (loads_one Tryz.underlying3 rfl) (x := .int .i64 a5) (y := .int .i64 b5) ((O1.out).cell (i:=5) rfl) ((O2.out).cell (i:=5) rfl) (z:=a5 != b5) (by simp [go_sem]) ?_
 intro A5 T5 c5
 refine or_link .neq T5 c5 (by decide) (by decide) (by decide) (by decide) rfl fieldAt6 (loads_one Tryz.underlying4 rfl) (x := .bool a6) (y := .bool b6) ((O1.out).cell (i:=6) rfl) ((O2.out).cell (i:=6) rfl) (z:=a6 != b6) (by cases a6 <;> cases b6 <;> simp [go_sem,Tryz.underlying4]) ?_
 intro A6 T6 c6
 iterate 3 go_step
 refine wp_cond_split (show A6.eval (.tmp 51)=_ from c6) (fun h => ?_) (fun h => ?_)
 ·obtain rfl:z=false:=by
   rw [HZ.out]
   clear HZ
   simp only [Bool.or_eq_true,bne_iff_ne,ne_eq] at h
   rcases h with (((((h|h)|h)|h)|h)|h)|h <;> simp [h]
  have hs:=sl_put_same (a:=A6) (d:=4) (v := .bool false) (by rw [T6.size]; decide)
  go_wp2
  (try simp only [Exit.inBlock,Exit.then])
  refine bodyPost_ret (results_tmp rfl _ _ _) ?_ ?_
  ·exact T6.dfr
  exact ⟨congrArg Ending.returned hs,HB2.out⟩
 iterate 5 go_step
 refine first_ .eql T6 (by decide) (by decide) fieldAt7 (loads_one Tryz.underlying2 rfl) (x := .int .i64 a7) (y := .int .i64 b7) (O1.out.cell (i:=7) rfl) (O2.out.cell (i:=7) rfl) (z:=a7 == b7) (by simp [go_sem]) ?_
 intro A7 T7 c7
 refine and_link .eql T7 c7 (by decide) (by decide) (by decide) (by decide) rfl fieldAt8 (loads_one Tryz.underlying2 rfl) (x := .int .i64 a8) (y := .int .i64 b8) ((O1.out).cell (i:=8) rfl) ((O2.out).cell (i:=8) rfl) (z:=a8 == b8) (by simp [go_sem]) ?_
 intro A8 T8 c8
 refine call_link (R:=fun w'=>∃ q,w'=W2.drewN q) T8 c8 (by decide) (by decide) (by decide) (by decide) rfl fieldAt9 (loads_one Tryz.underlying22 rfl) (O1.out.cell (i:=9) rfl) (O2.out.cell (i:=9) rfl) (fun _ _=>by kernel_rfl) (intsEqR_calls _ _ _ _ _ _ a9 b9 _ _ _ HA.out HX.out) ⟨0,rfl⟩ ?_
 rintro A9 _ ⟨q,rfl⟩ T9 c9
 refine and_link .eql T9 c9 (by decide) (by decide) (by decide) (by decide) rfl fieldAt10 (loads_one Tryz.underlying3 rfl) (x := .int .i64 a10) (y := .int .i64 b10) ((O1.out.drewN q).cell (i:=10) rfl) ((O2.out.drewN q).cell (i:=10) rfl) (z:=a10 == b10) (by simp [go_sem]) ?_
 intro A10 T10 c10
 refine and_link .eql T10 c10 (by decide) (by decide) (by decide) (by decide) rfl fieldAt11 (loads_one Tryz.underlying3 rfl) (x := .int .i64 a11) (y := .int .i64 b11) ((O1.out.drewN q).cell (i:=11) rfl) ((O2.out.drewN q).cell (i:=11) rfl) (z:=a11 == b11) (by simp [go_sem]) ?_
 intro A11 T11 c11
 refine and_link .eql T11 c11 (by decide) (by decide) (by decide) (by decide) rfl fieldAt12 (loads_one Tryz.underlying2 rfl) (x := .int .i64 a12) (y := .int .i64 b12) ((O1.out.drewN q).cell (i:=12) rfl) ((O2.out.drewN q).cell (i:=12) rfl) (z:=a12 == b12) (by simp [go_sem]) ?_
 intro A12 T12 c12
 have hv1:=conv_str (P:=Tryz.prog) (HB.out.drewN q) Tryz.underlying23 Tryz.underlying5 Tryz.underlying9
 have hv2:=conv_str (P:=Tryz.prog) (HY.out.drewN q) Tryz.underlying23 Tryz.underlying5 Tryz.underlying9
 have hq:=str_eq a13 b13
 refine str_link T12 c12 (by decide) (by decide) (by decide) (by decide) rfl fieldAt13 (loads_one Tryz.underlying23 rfl) ((O1.out.drewN q).cell (i:=13) rfl) ((O2.out.drewN q).cell (i:=13) rfl) hv1 hv2 (z:=decide (a13=b13)) (by simp [go_sem,hq]) ?_
 intro A13 T13 c13
 refine wpList_go (wanted_none rfl _) (show _=Result.ok (Next.value (sl A13 100)) _ from rfl) ?_
 have hz':z=(a7 == b7&&a8 == b8&&decide (a9=b9)&&a10 == b10&&a11 == b11&&a12 == b12&&decide (a13=b13)):=by
  rw [HZ.out]
  simp only [Bool.or_eq_false_iff,bne_eq_false_iff_eq] at h
  obtain ⟨⟨⟨⟨⟨⟨rfl,rfl⟩,rfl⟩,rfl⟩,rfl⟩,rfl⟩,rfl⟩:=h
  simp
 rw [c13,← hz']
 clear hz' h HZ
 have hs:=sl_put_same (a:=A13) (d:=4) (v := .bool z) (by rw [T13.size]; decide)
 go_wp2
 (try simp only [Exit.inBlock,Exit.then])
 refine bodyPost_ret (results_tmp rfl _ _ _) ?_ ?_
 ·exact T13.dfr
 exact ⟨congrArg Ending.returned hs,Sm.below_drewN HB2.out _⟩
end Go.Proofs.YtnjoklfclnkklaaGreatDoor.Fr
namespace Go.Proofs.YtnjoklfclnkklaaGreatDoor.Fr
open Go.ChangeShapes Go.WideShapes Go.ChangeAt Go.RowKit Go.Proofs.YtnjoklfclnkklaaGreatDoor.Sm Go.Proofs.YtnjoklfclnkklaaGreatDoor.Wr Go.Proofs.YtnjoklfclnkklaaGreatDoor.Dp
set_option maxHeartbeats 4000000
set_option maxRecDepth 100000
set_option linter.unusedVariables false
set_option linter.unusedSimpArgs false
def WfA (f:Frame):Prop:=Wf f∧∀ d ∈ f.ages, -9223372036854775808≤d∧d≤9223372036854775807
theorem sameR_pc (f g:Frame) (hf:WfA f) (hg:WfA g):PC Tryz.prog [] 35 [D.r (frD f),D.r (frD g)] (· = D.v (.bool (decide (f=g)))):=by
 intro κ w vs hκ _ hl hd
 match vs,hl with
 | [u,v],_ =>
  obtain ⟨cs,rfl,h1⟩:=frv_of hf (w':=w) hκ (hd 0 _ _ rfl rfl)
  obtain ⟨cs',rfl,h2⟩:=frv_of hg (w':=w) hκ (hd 1 _ _ rfl rfl)
  refine (sameR_calls _ _ f g _ _ w h1 h2 (Nat.le_refl _) (Nat.le_refl _)).mono ?_
  rintro e w' ⟨rfl,hb⟩
  exact ⟨_,_,rfl,rfl,.v _,hb⟩
theorem wfA_spare {f:Frame} (h:WfA f):WfA (spare f):=by
 obtain ⟨⟨h1,h2,h3,h4,h5,h6,h7,h8,h9,h10,h11⟩,ha⟩:=h
 have z:Is64 0:=⟨by decide,by decide⟩
 unfold spare
 repeat' split
 all_goals refine ⟨⟨?_,?_,?_,?_,?_,?_,?_,?_,?_,?_,?_⟩,?_⟩ <;> first|assumption|exact z|exact fun d hd=>absurd hd List.not_mem_nil
end Go.Proofs.YtnjoklfclnkklaaGreatDoor.Fr
namespace Go.Proofs.YtnjoklfclnkklaaGreatDoor.Dp
open Go.RowKit Go.Proofs.YtnjoklfclnkklaaGreatDoor.Sm
open Go.Proofs.YtnjoklfclnkklaaGreatDoor.Ev (Obl opnds dstB PT nx pt_put undef_bool pickB isRow_false seenL seenR seen_all resRun)
set_option maxHeartbeats 1000000
set_option linter.unusedVariables false
set_option linter.unusedSimpArgs false
section
variable {P:Program} {N:Nat} {ops:Array Oper} {o:Oper} {Q:Exit→St→Prop} {s:St}
theorem PO1.build {hs:List Nat} {u i:Nat} {listed:Array Bool} {t:TypeId} {parts:Array (Nat×Operand)} {cs:List D} (ho:ops[i]? = some o) (hop:o.op = .build t parts) (hA:gpath ops s o=some []) (hd:dstB N [] o.dst=true) (hb:buildD P s t parts=some cs) (h:PO P N ops hs u (listed.setIfInBounds i true) Q (s.put o.dst [] (.r cs))):PO1 P N ops hs u listed Q s i:=fun κ B ρ a w0 w hI hb0=>by
 refine wpOp_of ho (val_step hI hA hd (.r cs) (fun _ => ?_) fun a' hI'=>⟨Agree.refl _ _ _,h κ B ρ a' w0 w hI' hb0⟩)
 unfold buildD at hb
 split at hb
 ·rename_i it fields dss h1 h2 h3
  split at hb
  ·rename_i zv places h4 h5
   obtain ⟨out,k1,k2,k3⟩:=fill_rep hI parts.toList dss _ cs zv.cells h3 hb (by simp) (fun j d u q1 q2=>by
    rw [List.getElem?_map] at q1
    obtain ⟨u',q3,rfl⟩:=Option.map_eq_some_iff.1 q1
    rw [Array.getElem?_toList] at q3
    rw [q3] at q2
    injection q2 with q2
    subst q2
    exact .c (.v _))
   have hbt:P.built t (parts.map fun (i,x)=>(i,a.eval x)).toList=some out:=by
    unfold Program.built
    rw [h1,h2]
    simp only [h4,h5]
    rw [Array.toList_map]
    exact k1
   refine ⟨.agg out,?_,?_⟩
   ·unfold execOp
    simp only [hop,Sem.run_bind,run_build w t _ out hbt,Sem.run_pure,Result.andThen_ok]
   ·have:=RepO.r (w:=w) (ok:=okW κ w ρ) (ρ := ρ) (cs:=cs) (vs:=out.toList) (by simpa using k2) (fun j d u q1 q2=>k3 j d u q1 (by simpa using q2))
    simpa using this
  ·cases hb
 ·cases hb
theorem PL.mkG {f:FuncId} {rest:List Oper} {A:List (Nat×Bool)} {cap:Array Operand} (cs:List D) (h:PL P N ops rest Q (s.put o.dst A (.c f cs))) (hk:(o.op,gpath ops s o,dstB N A o.dst,looksA s A cap.toList,cs.all D.shut)=(.makeFunc (.func f) #[] cap,some A,true,some cs,true):=by kernel_rfl):PL P N ops (o::rest) Q s:=fun κ B ρ a w0 w hI hb0=>by
 simp only [Prod.mk.injEq] at hk
 obtain ⟨hop,hA,hd,hl,hsh⟩:=hk
 refine val_step hI hA hd (.c f cs) (fun hp => ?_) fun a' hI'=>h κ B ρ a' w0 w hI' hb0
 obtain ⟨q1,q2⟩:=looksA_rep hI hp hl
 refine ⟨.func (.func f) #[] (cap.toList.map a.eval).toArray,?_,?_⟩
 ·unfold execOp
  simp only [hop,Instr.makeFunc,Sem.run_bind,Sem.run_pure,Result.andThen_ok]
  have e:cap.map a.eval=(cap.toList.map a.eval).toArray:=by rw [← Array.toList_map]
  rw [e,show (#[]:Array Operand).map a.eval = #[] from Array.map_empty]
 ·refine .one (.c (.c q1 fun j d v h1 h2 => ?_))
  have hds:=List.all_eq_true.1 hsh d (List.mem_of_getElem? h1)
  exact shut_rep (by cases d <;> first|rfl|cases hds) (q2 j d v h1 h2)
theorem PO.frzR {hs:List Nat} {n:Nat} {listed:Array Bool} {s':St} (b:Nat) {z m:Nat} {f f':Nat→List D} {t:TypeId} (hmb:s.mem[b]? = some (.row t z m f)) (hf:∀ i,i<m→f i=f' i) (hfx:s.fx≤b) (he:s.frzR b z m f'=s') (h:PO P N ops hs n listed Q s'):PO P N ops hs n listed Q s:=fun κ B ρ a w0 w hI hb=>by
 subst he
 refine wpAnyH_monoS (fun u hA=>⟨hA.size,fun k hk hn=>hA.block k hk fun ⟨b2,hb2,c,hc⟩=>hn ⟨b2,hb2,c,?_⟩⟩) _ _ _ _ (h κ B _ a w0 w (hI.frzR hmb hf hfx) hb)
 by_cases hbb:b2=b
 ·subst hbb
  have hl:b2 < ρ.length:=by
   have:=(List.getElem?_eq_some_iff.1 hc).1
   simpa using this
  rw [List.getElem?_set_self hl] at hc
  cases hc
 ·rw [List.getElem?_set_ne (Ne.symm hbb)] at hc
  exact hc
end
theorem fz_eq {n:Nat} {s:St} {d d':D} (S:D→St) (h:s=S (if decide (n≤n)=true then d else D.any)) (e:d=d'):s=S d':=by rw [h,decide_eq_true (Nat.le_refl n),if_pos rfl,e]
theorem sl_len {α : Type} [Inhabited α] {z n:Nat} {e : α → List D} {xs:List α} (h:xs.length=n):D.s n z (fun i=>e (xs.getD i default))=sl' z e xs:=by subst h; rfl
theorem PC.coarse {P:Program} {G:List (Nat×List D)} {f:FuncId} {ds:List D} {R R':D→Prop} (h:PC P G f ds R) (hR:∀ d,R d→∃ d',R' d'∧∀ (w:World) (ok:Nat→Prop) (v:Value),RepC w ok d v→RepC w ok d' v):PC P G f ds R':=fun κ w vs h1 h2 h3 h4=>(h κ w vs h1 h2 h3 h4).mono (by
 rintro e w' ⟨v,d,rfl,k1,k2,k3⟩
 obtain ⟨d',k4,k5⟩:=hR d k1
 exact ⟨v,d',rfl,k4,k5 _ _ _ k2,k3⟩)
theorem RepC.nil_s {w:World} {ok:Nat→Prop} {z:Nat} {f:Nat→List D} {v:Value} (h:RepC w ok (.v (.slice none 0 0)) v):RepC w ok (.s 0 z f) v:=by
 cases h
 exact .s0 z f none 0 (fun _=>rfl) (Nat.zero_le _)
theorem RepC.seqw {w:World} {ok:Nat→Prop} {n z:Nat} {f f':Nat→List D} {v:Value} (h:RepC w ok (.s n z f) v) (hf:∀ i,i<n→(f' i).length=z∧(f' i).all D.one=true∧∀ (j:Nat) (d':D),(f' i)[j]? = some d'→∃ d,(f i)[j]? = some d∧∀ (w:World) (ok:Nat→Prop) (u:Value),RepC w ok d u→RepC w ok d' u):RepC w ok (.s n z f') v:=by
 cases h with
 | s0 z f a c ha hc=>exact .s0 z f' a c ha hc
 | s vals hb hn hc hz hv hd =>
  refine .s vals hb hn hc (fun i hi=>⟨(hf i hi).1,(hf i hi).2.1⟩) hv fun i j d' hi hj => ?_
  obtain ⟨d,h1,h2⟩:=(hf i hi).2.2 j d' hj
  exact h2 _ _ _ (hd i j d hi h1)
end Go.Proofs.YtnjoklfclnkklaaGreatDoor.Dp
namespace Go.Proofs.YtnjoklfclnkklaaGreatDoor.Pl
open Go.RowKit Go.Proofs.YtnjoklfclnkklaaGreatDoor.Sm Go.Proofs.YtnjoklfclnkklaaGreatDoor.Dp
open Go.Proofs.YtnjoklfclnkklaaGreatDoor.Fr (bare frD frC WfA)
set_option maxHeartbeats 4000000
set_option maxRecDepth 100000
set_option linter.unusedVariables false
set_option linter.unusedSimpArgs false
theorem plainR_pc (n k:Int):PC Tryz.prog [] 71 [I n,I k] (· = D.t [bytesD (Wr.plainL n k),.v (.bool (Wr.plainB n k))]):=by
 intro κ w vs hκ _ hl hd
 match vs,hl with
 | [u,v],_ =>
  have h1:=hd 0 _ _ rfl rfl
  have h2:=hd 1 _ _ rfl rfl
  cases h1
  cases h2
  refine (Wr.plainR_calls n k w).mono ?_
  rintro e w' ⟨v,rfl,hm⟩
  refine ⟨_,_,rfl,rfl,?_,hm.2⟩
  have hr:=made_rep hm
  refine .t rfl fun j d v e1 e2 => ?_
  match j,e1,e2 with
  | 0,e1,e2 =>
   cases e1
   cases e2
   exact hr.mono fun g hg=>⟨⟨.inr hg.1,hg.2⟩,rfl⟩
  | 1,e1,e2 =>
   cases e1
   cases e2
   exact .v _
  | j+2,e1,e2=>exact absurd e1 (by simp)
theorem put_row (l p:List UInt8):Obj.row 5 1 (l.length+p.length) (fun j=>if j<l.length then (fun j=>u8d (l.getD j default)) j else (fun i=>u8d (p.getD i default)) (j-l.length))=Obj.row 5 1 (l++p).length (fun j=>u8d ((l++p).getD j default)):=by
 rw [List.length_append]
 refine congrArg _ (funext fun j => ?_)
 by_cases h:j<l.length
 ·dsimp only
  rw [if_pos h,List.getD_eq_getElem?_getD,List.getD_eq_getElem?_getD,List.getElem?_append_left h]
 ·dsimp only
  rw [if_neg h,List.getD_eq_getElem?_getD,List.getD_eq_getElem?_getD,List.getElem?_append_right (Nat.le_of_not_lt h)]
theorem putR_pk (l:List UInt8) (n k:Int) (hl:l.length≤1000000) (hk:k≤7):PK Tryz.prog [] 41 [D.h 0 l.length,I n,I k] [Obj.row 5 1 l.length (fun j=>u8d (l.getD j default))] 0 (fun d m=>∃ n' ob',d = .h 0 n'∧m=[ob']∧ob'.shutB=true∧(∃ L:List UInt8,L=l++Wr.plainL n k∧L.length≤l.length+7∧n'=L.length∧ob'=Obj.row 5 1 L.length (fun j=>u8d (L.getD j default)))):=by
 refine PK.of (N:=18) Tryz.func41 rfl rfl (Nat.le_of_ble_eq_true rfl) 0 ?_
 have hp9:=Fr.plainL_le n k hk
 refine PW.sr [0,1,2] 1 trivial ?_
 refine PW.sg ?_
 refine PL.rw 2 [0,10,11] 1 trivial ?_
 refine PL.gc (A:=[]) (fun _=>plainR_pc n k) ?_
 refine PL.rw 5 [0,7] 1 trivial ?_
 refine PL.nl ?_
 refine PW.sr [6] 1 (p:=((l.length=l.length∧True)∧(l.length+(Wr.plainL n k).length)*1≤140737488355328∧l.length+(Wr.plainL n k).length≤9223372036854775807)) nD ?_
 refine PW.ret ?_
 refine retI_r (d:=D.h 0 (l.length+(Wr.plainL n k).length)) (ps:=[]) (mem:=[Obj.row 5 1 (l.length+(Wr.plainL n k).length) (fun j=>if j<l.length then (fun j=>u8d (l.getD j default)) j else (fun i=>u8d ((Wr.plainL n k).getD i default)) (j-l.length))]) trivial ?_
 exact ⟨_,_,rfl,rfl,rfl,_,rfl,by rw [List.length_append]; omega,(List.length_append).symm,put_row _ _⟩
theorem putR_px (l:List UInt8) (n k:Int) (hl:l.length≤1000000) (hk:k≤7):PX Tryz.prog [] 41 [D.h 0 l.length,I n,I k] (Obj.row 5 1 l.length (fun j=>u8d (l.getD j default))) (fun n' ob'=>∃ L:List UInt8,L=l++Wr.plainL n k∧L.length≤l.length+7∧n'=L.length∧ob'=Obj.row 5 1 L.length (fun j=>u8d (L.getD j default))):=PX.of (putR_pk l n k hl hk)
end Go.Proofs.YtnjoklfclnkklaaGreatDoor.Pl
