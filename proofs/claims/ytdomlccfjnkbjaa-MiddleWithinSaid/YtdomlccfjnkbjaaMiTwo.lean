/- Chapter 13: Mid; the document's own Cut, Mid. -/
import Derived.Test.YtdomlccfjnkbjaaMiMid
namespace Go.Proofs.Ytdomlccfjnkbjaa.Pl
open Go.RowKit Go.Proofs.Ytdomlccfjnkbjaa.Sm Go.Proofs.Ytdomlccfjnkbjaa.Dp
set_option maxHeartbeats 4000000
set_option maxRecDepth 100000
set_option linter.unusedVariables false
set_option linter.unusedSimpArgs false
theorem mid_no {xs:List Int} {f:Int} (h:cutB xs.length f=false∨timesB xs=false):D.t [I 0,D.v (.bool false)]=D.t [I (midI xs f),D.v (.bool (midB xs f))]:=by
 have hb:midB xs f=false:=by
  unfold midB
  rcases h with h|h <;> rw [h]
  ·rfl
  ·exact Bool.and_false _
 rw [midI,hb,if_neg (by decide)]
theorem mid_yes {xs:List Int} {f:Int} (h:cutB xs.length f=true∧timesB xs=true):D.t [I (floorI (endsI (cutL xs f)) 2),D.v (.bool (floorB 2))]=D.t [I (midI xs f),D.v (.bool (midB xs f))]:=by
 have hb:midB xs f=true:=by unfold midB; rw [h.1,h.2]; rfl
 rw [midI,hb,if_pos rfl]
 rfl
theorem cut_two {xs:List Int} {f:Int} (h:cutB xs.length f=true):0<(cutL xs f).length∧(cutL xs f).length≤xs.length:=by
 have h1:=cutL_len h
 have h2:=cutB_iff.1 h
 omega
theorem cutL_le (xs:List Int) (f:Int):(cutL xs f).length≤xs.length:=by
 by_cases h:cutB xs.length f=true
 ·exact (cut_two h).2
 ·rw [cutL,if_neg h]
  exact Nat.zero_le _
theorem srt_e1:srtI [3,1,2]=[1,2,3]:=(srt_unique (by decide) (by simp)).symm
theorem srt_e2:srtI [1,9,5,100]=[1,5,9,100]:=(srt_unique (by decide) (by simp)).symm
theorem cut_e1:cutL [3,1,2] 1=[2]:=by unfold cutL; rw [srt_e1]; rfl
theorem cut_e2:cutL [1,9,5,100] 1=[5,9]:=by unfold cutL; rw [srt_e2]; rfl
theorem mid_e1:midI [1,9,5,100] 1=7:=by unfold midI; rw [cut_e2]; kernel_rfl
theorem mid_e2:midB [1,9,5,100] 1=true:=by kernel_rfl
theorem alive_one:PC Try.prog [] 9 [sl' 1 (fun x=>[I x]) [3,1,2],I 1] (· = D.t [sl' 1 (fun x=>[I x]) [2],D.v (.bool true)]):=by
 have h:=middle_Cut_pc [3,1,2] (by decide) 1
 rw [cut_e1] at h
 exact h
theorem alive_two:PC Try.prog [] 9 [sl' 1 (fun x=>[I x]) [3,1],I 1] (· = D.t [sl' 1 (fun x=>[I x]) [],D.v (.bool false)]):=middle_Cut_pc [3,1] (by decide) 1
theorem middle_Mid_pc (xs:List Int) (hl:xs.length<1000000) (f:Int):PC Try.prog [] 11 [sl' 1 (fun x=>[I x]) xs,I f] (· = D.t [I (midI xs f),D.v (.bool (midB xs f))]):=by
 refine PC.of (N:=34) Try.func11 rfl rfl (Nat.le_of_ble_eq_true rfl) ?_
 refine PW.a [0,1] 0 (PW.w 2 [0,9,10] 0 (PL.gc (A:=[]) (fun _=>middle_Cut_pc xs oM f) (PL.n 5 [0,6,7] 0 (PW.seq (PW.w 4 [6,16,17] 0 (PL.gc (A:=[(16,false)]) (fun _=>middle_areTimes_pc xs oM) (PL.n 2 [6,20] 0 ?_)))))))
 refine PW.cd ((!(cutB xs.length f))||(!(timesB xs))) (fun hz0 => ?_) (fun hz0 => ?_)
 ·try simp only [boolS] at hz0
  try have hct:=cut_two (xs:=xs) (f:=f) hz0.1
  try have wct:IntKind.i64.wrap (((cutL xs f).length:Int)-1)=((cutL xs f).length:Int)-1:=by rw [Ev.wrap_i64 oM oM]
  refine PW.t [4,5] 0 (retQ_ret (d:=D.t [I 0,D.v (.bool false)]) (ps:=[]) kR trivial ?_)
  exact mid_no hz0
 ·try simp only [boolS] at hz0
  try have hct:=cut_two (xs:=xs) (f:=f) hz0.1
  try have wct:IntKind.i64.wrap (((cutL xs f).length:Int)-1)=((cutL xs f).length:Int)-1:=by rw [Ev.wrap_i64 oM oM]
  refine PW.k (PW.seq (PW.open [] kR (PO.tk [0,1,2,3,4,5,6,7,8,9] 15 [30] 5 (p:=(0≤(0:Int)∧(0:Int)<((cutL xs f).length:Int))∧(0≤(IntKind.i64.wrap (((cutL xs f).length:Int)-1))∧(IntKind.i64.wrap (((cutL xs f).length:Int)-1))<((cutL xs f).length:Int))) oM (fun _ _ h=>h) (PO.one (n:=4) 10 kR ?_))))
  refine PO1.gc _ (ds0:=[I (IntKind.i64.wrap (((cutL xs f).getD 0 default)+((cutL xs f).getD ((IntKind.i64.wrap (((cutL xs f).length:Int)-1)).toNat) default))),I 2]) (A:=[]) (fun _=>ticks_Floor_pc (IntKind.i64.wrap (((cutL xs f).getD 0 default)+((cutL xs f).getD ((IntKind.i64.wrap (((cutL xs f).length:Int)-1)).toNat) default))) 2 (wrapi_in _)) ?_ rfl
  refine PO.a [11,12,13,14] 4 [4,5] 0 (PO.done kR ?_)
  show PW _ _ _ _ _
  refine PW.ret (retQ_ret (d:=D.t [I (floorI (IntKind.i64.wrap (((cutL xs f).getD 0 default)+((cutL xs f).getD ((IntKind.i64.wrap (((cutL xs f).length:Int)-1)).toNat) default))) 2),D.v (.bool (floorB 2))]) (ps:=[]) kR trivial ?_)
  exact mid_yes hz0
theorem ref_Cut_pc0 (xs:List Int) (hl:xs.length<1000000) (f:Int):PC Try.prog [] 10 [sl' 1 (fun x=>[I x]) xs,I f] (fun d=>∀ (w:World) (ok:Nat→Prop) (v:Value),RepC w ok d v→RepC w ok (D.t [sl' 1 (fun x=>[I x]) (cutL xs f),D.v (.bool (cutB xs.length f))]) v):=by
 refine PC.of (N:=30) Try.func10 rfl rfl (Nat.le_of_ble_eq_true rfl) ?_
 have hsl:=srt_len xs
 have w4:xs.length=0∨IntKind.i64.wrap ((IntKind.i64.wrap ((xs.length:Int)-1)).tdiv 2)=((xs.length:Int)-1)/2:=by
   rcases Nat.eq_zero_or_pos xs.length with h0|h0
   ·exact .inl h0
   ·right; rw [Ev.wrap_i64 (x:=(xs.length:Int)-1) oM oM,Int.tdiv_eq_ediv_of_nonneg oM,Ev.wrap_i64 oM oM]
 refine PW.a [0,1] 0 (PW.q [0,1,20] 0 (PW.cd (((decide (f<(0:Int)))||((xs.length:Int) == (0:Int)))||(decide (f>(IntKind.i64.wrap ((IntKind.i64.wrap ((xs.length:Int)-1)).tdiv 2))))) (fun hz0 => ?_) (fun hz0 => ?_)))
 ·try simp only [boolS] at hz0
  try have w5:IntKind.i64.wrap ((xs.length:Int)-f)=(xs.length:Int)-f:=by rw [Ev.wrap_i64 oM oM]
  refine PW.t [4,5] 0 (retQ_ret (d:=D.t [D.v (.slice none 0 0),D.v (.bool false)]) (ps:=[]) kR trivial ?_)
  exact cut_no oM
 ·try simp only [boolS] at hz0
  try have w5:IntKind.i64.wrap ((xs.length:Int)-f)=(xs.length:Int)-f:=by rw [Ev.wrap_i64 oM oM]
  refine PW.k (PW.w 1 [0,1,21] 0 (PL.gc (A:=[]) (fun _=>drumlineref10_sorted_pc xs oM) (PL.rw 9 [4,5] 1 (p:=(0≤f∧f≤(IntKind.i64.wrap ((xs.length:Int)-f))∧(IntKind.i64.wrap ((xs.length:Int)-f))≤((srtI xs).length:Int))∧(True∧(0+(((IntKind.i64.wrap ((xs.length:Int)-f)).toNat)-f.toNat))*8≤140737488355328∧0+(((IntKind.i64.wrap ((xs.length:Int)-f)).toNat)-f.toNat)≤9223372036854775807)) nD (PL.nl (PW.ret (retQ_ret (d:=D.t [D.s (0+(((IntKind.i64.wrap ((xs.length:Int)-f)).toNat)-f.toNat)) 1 (fun j=>if j<0 then (fun _=>[]) j else (fun k=>(fun i=>[I ((srtI xs).getD i default)]) (f.toNat+k)) (j-0)),D.v (.bool true)]) (ps:=[0+(((IntKind.i64.wrap ((xs.length:Int)-f)).toNat)-f.toNat)≤0+(((IntKind.i64.wrap ((xs.length:Int)-f)).toNat)-f.toNat)]) kR (show (0+(((IntKind.i64.wrap ((xs.length:Int)-f)).toNat)-f.toNat)≤0+(((IntKind.i64.wrap ((xs.length:Int)-f)).toNat)-f.toNat)) from by exact nD) ?_))))))
  exact cut_yes oM oM fun i hi=>rfl
theorem drumlineref10_Cut_pc (xs:List Int) (hl:xs.length<1000000) (f:Int):PC Try.prog [] 10 [sl' 1 (fun x=>[I x]) xs,I f] (· = D.t [sl' 1 (fun x=>[I x]) (cutL xs f),D.v (.bool (cutB xs.length f))]):=(ref_Cut_pc0 xs hl f).coarse fun d h=>⟨_,rfl,h⟩
theorem drumlineref10_Mid_pc (xs:List Int) (hl:xs.length<1000000) (f:Int):PC Try.prog [] 12 [sl' 1 (fun x=>[I x]) xs,I f] (· = D.t [I (midI xs f),D.v (.bool (midB xs f))]):=by
 refine PC.of (N:=34) Try.func12 rfl rfl (Nat.le_of_ble_eq_true rfl) ?_
 refine PW.a [0,1] 0 (PW.w 2 [0,9,10] 0 (PL.gc (A:=[]) (fun _=>drumlineref10_Cut_pc xs oM f) (PL.n 5 [0,6,7] 0 (PW.seq (PW.w 4 [6,16,17] 0 (PL.gc (A:=[(16,false)]) (fun _=>drumlineref10_times_pc xs oM) (PL.n 2 [6,20] 0 ?_)))))))
 refine PW.cd ((!(cutB xs.length f))||(!(timesB xs))) (fun hz0 => ?_) (fun hz0 => ?_)
 ·try simp only [boolS] at hz0
  try have hct:=cut_two (xs:=xs) (f:=f) hz0.1
  try have wct:IntKind.i64.wrap (((cutL xs f).length:Int)-1)=((cutL xs f).length:Int)-1:=by rw [Ev.wrap_i64 oM oM]
  refine PW.t [4,5] 0 (retQ_ret (d:=D.t [I 0,D.v (.bool false)]) (ps:=[]) kR trivial ?_)
  exact mid_no hz0
 ·try simp only [boolS] at hz0
  try have hct:=cut_two (xs:=xs) (f:=f) hz0.1
  try have wct:IntKind.i64.wrap (((cutL xs f).length:Int)-1)=((cutL xs f).length:Int)-1:=by rw [Ev.wrap_i64 oM oM]
  refine PW.k (PW.seq (PW.open [] kR (PO.tk [0,1,2,3,4,5,6,7,8,9] 15 [30] 5 (p:=(0≤(0:Int)∧(0:Int)<((cutL xs f).length:Int))∧(0≤(IntKind.i64.wrap (((cutL xs f).length:Int)-1))∧(IntKind.i64.wrap (((cutL xs f).length:Int)-1))<((cutL xs f).length:Int))) oM (fun _ _ h=>h) (PO.one (n:=4) 10 kR ?_))))
  refine PO1.gc _ (ds0:=[I (IntKind.i64.wrap (((cutL xs f).getD 0 default)+((cutL xs f).getD ((IntKind.i64.wrap (((cutL xs f).length:Int)-1)).toNat) default))),I 2]) (A:=[]) (fun _=>drumlineref1_Floor_pc (IntKind.i64.wrap (((cutL xs f).getD 0 default)+((cutL xs f).getD ((IntKind.i64.wrap (((cutL xs f).length:Int)-1)).toNat) default))) 2 (wrapi_in _)) ?_ rfl
  refine PO.a [11,12,13,14] 4 [4,5] 0 (PO.done kR ?_)
  show PW _ _ _ _ _
  refine PW.ret (retQ_ret (d:=D.t [I (floorI (IntKind.i64.wrap (((cutL xs f).getD 0 default)+((cutL xs f).getD ((IntKind.i64.wrap (((cutL xs f).length:Int)-1)).toNat) default))) 2),D.v (.bool (floorB 2))]) (ps:=[]) kR trivial ?_)
  exact mid_yes hz0
end Go.Proofs.Ytdomlccfjnkbjaa.Pl
