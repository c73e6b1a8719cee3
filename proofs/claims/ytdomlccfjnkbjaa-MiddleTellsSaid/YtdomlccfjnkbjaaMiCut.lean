/- Chapter 13: package middle's Cut. -/
import Derived.Test.YtdomlccfjnkbjaaMiSort
import Derived.Test.YtdomlccfjnkbjaaDpS3
import Derived.Test.YtdomlccfjnkbjaaGaOne
namespace Go.Proofs.Ytdomlccfjnkbjaa.Pl
open Go.RowKit Go.Proofs.Ytdomlccfjnkbjaa.Sm Go.Proofs.Ytdomlccfjnkbjaa.Dp
set_option maxHeartbeats 4000000
set_option maxRecDepth 100000
set_option linter.unusedVariables false
set_option linter.unusedSimpArgs false
theorem tup_one {w:World} {ok:Nat→Prop} {d d' e:D} {v:Value} (h:RepC w ok (.t [d,e]) v) (hd:∀ v,RepC w ok d v→RepC w ok d' v):RepC w ok (.t [d',e]) v:=by
 cases h with
 | t hl h2 =>
  refine .t hl fun j x v h1 h3 => ?_
  match j,h1 with
  | 0,h1=>cases h1; exact hd _ (h2 0 d v rfl h3)
  | 1,h1=>cases h1; exact h2 1 e v rfl h3
theorem cut_no {xs:List Int} {f:Int} (h:¬ (0≤f∧2*f<(xs.length:Int))) (w:World) (ok:Nat→Prop) (v:Value) (hr:RepC w ok (D.t [D.v (.slice none 0 0),D.v (.bool false)]) v):RepC w ok (D.t [sl' 1 (fun x=>[I x]) (cutL xs f),D.v (.bool (cutB xs.length f))]) v:=by
 have hb:cutB xs.length f=false:=by rw [← Bool.not_eq_true,cutB_iff]; exact h
 rw [cutL,hb,if_neg (by decide)]
 exact tup_one hr fun v h=>h.nil_s
theorem cut_yes {xs:List Int} {f:Int} {n:Nat} {g:Nat→List D} (h:0≤f∧2*f<(xs.length:Int)) (hn:n=xs.length-2*f.toNat) (hg:∀ i,i<n→g i=[I ((srtI xs).getD (f.toNat+i) default)]) (w:World) (ok:Nat→Prop) (v:Value) (hr:RepC w ok (D.t [D.s n 1 g,D.v (.bool true)]) v):RepC w ok (D.t [sl' 1 (fun x=>[I x]) (cutL xs f),D.v (.bool (cutB xs.length f))]) v:=by
 have hb:cutB xs.length f=true:=cutB_iff.2 h
 have hlen:=cutL_len hb
 rw [hb]
 refine tup_one hr fun v h => ?_
 unfold sl'
 rw [hlen,← hn]
 refine RepC.seqw h fun i hi=>⟨rfl,rfl,fun j d' hj => ?_⟩
 match j,hj with
 | 0,hj =>
  cases hj
  refine ⟨_,by rw [hg i hi]; rfl,fun w ok v hv => ?_⟩
  rw [cutL_at hb oM]
  exact hv
theorem middle_Cut_pc0 (xs:List Int) (hl:xs.length<1000000) (f:Int):PC Try.prog [] 9 [sl' 1 (fun x=>[I x]) xs,I f] (fun d=>∀ (w:World) (ok:Nat→Prop) (v:Value),RepC w ok d v→RepC w ok (D.t [sl' 1 (fun x=>[I x]) (cutL xs f),D.v (.bool (cutB xs.length f))]) v):=by
 refine PC.of (N:=31) Try.func9 rfl rfl (Nat.le_of_ble_eq_true rfl) ?_
 have w2:IntKind.i64.wrap ((IntKind.i64.wrap ((xs.length:Int)+1)).tdiv 2)=((xs.length:Int)+1)/2:=by rw [Ev.wrap_i64 (x:=(xs.length:Int)+1) oM oM,Int.tdiv_eq_ediv_of_nonneg oM,Ev.wrap_i64 oM oM]
 refine PW.a [0,1] 0 (PW.q [0,1,17] 0 (PW.cd ((decide (f<(0:Int)))||(decide (f≥(IntKind.i64.wrap ((IntKind.i64.wrap ((xs.length:Int)+1)).tdiv 2))))) (fun hz0 => ?_) (fun hz0 => ?_)))
 ·try simp only [boolS] at hz0
  refine PW.t [4,5] 0 (retQ_ret (d:=D.t [D.v (.slice none 0 0),D.v (.bool false)]) (ps:=[]) kR trivial ?_)
  exact cut_no oM
 ·try simp only [boolS] at hz0
  refine PW.k (PW.w 1 [1,18] 0 (PL.ci (clone_pi xs oM oM) ?_))
  rintro _ _ ⟨rfl,rfl⟩
  refine PL.sl [1,19] 1 (PL.n 1 [1,6] 1 (PW.w 1 [1,6,20] 1 (PL.cm (f:=15) (ds:=[D.h 0 xs.length]) (ob:=Obj.row 2 1 xs.length (fun j=>(fun x=>[I x]) (xs.getD j default))) 0 (sort_pm xs xs.length rfl oM oM) ?_)))
  rintro _ _ ⟨rfl,rfl⟩
  have hsl:=srt_len xs
  have w3:IntKind.i64.wrap (((srtI xs).length:Int)-f)=(xs.length:Int)-f:=by rw [Ev.wrap_i64 oM oM]; omega
  refine PL.sl [1,6,20,21] 1 (PL.eq (s':={ tab:=[⟨1,[],I f⟩,⟨6,[],D.h 0 xs.length⟩,⟨20,[],D.h 0 xs.length⟩,⟨21,[],D.t []⟩],mem:=[Obj.row 2 1 xs.length (fun j=>(fun x=>[I x]) ((srtI xs).getD j default))] }) kR (PL.frzR 0 (t:=2) (z:=1) (m:=xs.length) (f:=(fun j=>(fun x=>[I x]) ((srtI xs).getD j default))) (f':=(fun i=>[I ((srtI xs).getD i default)])) (s':={ tab:=[⟨1,[],I f⟩,⟨6,[],sl' 1 (fun x=>[I x]) (srtI xs)⟩,⟨20,[],sl' 1 (fun x=>[I x]) (srtI xs)⟩,⟨21,[],D.t []⟩],mem:=[Obj.dead] }) rfl (fun j hj=>rfl) (Nat.zero_le _) (fz_eq (n:=xs.length) (d:=D.s xs.length 1 (fun i=>[I ((srtI xs).getD i default)])) (fun d9=>{ tab:=[⟨1,[],I f⟩,⟨6,[],d9⟩,⟨20,[],d9⟩,⟨21,[],D.t []⟩],mem:=[Obj.dead] }) kR (sl_len (z:=1) (n:=xs.length) (e:=(fun x=>[I x])) (xs:=(srtI xs)) (by (try simp only [List.length_replicate,List.length_append,List.length_cons,List.length_nil,List.length_set]) <;> omega))) (PL.sl [1,6,20,21] 0 (PL.nl (PW.a [1,6,7] 0 (PW.w 4 [26,27,28,29] 0 (PL.s3 (A:=[]) ((srtI xs).length) (fun i=>[I ((srtI xs).getD i default)]) f (IntKind.i64.wrap (((srtI xs).length:Int)-f)) rfl rfl rfl oM kR ?_)))))))
  refine PL.n 2 [4,5] 0 (PW.ret (retQ_ret (d:=D.t [D.s ((IntKind.i64.wrap (((srtI xs).length:Int)-f)).toNat-f.toNat) 1 (fun k=>(fun i=>[I ((srtI xs).getD i default)]) (f.toNat+k)),D.v (.bool true)]) (ps:=[]) kR trivial ?_))
  exact cut_yes oM oM fun i hi=>rfl
end Go.Proofs.Ytdomlccfjnkbjaa.Pl
