/- Chapter 13's law MiddleWithin. -/
import Derived.Test.YtdomlccfjnkbjaaMiFour
namespace Go.Proofs.Ytdomlccfjnkbjaa.Pl
open Go.RowKit Go.Proofs.Ytdomlccfjnkbjaa.Sm Go.Proofs.Ytdomlccfjnkbjaa.Dp
set_option maxHeartbeats 4000000
set_option maxRecDepth 100000
set_option linter.unusedVariables false
set_option linter.unusedSimpArgs false
theorem drumlinelaw13_MiddleWithin_pc (xs:List Int) (hl:xs.length≤maxLen) (hx:∀ x ∈ xs, -2147483648≤x∧x≤2147483647) (ws:List Int) (hlw:ws.length≤maxLen) (q:Int) (f:Nat) (hf:(IntKind.i64.wrap q).tmod 4=(f:Int)) (hf3:f≤3):PC Try.prog [] 5 [sl' 1 (fun x=>[D.v (.int .i32 x)]) xs,sl' 1 (fun x=>[I x]) ws,D.v (.int .u8 q)] (· = D.v (.bool true)):=by
 refine PC.of (N:=120) Try.func5 rfl rfl (Nat.le_of_ble_eq_true rfl) ?_
 have w2f:IntKind.i64.wrap (IntKind.i64.wrap (2*(f:Int))+1)=2*(f:Int)+1:=by rw [Ev.wrap_i64 (x:=2*(f:Int)) oM oM,Ev.wrap_i64 oM oM]
 have w1f:IntKind.i64.wrap ((f:Int)+1)=(f:Int)+1:=by rw [Ev.wrap_i64 oM oM]
 refine PW.a [0,1,2] 0 (PW.sg (PL.row 4 [0,1,7] 0 (s':={ tab:=[⟨0,[],sl' 1 (fun x=>[D.v (.int .i32 x)]) xs⟩,⟨1,[],sl' 1 (fun x=>[I x]) ws⟩,⟨7,[],I ((IntKind.i64.wrap q).tmod 4)⟩],mem:=[] }) (p:=True) kR kR kR kR kR trivial (PL.eq (s':={ tab:=[⟨0,[],sl' 1 (fun x=>[D.v (.int .i32 x)]) xs⟩,⟨1,[],sl' 1 (fun x=>[I x]) ws⟩,⟨7,[],I (f:Int)⟩],mem:=[] }) (by rw [hf]) (PL.nl (PW.seq (PW.sg (PL.gc (A:=[]) (fun _=>drumlinelaw13_alive_pc) ?_)))))))
 refine PL.n 19 [0,1,7,38] 0 (PW.cd (((false||(decide ((xs.length:Int)<(IntKind.i64.wrap ((f:Int)+1)))))||(decide ((xs.length:Int)>(40:Int))))||(decide ((ws.length:Int)>(f:Int)))) (fun hz0 => ?_) (fun hz0 => ?_))
 ·try simp only [boolS] at hz0
  refine PW.sg (PL.gc (A:=[]) (fun _=>drumlinelaw13_alive_pc) (PL.n 1 [6] 0 (PW.ret (retQ_ret (d:=D.v (.bool true)) (ps:=[]) kR trivial ?_))))
  rfl
 ·try simp only [boolS] at hz0
  refine PW.k (PW.seq (PW.open [] kR (PO.tk [0,1,2,3,4,5,6,7,8,9] 10 [0,1,7,8,9] 0 (p:=(0≤(0:Int)∧(0:Int)<(xs.length:Int))∧(0≤(0:Int)∧(0:Int)<(xs.length:Int))) oM (fun _ _ h=>h) (PO.done kR ?_))))
  show PW _ _ _ _ _
  refine PW.a [0,1,7,8,9,10] 0 (PW.q [0,1,7,8,9,10,11] 0 (PW.block (PW.born 10 2 1 kR (PW.loopR (α := Nat×Int×Int×List Int) (fun (p,lo,hi,xa)=>{ tab:=[⟨0,[],sl' 1 (fun x=>[D.v (.int .i32 x)]) xs⟩,⟨1,[],sl' 1 (fun x=>[I x]) ws⟩,⟨7,[],I (f:Int)⟩,⟨8,[],I lo⟩,⟨9,[],I hi⟩,⟨10,[],D.h 0 xa.length⟩,⟨11,[],I (p:Int)⟩],mem:=[Obj.row 2 1 xa.length (fun j=>(fun x=>[I x]) (xa.getD j default))] }) (fun (p,lo,hi,xa)=>p≤xs.length∧xa=upN (trA xs) p∧∀ k,k<p→lo≤trA xs k∧trA xs k≤hi) (fun (p,lo,hi,xa)=>xs.length-p) [0,1,7,8,9,10,11] 1 (0,(IntKind.i64.wrap (xs.getD 0 default)),(IntKind.i64.wrap (xs.getD 0 default)),[]) (s1:={ tab:=[⟨0,[],sl' 1 (fun x=>[D.v (.int .i32 x)]) xs⟩,⟨1,[],sl' 1 (fun x=>[I x]) ws⟩,⟨7,[],I (f:Int)⟩,⟨8,[],I (IntKind.i64.wrap (xs.getD 0 default))⟩,⟨9,[],I (IntKind.i64.wrap (xs.getD 0 default))⟩,⟨10,[],D.h 0 0⟩,⟨11,[],I 0⟩],mem:=[Obj.row 2 1 0 (fun _=>[])] }) kR kR ?_ ?_ ?_))))
  ·dsimp only
   exact ⟨rfl,rfl,rfl,(.row rfl (fun j hj=>absurd hj (Nat.not_lt_zero _)) .nil)⟩
  ·dsimp only
   exact ⟨Nat.zero_le _,rfl,fun k hk=>absurd hk (Nat.not_lt_zero k)⟩
  rintro ⟨p,lo,hi,xa⟩ hinv
  dsimp only at hinv
  have hxa:xa.length=p:=by rw [hinv.2.1,upN_len]
  show PW _ _ _ _ _
  refine PW.q [0,1,7,8,9,10,11,51] 1 (PW.cd (decide ((p:Int)<(xs.length:Int))) (fun hz1 => ?_) (fun hz1 => ?_))
  ·try simp only [boolS] at hz1
   refine PW.k (PW.seq (PW.block (PW.sr [0,1,7,8,9,10,11,12] 1 (p:=(0≤(p:Int)∧(p:Int)<(xs.length:Int))) oM (PW.a [0,1,7,8,9,10,11,12] 1 (PW.region (PL.rw 4 [0,1,7,8,9,11,68] 2 (p:=((xa.length=xa.length∧1≤1)∧(xa.length+1)*8≤140737488355328∧xa.length+1≤9223372036854775807)) oM (PL.rm 0 (t:=2) (z:=1) (n:=(xa.length+1)) (fun j=>if j<xa.length then (fun j=>(fun x=>[I x]) (xa.getD j default)) j else (fun k=>([[I (IntKind.i64.wrap (xs.getD p default))]][k]?).getD []) (j-xa.length)) (fun j=>(fun x=>[I x]) ((xa++[IntKind.i64.wrap (xs.getD p default)]).getD j default)) (fun j hj=>by (try dsimp only); rw [getD_app xa [IntKind.i64.wrap (xs.getD p default)] j default,show xa.length=xa.length from (by (try simp only [List.length_set,List.length_replicate,List.length_append,List.length_cons,List.length_nil]) <;> omega)]; split <;> first|rfl|(rename_i hjn; rw [show j-xa.length=0 by omega]; rfl)) ?_)))))))
   refine PL.a 1 [0,1,7,8,9,10,11] 2 (PL.nil ?_)
   show PW _ _ _ _ _
   refine PW.b [0,1,7,8,9,10,11] 2 ?_
   refine BackR.of (s1:={ tab:=[⟨0,[],sl' 1 (fun x=>[D.v (.int .i32 x)]) xs⟩,⟨1,[],sl' 1 (fun x=>[I x]) ws⟩,⟨7,[],I (f:Int)⟩,⟨8,[],I (if IntKind.i64.wrap (xs.getD p default)<lo then IntKind.i64.wrap (xs.getD p default) else lo)⟩,⟨9,[],I (if IntKind.i64.wrap (xs.getD p default)>hi then IntKind.i64.wrap (xs.getD p default) else hi)⟩,⟨10,[],D.h 0 (xa.length+1)⟩,⟨11,[],I (IntKind.i64.wrap ((p:Int)+1))⟩],mem:=[Obj.row 2 1 (xa.length+1) (fun j=>(fun x=>[I x]) ((xa++[IntKind.i64.wrap (xs.getD p default)]).getD j default))] }) (p+1,if IntKind.i64.wrap (xs.getD p default)<lo then IntKind.i64.wrap (xs.getD p default) else lo,if IntKind.i64.wrap (xs.getD p default)>hi then IntKind.i64.wrap (xs.getD p default) else hi,xa++[IntKind.i64.wrap (xs.getD p default)]) kR kR ?_ ?_ ?_
   ·dsimp only
    rw [wrapS p oM]
    try simp only [List.length_append,List.length_singleton]
    exact Rem.refl _
   ·dsimp only
    refine ⟨by omega,?_,fun k hk => ?_⟩
    · rw [upN_one,← hinv.2.1]; rfl
    · have e8:trA xs p=IntKind.i64.wrap (xs.getD p default):=rfl
      rw [← e8]
      rcases Nat.lt_succ_iff_lt_or_eq.1 hk with h|rfl
      · have h8:=hinv.2.2 k h
        constructor <;> split <;> omega
      · constructor <;> split <;> omega
   ·dsimp only
    exact nD
  ·try simp only [boolS] at hz1
   refine PW.e (PW.seq (PW.w 1 [1,7,8,9,10,13] 1 (PL.sl [1,7,8,9,10,13] 1 (PL.eq (s':={ tab:=[⟨1,[],sl' 1 (fun x=>[I x]) ws⟩,⟨7,[],I (f:Int)⟩,⟨8,[],I lo⟩,⟨9,[],I hi⟩,⟨10,[],D.h 0 xa.length⟩,⟨13,[],I 0⟩],mem:=[Obj.row 2 1 xa.length (fun j=>(fun x=>[I x]) (xa.getD j default))] }) kR (PL.frzR 0 (t:=2) (z:=1) (m:=xa.length) (f:=(fun j=>(fun x=>[I x]) (xa.getD j default))) (f':=(fun i=>[I (xa.getD i default)])) (s':={ tab:=[⟨1,[],sl' 1 (fun x=>[I x]) ws⟩,⟨7,[],I (f:Int)⟩,⟨8,[],I lo⟩,⟨9,[],I hi⟩,⟨10,[],sl' 1 (fun x=>[I x]) xa⟩,⟨13,[],I 0⟩],mem:=[Obj.dead] }) rfl (fun j hj=>rfl) (Nat.zero_le _) (fz_eq (n:=xa.length) (d:=D.s xa.length 1 (fun i=>[I (xa.getD i default)])) (fun d9=>{ tab:=[⟨1,[],sl' 1 (fun x=>[I x]) ws⟩,⟨7,[],I (f:Int)⟩,⟨8,[],I lo⟩,⟨9,[],I hi⟩,⟨10,[],d9⟩,⟨13,[],I 0⟩],mem:=[Obj.dead] }) kR rfl) (PL.sl [1,7,8,9,10,13] 0 (PL.nl ?_)))))))
   refine PW.block (PW.lp (α := Nat×List Int) (fun (u,zs)=>{ tab:=[⟨1,[],sl' 1 (fun x=>[I x]) ws⟩,⟨7,[],I (f:Int)⟩,⟨8,[],I lo⟩,⟨9,[],I hi⟩,⟨10,[],sl' 1 (fun x=>[I x]) zs⟩,⟨13,[],I (u:Int)⟩],mem:=[] }) (fun (u,zs)=>u≤ws.length∧∃ vs:List Int,zs=vs++xa∧vs.length=u∧∀ x ∈ vs, -1099511627776≤x∧x≤1099511627776) (fun (u,zs)=>ws.length-u) [1,7,8,9,10,13] 0 (0,xa) ?_ ?_)
   ·dsimp only
    exact ⟨Nat.zero_le _,[],rfl,rfl,fun x hx=>by cases hx⟩
   rintro ⟨u,zs⟩ hinw
   dsimp only at hinw
   obtain ⟨hu,vs,hzs,hvl,hvs⟩:=hinw
   have hzl:zs.length=u+xa.length:=by rw [hzs,List.length_append,hvl]
   show PW _ _ _ _ _
   refine PW.q [1,7,8,9,10,13,72] 0 (PW.cd (decide ((u:Int)<(ws.length:Int))) (fun hz2 => ?_) (fun hz2 => ?_))
   ·try simp only [boolS] at hz2
    refine PW.k (PW.seq (PW.block (PW.seq (PW.sr [1,7,8,9,10,13,86] 0 (p:=(0≤(u:Int)∧(u:Int)<(ws.length:Int))∧(((decide ((ws.getD u default)<((-1099511627776):Int)))=false∧True→0≤(u:Int)∧(u:Int)<(ws.length:Int)))) nD (PW.cd ((decide ((ws.getD u default)<((-1099511627776):Int)))||(decide ((ws.getD u default)>(1099511627776:Int)))) (fun hz3 => ?_) (fun hz3 => ?_))))))
    ·try simp only [boolS] at hz3
     refine PW.t [6] 0 (retQ_ret (d:=D.v (.bool true)) (ps:=[]) kR trivial ?_)
     rfl
    ·try simp only [boolS] at hz3
     refine PW.k (PW.region (PL.rw 6 [1,7,8,9,10,13,92] 2 (p:=(0≤(u:Int)∧(u:Int)<(ws.length:Int))∧(1≤1∧(0+1)*8≤140737488355328∧0+1≤9223372036854775807)) oM (PL.rm 1 (t:=2) (z:=1) (n:=(0+1)) (fun j=>if j<0 then (fun _=>[]) j else (fun k=>([[I (ws.getD u default)]][k]?).getD []) (j-0)) (fun j=>(fun x=>[I x]) (([(ws.getD u default)]).getD j default)) (fun j hj=>by match j,hj with|0,_=>rfl|j+1,hj=>exact absurd hj oM) (PL.rw 2 [1,7,8,9,13,94] 2 (p:=((0+1=0+1∧True)∧(0+1+zs.length)*8≤140737488355328∧0+1+zs.length≤9223372036854775807)) nD (PL.rm 1 (t:=2) (z:=1) (n:=(0+1+zs.length)) (fun j=>if j<0+1 then (fun j=>(fun x=>[I x]) (([(ws.getD u default)]).getD j default)) j else (fun i=>[I (zs.getD i default)]) (j-(0+1))) (fun j=>(fun x=>[I x]) ((([(ws.getD u default)])++zs).getD j default)) (fun j hj=>by (try dsimp only); rw [getD_app]; rcases Nat.lt_or_ge j (0+1) with hj9|hj9 <;> first|(rw [if_pos hj9,if_pos (show j<([(ws.getD u default)]).length from (by (try simp only [List.length_set,List.length_replicate,List.length_append,List.length_cons,List.length_nil]) <;> omega))])|(rw [if_neg (Nat.not_lt.2 hj9),if_neg (show ¬ j<([(ws.getD u default)]).length from (by (try simp only [List.length_set,List.length_replicate,List.length_append,List.length_cons,List.length_nil]) <;> omega)),show j-([(ws.getD u default)]).length=j-(0+1) from (by (try simp only [List.length_set,List.length_replicate,List.length_append,List.length_cons,List.length_nil]) <;> omega)])) (PL.a 1 [1,7,8,9,10,13] 2 (PL.sl [1,7,8,9,10,13] 2 ?_)))))))
     refine PL.eq (s':={ tab:=[⟨1,[],sl' 1 (fun x=>[I x]) ws⟩,⟨7,[],I (f:Int)⟩,⟨8,[],I lo⟩,⟨9,[],I hi⟩,⟨10,[],D.h 1 (0+1+zs.length)⟩,⟨13,[],I (u:Int)⟩],mem:=[Obj.row 2 1 1 (fun k=>([[I (ws.getD u default)]][k]?).getD []),Obj.row 2 1 (0+1+zs.length) (fun j=>(fun x=>[I x]) ((([(ws.getD u default)])++zs).getD j default))] }) kR (PL.frzR 1 (t:=2) (z:=1) (m:=(0+1+zs.length)) (f:=(fun j=>(fun x=>[I x]) ((([(ws.getD u default)])++zs).getD j default))) (f':=(fun i=>[I ((([(ws.getD u default)])++zs).getD i default)])) (s':={ tab:=[⟨1,[],sl' 1 (fun x=>[I x]) ws⟩,⟨7,[],I (f:Int)⟩,⟨8,[],I lo⟩,⟨9,[],I hi⟩,⟨10,[],sl' 1 (fun x=>[I x]) (([(ws.getD u default)])++zs)⟩,⟨13,[],I (u:Int)⟩],mem:=[Obj.row 2 1 1 (fun k=>([[I (ws.getD u default)]][k]?).getD []),Obj.dead] }) rfl (fun j hj=>rfl) (Nat.zero_le _) (fz_eq (n:=0+1+zs.length) (d:=D.s (0+1+zs.length) 1 (fun i=>[I ((([(ws.getD u default)])++zs).getD i default)])) (fun d9=>{ tab:=[⟨1,[],sl' 1 (fun x=>[I x]) ws⟩,⟨7,[],I (f:Int)⟩,⟨8,[],I lo⟩,⟨9,[],I hi⟩,⟨10,[],d9⟩,⟨13,[],I (u:Int)⟩],mem:=[Obj.row 2 1 1 (fun k=>([[I (ws.getD u default)]][k]?).getD []),Obj.dead] }) kR (sl_len (z:=1) (n:=0+1+zs.length) (e:=(fun x=>[I x])) (xs:=(([(ws.getD u default)])++zs)) (by (try simp only [List.length_replicate,List.length_append,List.length_cons,List.length_nil,List.length_set,List.length_take,List.length_drop]) <;> omega))) (PL.sl [1,7,8,9,10,13] 1 (PL.nil ?_)))
     show PW _ _ _ _ _
     refine PW.b [1,7,8,9,10,13] 1 ?_
     refine BackR.of (s1:={ tab:=[⟨1,[],sl' 1 (fun x=>[I x]) ws⟩,⟨7,[],I (f:Int)⟩,⟨8,[],I lo⟩,⟨9,[],I hi⟩,⟨10,[],sl' 1 (fun x=>[I x]) (([(ws.getD u default)])++zs)⟩,⟨13,[],I (IntKind.i64.wrap ((u:Int)+1))⟩],mem:=[] }) (u+1,([(ws.getD u default)])++zs) kR kR ?_ ?_ ?_
     ·dsimp only
      rw [wrapS u oM]
      exact Rem.refl _
     ·dsimp only
      exact ⟨by omega,ws.getD u default::vs,by rw [hzs]; rfl,by rw [List.length_cons,hvl],fun x hx=>by
        rcases List.mem_cons.1 hx with rfl|h
        ·omega
        ·exact hvs x h⟩
     ·dsimp only
      exact nD
   ·try simp only [boolS] at hz2
    refine PW.e (PW.w 2 [7,8,9,10,96,97] 0 (PL.gc (A:=[]) (fun _=>middle_Mid_pc zs oM (f:Int)) (PL.n 5 [7,8,9,10,14,15] 0 (PW.q [8,9,14,15,106] 0 (PW.cd (decide ((zs.length:Int)<(IntKind.i64.wrap ((IntKind.i64.wrap (2*(f:Int)))+1)))) (fun hz4 => ?_) (fun hz4 => ?_))))))
    ·try simp only [boolS] at hz4
     refine PW.t [6] 0 (retQ_ret (d:=D.v (.bool (!(midB zs (f:Int))))) (ps:=[]) kR trivial ?_)
     rw [mid_short oM]
     rfl
    ·try simp only [boolS] at hz4
     refine PW.k (PW.t [6] 0 (retQ_ret (d:=D.v (.bool (((midB zs (f:Int))&&(decide ((midI zs (f:Int))≥lo)))&&(decide ((midI zs (f:Int))≤hi))))) (ps:=[]) kR trivial ?_))
     have e9:p=xs.length:=by omega
     have ha:xa=xs:=by rw [hinv.2.1,e9]; exact trA_is hx
     rw [ha] at hzs
     have hw:=within_end (vs:=vs) (rs:=xs) (lo:=lo) (hi:=hi) (f:=f) hvs hx (fun x hx'=>by
       obtain ⟨k,hk,rfl⟩:=at_of hx'
       have h8:=hinv.2.2 k oM
       have h9:=hx _ hx'
       rw [trA,Ev.wrap_i64 oM oM] at h8
       exact h8) oM (by rw [← hzs]; omega) (by rw [← hzs]; omega)
     rw [← hzs] at hw
     simp [hw.1,hw.2.1,hw.2.2]
end Go.Proofs.Ytdomlccfjnkbjaa.Pl
