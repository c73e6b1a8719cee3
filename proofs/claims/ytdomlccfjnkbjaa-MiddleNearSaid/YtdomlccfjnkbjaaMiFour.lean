/- Chapter 13's law MiddleTurned. -/
import Derived.Test.YtdomlccfjnkbjaaMiLaw
namespace Go.Proofs.Ytdomlccfjnkbjaa.Pl
open Go.RowKit Go.Proofs.Ytdomlccfjnkbjaa.Sm Go.Proofs.Ytdomlccfjnkbjaa.Dp
set_option maxHeartbeats 4000000
set_option maxRecDepth 100000
set_option linter.unusedVariables false
set_option linter.unusedSimpArgs false
def trA (xs:List Int) (k:Nat):Int:=IntKind.i64.wrap (xs.getD k default)
def trB (xs:List Int) (k:Nat):Int:=IntKind.i64.wrap (xs.getD (xs.length-1-k) default)
def trC (xs:List Int) (b:Int) (k:Nat):Int:=IntKind.i64.wrap (IntKind.i64.wrap (xs.getD k default)+IntKind.i64.wrap b)
theorem trA_is {xs:List Int} (hx:∀ x ∈ xs, -2147483648≤x∧x≤2147483647):upN (trA xs) xs.length=xs:=upN_is fun k hk=>by
 have:=hx _ (mem_at hk)
 exact Ev.wrap_i64 oM oM
theorem trB_is {xs:List Int} (hx:∀ x ∈ xs, -2147483648≤x∧x≤2147483647):upN (trB xs) xs.length=xs.reverse:=by
 have h:=upN_is (g:=trB xs) (xs:=xs.reverse) fun k hk=>by
  rw [List.length_reverse] at hk
  have:=hx _ (mem_at (xs:=xs) (k:=xs.length-1-k) oM)
  unfold trB
  rw [Ev.wrap_i64 oM oM,List.getD_eq_getElem?_getD,List.getD_eq_getElem?_getD,List.getElem?_reverse hk]
 rw [List.length_reverse] at h
 exact h
theorem trC_is {xs:List Int} {b:Int} (hx:∀ x ∈ xs, -2147483648≤x∧x≤2147483647) (hb : -2147483648≤b∧b≤2147483647):upN (trC xs b) xs.length=xs.map (· + b):=by
 have h:=upN_is (g:=trC xs b) (xs:=xs.map (· + b)) fun k hk=>by
  rw [List.length_map] at hk
  have:=hx _ (mem_at hk)
  unfold trC
  rw [Ev.wrap_i64 (x:=xs.getD k default) oM oM,Ev.wrap_i64 (x:=b) oM oM,Ev.wrap_i64 oM oM,map_at hk]
 rw [List.length_map] at h
 exact h
theorem drumlinelaw13_MiddleTurned_pc (xs:List Int) (hl:xs.length≤maxLen) (hx:∀ x ∈ xs, -2147483648≤x∧x≤2147483647) (q b:Int) (f:Nat) (hb : -2147483648≤b∧b≤2147483647) (hf:(IntKind.i64.wrap q).tmod 4=(f:Int)) (hf3:f≤3):PC Try.prog [] 4 [sl' 1 (fun x=>[D.v (.int .i32 x)]) xs,D.v (.int .u8 q),D.v (.int .i32 b)] (· = D.v (.bool true)):=by
 refine PC.of (N:=120) Try.func4 rfl rfl (Nat.le_of_ble_eq_true rfl) ?_
 have w2f:IntKind.i64.wrap (IntKind.i64.wrap (2*(f:Int))+1)=2*(f:Int)+1:=by rw [Ev.wrap_i64 (x:=2*(f:Int)) oM oM,Ev.wrap_i64 oM oM]
 refine PW.a [0,1,2] 0 (PW.sg (PL.row 4 [0,2,7] 0 (s':={ tab:=[⟨0,[],sl' 1 (fun x=>[D.v (.int .i32 x)]) xs⟩,⟨2,[],D.v (.int .i32 b)⟩,⟨7,[],I ((IntKind.i64.wrap q).tmod 4)⟩],mem:=[] }) (p:=True) kR kR kR kR kR trivial (PL.eq (s':={ tab:=[⟨0,[],sl' 1 (fun x=>[D.v (.int .i32 x)]) xs⟩,⟨2,[],D.v (.int .i32 b)⟩,⟨7,[],I (f:Int)⟩],mem:=[] }) (by rw [hf]) (PL.nl (PW.seq (PW.sg (PL.gc (A:=[]) (fun _=>drumlinelaw13_alive_pc) ?_)))))))
 refine PL.n 6 [0,2,7,27] 0 (PW.cd (false||(decide ((xs.length:Int)>(60:Int)))) (fun hz0 => ?_) (fun hz0 => ?_))
 ·try simp only [boolS] at hz0
  try have eB0:IntKind.i64.wrap (IntKind.i64.wrap ((xs.length:Int)-1)-(p:Int))=(xs.length:Int)-1-(p:Int):=by rw [Ev.wrap_i64 (x:=(xs.length:Int)-1) oM oM,Ev.wrap_i64 oM oM]
  refine PW.sg (PL.gc (A:=[]) (fun _=>drumlinelaw13_alive_pc) (PL.n 1 [6] 0 (PW.ret (retQ_ret (d:=D.v (.bool true)) (ps:=[]) kR trivial ?_))))
  rfl
 ·try simp only [boolS] at hz0
  try have eB0:IntKind.i64.wrap (IntKind.i64.wrap ((xs.length:Int)-1)-(p:Int))=(xs.length:Int)-1-(p:Int):=by rw [Ev.wrap_i64 (x:=(xs.length:Int)-1) oM oM,Ev.wrap_i64 oM oM]
  refine PW.k (PW.a [0,2,7,8,9,10] 0 (PW.q [0,2,7,8,9,10,11] 0 (PW.block (PW.born 8 2 1 kR (PW.born 9 2 1 kR (PW.born 10 2 1 kR (PW.loopR (α := Nat×List Int×List Int×List Int) (fun (p,xa,xb,xc)=>{ tab:=[⟨0,[],sl' 1 (fun x=>[D.v (.int .i32 x)]) xs⟩,⟨2,[],D.v (.int .i32 b)⟩,⟨7,[],I (f:Int)⟩,⟨8,[],D.h 0 xa.length⟩,⟨9,[],D.h 1 xb.length⟩,⟨10,[],D.h 2 xc.length⟩,⟨11,[],I (p:Int)⟩],mem:=[Obj.row 2 1 xa.length (fun j=>(fun x=>[I x]) (xa.getD j default)),Obj.row 2 1 xb.length (fun j=>(fun x=>[I x]) (xb.getD j default)),Obj.row 2 1 xc.length (fun j=>(fun x=>[I x]) (xc.getD j default))] }) (fun (p,xa,xb,xc)=>p≤xs.length∧xa=upN (trA xs) p∧xb=upN (trB xs) p∧xc=upN (trC xs b) p) (fun (p,xa,xb,xc)=>xs.length-p) [0,2,7,8,9,10,11] 3 (0,[],[],[]) (s1:={ tab:=[⟨0,[],sl' 1 (fun x=>[D.v (.int .i32 x)]) xs⟩,⟨2,[],D.v (.int .i32 b)⟩,⟨7,[],I (f:Int)⟩,⟨8,[],D.h 0 0⟩,⟨9,[],D.h 1 0⟩,⟨10,[],D.h 2 0⟩,⟨11,[],I 0⟩],mem:=[Obj.row 2 1 0 (fun _=>[]),Obj.row 2 1 0 (fun _=>[]),Obj.row 2 1 0 (fun _=>[])] }) kR kR ?_ ?_ ?_)))))))
  ·dsimp only
   exact ⟨rfl,rfl,rfl,(.row rfl (fun j hj=>absurd hj (Nat.not_lt_zero _)) (.row rfl (fun j hj=>absurd hj (Nat.not_lt_zero _)) (.row rfl (fun j hj=>absurd hj (Nat.not_lt_zero _)) .nil)))⟩
  ·dsimp only
   exact ⟨Nat.zero_le _,rfl,rfl,rfl⟩
  rintro ⟨p,xa,xb,xc⟩ hinv
  dsimp only at hinv
  have hxa:xa.length=p:=by rw [hinv.2.1,upN_len]
  have hxb:xb.length=p:=by rw [hinv.2.2.1,upN_len]
  have hxc:xc.length=p:=by rw [hinv.2.2.2,upN_len]
  show PW _ _ _ _ _
  refine PW.q [0,2,7,8,9,10,11,32] 3 (PW.cd (decide ((p:Int)<(xs.length:Int))) (fun hz1 => ?_) (fun hz1 => ?_))
  ·try simp only [boolS] at hz1
   try have eB0:IntKind.i64.wrap (IntKind.i64.wrap ((xs.length:Int)-1)-(p:Int))=(xs.length:Int)-1-(p:Int):=by rw [Ev.wrap_i64 (x:=(xs.length:Int)-1) oM oM,Ev.wrap_i64 oM oM]
   refine PW.k (PW.seq (PW.block (PW.sg (PL.rw 8 [0,2,7,9,10,11,42] 4 (p:=(0≤(p:Int)∧(p:Int)<(xs.length:Int))∧((xa.length=xa.length∧1≤1)∧(xa.length+1)*8≤140737488355328∧xa.length+1≤9223372036854775807)) oM (PL.rm 0 (t:=2) (z:=1) (n:=(xa.length+1)) (fun j=>if j<xa.length then (fun j=>(fun x=>[I x]) (xa.getD j default)) j else (fun k=>([[I (IntKind.i64.wrap (xs.getD p default))]][k]?).getD []) (j-xa.length)) (fun j=>(fun x=>[I x]) ((xa++[IntKind.i64.wrap (xs.getD p default)]).getD j default)) (fun j hj=>by (try dsimp only); rw [getD_app xa [IntKind.i64.wrap (xs.getD p default)] j default,show xa.length=xa.length from (by (try simp only [List.length_set,List.length_replicate,List.length_append,List.length_cons,List.length_nil]) <;> omega)]; split <;> first|rfl|(rename_i hjn; rw [show j-xa.length=0 by omega]; rfl)) (PL.n 1 [0,2,7,8,9,10,11] 4 (PW.sg ?_)))))))
   refine PL.rw 12 [0,2,7,8,10,11,54] 5 (p:=(0≤(IntKind.i64.wrap ((IntKind.i64.wrap ((xs.length:Int)-1))-(p:Int)))∧(IntKind.i64.wrap ((IntKind.i64.wrap ((xs.length:Int)-1))-(p:Int)))<(xs.length:Int))∧((xb.length=xb.length∧1≤1)∧(xb.length+1)*8≤140737488355328∧xb.length+1≤9223372036854775807)) oM (PL.rm 1 (t:=2) (z:=1) (n:=(xb.length+1)) (fun j=>if j<xb.length then (fun j=>(fun x=>[I x]) (xb.getD j default)) j else (fun k=>([[I (IntKind.i64.wrap (xs.getD ((IntKind.i64.wrap ((IntKind.i64.wrap ((xs.length:Int)-1))-(p:Int))).toNat) default))]][k]?).getD []) (j-xb.length)) (fun j=>(fun x=>[I x]) ((xb++[IntKind.i64.wrap (xs.getD ((IntKind.i64.wrap ((IntKind.i64.wrap ((xs.length:Int)-1))-(p:Int))).toNat) default)]).getD j default)) (fun j hj=>by (try dsimp only); rw [getD_app xb [IntKind.i64.wrap (xs.getD ((IntKind.i64.wrap ((IntKind.i64.wrap ((xs.length:Int)-1))-(p:Int))).toNat) default)] j default,show xb.length=xb.length from (by (try simp only [List.length_set,List.length_replicate,List.length_append,List.length_cons,List.length_nil]) <;> omega)]; split <;> first|rfl|(rename_i hjn; rw [show j-xb.length=0 by omega]; rfl)) (PL.n 1 [0,2,7,8,9,10,11] 5 (PW.region (PL.rw 11 [0,2,7,8,9,11,65] 6 (p:=(0≤(p:Int)∧(p:Int)<(xs.length:Int))∧((xc.length=xc.length∧1≤1)∧(xc.length+1)*8≤140737488355328∧xc.length+1≤9223372036854775807)) oM (PL.rm 2 (t:=2) (z:=1) (n:=(xc.length+1)) (fun j=>if j<xc.length then (fun j=>(fun x=>[I x]) (xc.getD j default)) j else (fun k=>([[I (IntKind.i64.wrap ((IntKind.i64.wrap (xs.getD p default))+(IntKind.i64.wrap b)))]][k]?).getD []) (j-xc.length)) (fun j=>(fun x=>[I x]) ((xc++[IntKind.i64.wrap ((IntKind.i64.wrap (xs.getD p default))+(IntKind.i64.wrap b))]).getD j default)) (fun j hj=>by (try dsimp only); rw [getD_app xc [IntKind.i64.wrap ((IntKind.i64.wrap (xs.getD p default))+(IntKind.i64.wrap b))] j default,show xc.length=xc.length from (by (try simp only [List.length_set,List.length_replicate,List.length_append,List.length_cons,List.length_nil]) <;> omega)]; split <;> first|rfl|(rename_i hjn; rw [show j-xc.length=0 by omega]; rfl)) (PL.a 1 [0,2,7,8,9,10,11] 6 (PL.nil ?_)))))))
   show PW _ _ _ _ _
   refine PW.b [0,2,7,8,9,10,11] 6 ?_
   refine BackR.of (s1:={ tab:=[⟨0,[],sl' 1 (fun x=>[D.v (.int .i32 x)]) xs⟩,⟨2,[],D.v (.int .i32 b)⟩,⟨7,[],I (f:Int)⟩,⟨8,[],D.h 0 (xa.length+1)⟩,⟨9,[],D.h 1 (xb.length+1)⟩,⟨10,[],D.h 2 (xc.length+1)⟩,⟨11,[],I (IntKind.i64.wrap ((p:Int)+1))⟩],mem:=[Obj.row 2 1 (xa.length+1) (fun j=>(fun x=>[I x]) ((xa++[IntKind.i64.wrap (xs.getD p default)]).getD j default)),Obj.row 2 1 (xb.length+1) (fun j=>(fun x=>[I x]) ((xb++[IntKind.i64.wrap (xs.getD ((IntKind.i64.wrap ((IntKind.i64.wrap ((xs.length:Int)-1))-(p:Int))).toNat) default)]).getD j default)),Obj.row 2 1 (xc.length+1) (fun j=>(fun x=>[I x]) ((xc++[IntKind.i64.wrap ((IntKind.i64.wrap (xs.getD p default))+(IntKind.i64.wrap b))]).getD j default))] }) (p+1,xa++[IntKind.i64.wrap (xs.getD p default)],xb++[IntKind.i64.wrap (xs.getD ((IntKind.i64.wrap ((IntKind.i64.wrap ((xs.length:Int)-1))-(p:Int))).toNat) default)],xc++[IntKind.i64.wrap ((IntKind.i64.wrap (xs.getD p default))+(IntKind.i64.wrap b))]) kR kR ?_ ?_ ?_
   ·dsimp only
    rw [wrapS p oM]
    try simp only [List.length_append,List.length_singleton]
    exact Rem.refl _
   ·dsimp only
    refine ⟨by omega,?_,?_,?_⟩
    ·rw [upN_one,← hinv.2.1]; rfl
    ·rw [upN_one,← hinv.2.2.1,trB,eB0,show ((xs.length:Int)-1-(p:Int)).toNat=xs.length-1-p by omega]
    ·rw [upN_one,← hinv.2.2.2]; rfl
   ·dsimp only
    exact nD
  ·try simp only [boolS] at hz1
   try have eB0:IntKind.i64.wrap (IntKind.i64.wrap ((xs.length:Int)-1)-(p:Int))=(xs.length:Int)-1-(p:Int):=by rw [Ev.wrap_i64 (x:=(xs.length:Int)-1) oM oM,Ev.wrap_i64 oM oM]
   refine PW.e (PW.w 2 [0,2,7,9,10,67,68] 3 (PL.sl [0,2,7,9,10,67,68] 3 (PL.eq (s':={ tab:=[⟨0,[],sl' 1 (fun x=>[D.v (.int .i32 x)]) xs⟩,⟨2,[],D.v (.int .i32 b)⟩,⟨7,[],I (f:Int)⟩,⟨9,[],D.h 1 xb.length⟩,⟨10,[],D.h 2 xc.length⟩,⟨67,[],D.h 0 xa.length⟩,⟨68,[],I (f:Int)⟩],mem:=[Obj.row 2 1 xa.length (fun j=>(fun x=>[I x]) (xa.getD j default)),Obj.row 2 1 xb.length (fun j=>(fun x=>[I x]) (xb.getD j default)),Obj.row 2 1 xc.length (fun j=>(fun x=>[I x]) (xc.getD j default))] }) kR (PL.frzR 0 (t:=2) (z:=1) (m:=xa.length) (f:=(fun j=>(fun x=>[I x]) (xa.getD j default))) (f':=(fun i=>[I (xa.getD i default)])) (s':={ tab:=[⟨0,[],sl' 1 (fun x=>[D.v (.int .i32 x)]) xs⟩,⟨2,[],D.v (.int .i32 b)⟩,⟨7,[],I (f:Int)⟩,⟨9,[],D.h 1 xb.length⟩,⟨10,[],D.h 2 xc.length⟩,⟨67,[],sl' 1 (fun x=>[I x]) xa⟩,⟨68,[],I (f:Int)⟩],mem:=[Obj.dead,Obj.row 2 1 xb.length (fun j=>(fun x=>[I x]) (xb.getD j default)),Obj.row 2 1 xc.length (fun j=>(fun x=>[I x]) (xc.getD j default))] }) rfl (fun j hj=>rfl) (Nat.zero_le _) (fz_eq (n:=xa.length) (d:=D.s xa.length 1 (fun i=>[I (xa.getD i default)])) (fun d9=>{ tab:=[⟨0,[],sl' 1 (fun x=>[D.v (.int .i32 x)]) xs⟩,⟨2,[],D.v (.int .i32 b)⟩,⟨7,[],I (f:Int)⟩,⟨9,[],D.h 1 xb.length⟩,⟨10,[],D.h 2 xc.length⟩,⟨67,[],d9⟩,⟨68,[],I (f:Int)⟩],mem:=[Obj.dead,Obj.row 2 1 xb.length (fun j=>(fun x=>[I x]) (xb.getD j default)),Obj.row 2 1 xc.length (fun j=>(fun x=>[I x]) (xc.getD j default))] }) kR rfl) (PL.gc (A:=[]) (fun _=>middle_Mid_pc xa oM (f:Int)) (PL.n 5 [0,2,7,9,10,12,13] 3 (PW.w 2 [0,2,7,10,12,13,73,74] 3 ?_)))))))
   refine PL.sl [0,2,7,10,12,13,73,74] 3 (PL.eq (s':={ tab:=[⟨0,[],sl' 1 (fun x=>[D.v (.int .i32 x)]) xs⟩,⟨2,[],D.v (.int .i32 b)⟩,⟨7,[],I (f:Int)⟩,⟨10,[],D.h 2 xc.length⟩,⟨12,[],I (midI xa (f:Int))⟩,⟨13,[],D.v (.bool (midB xa (f:Int)))⟩,⟨73,[],D.h 1 xb.length⟩,⟨74,[],I (f:Int)⟩],mem:=[Obj.dead,Obj.row 2 1 xb.length (fun j=>(fun x=>[I x]) (xb.getD j default)),Obj.row 2 1 xc.length (fun j=>(fun x=>[I x]) (xc.getD j default))] }) kR (PL.frzR 1 (t:=2) (z:=1) (m:=xb.length) (f:=(fun j=>(fun x=>[I x]) (xb.getD j default))) (f':=(fun i=>[I (xb.getD i default)])) (s':={ tab:=[⟨0,[],sl' 1 (fun x=>[D.v (.int .i32 x)]) xs⟩,⟨2,[],D.v (.int .i32 b)⟩,⟨7,[],I (f:Int)⟩,⟨10,[],D.h 2 xc.length⟩,⟨12,[],I (midI xa (f:Int))⟩,⟨13,[],D.v (.bool (midB xa (f:Int)))⟩,⟨73,[],sl' 1 (fun x=>[I x]) xb⟩,⟨74,[],I (f:Int)⟩],mem:=[Obj.dead,Obj.dead,Obj.row 2 1 xc.length (fun j=>(fun x=>[I x]) (xc.getD j default))] }) rfl (fun j hj=>rfl) (Nat.zero_le _) (fz_eq (n:=xb.length) (d:=D.s xb.length 1 (fun i=>[I (xb.getD i default)])) (fun d9=>{ tab:=[⟨0,[],sl' 1 (fun x=>[D.v (.int .i32 x)]) xs⟩,⟨2,[],D.v (.int .i32 b)⟩,⟨7,[],I (f:Int)⟩,⟨10,[],D.h 2 xc.length⟩,⟨12,[],I (midI xa (f:Int))⟩,⟨13,[],D.v (.bool (midB xa (f:Int)))⟩,⟨73,[],d9⟩,⟨74,[],I (f:Int)⟩],mem:=[Obj.dead,Obj.dead,Obj.row 2 1 xc.length (fun j=>(fun x=>[I x]) (xc.getD j default))] }) kR rfl) (PL.gc (A:=[]) (fun _=>middle_Mid_pc xb oM (f:Int)) (PL.n 5 [0,2,7,10,12,13,14,15] 3 (PW.w 2 [0,2,7,12,13,14,15,79,80] 3 (PL.sl [0,2,7,12,13,14,15,79,80] 3 (PL.eq (s':={ tab:=[⟨0,[],sl' 1 (fun x=>[D.v (.int .i32 x)]) xs⟩,⟨2,[],D.v (.int .i32 b)⟩,⟨7,[],I (f:Int)⟩,⟨12,[],I (midI xa (f:Int))⟩,⟨13,[],D.v (.bool (midB xa (f:Int)))⟩,⟨14,[],I (midI xb (f:Int))⟩,⟨15,[],D.v (.bool (midB xb (f:Int)))⟩,⟨79,[],D.h 2 xc.length⟩,⟨80,[],I (f:Int)⟩],mem:=[Obj.dead,Obj.dead,Obj.row 2 1 xc.length (fun j=>(fun x=>[I x]) (xc.getD j default))] }) kR ?_)))))))
   refine PL.frzR 2 (t:=2) (z:=1) (m:=xc.length) (f:=(fun j=>(fun x=>[I x]) (xc.getD j default))) (f':=(fun i=>[I (xc.getD i default)])) (s':={ tab:=[⟨0,[],sl' 1 (fun x=>[D.v (.int .i32 x)]) xs⟩,⟨2,[],D.v (.int .i32 b)⟩,⟨7,[],I (f:Int)⟩,⟨12,[],I (midI xa (f:Int))⟩,⟨13,[],D.v (.bool (midB xa (f:Int)))⟩,⟨14,[],I (midI xb (f:Int))⟩,⟨15,[],D.v (.bool (midB xb (f:Int)))⟩,⟨79,[],sl' 1 (fun x=>[I x]) xc⟩,⟨80,[],I (f:Int)⟩],mem:=[Obj.dead,Obj.dead,Obj.dead] }) rfl (fun j hj=>rfl) (Nat.zero_le _) (fz_eq (n:=xc.length) (d:=D.s xc.length 1 (fun i=>[I (xc.getD i default)])) (fun d9=>{ tab:=[⟨0,[],sl' 1 (fun x=>[D.v (.int .i32 x)]) xs⟩,⟨2,[],D.v (.int .i32 b)⟩,⟨7,[],I (f:Int)⟩,⟨12,[],I (midI xa (f:Int))⟩,⟨13,[],D.v (.bool (midB xa (f:Int)))⟩,⟨14,[],I (midI xb (f:Int))⟩,⟨15,[],D.v (.bool (midB xb (f:Int)))⟩,⟨79,[],d9⟩,⟨80,[],I (f:Int)⟩],mem:=[Obj.dead,Obj.dead,Obj.dead] }) kR rfl) (PL.gc (A:=[]) (fun _=>middle_Mid_pc xc oM (f:Int)) (PL.n 5 [0,2,7,12,13,14,15,16,17] 3 (PW.q [2,12,13,14,15,16,17,89] 3 (PW.cd (decide ((xs.length:Int)<(IntKind.i64.wrap ((IntKind.i64.wrap (2*(f:Int)))+1)))) (fun hz2 => ?_) (fun hz2 => ?_)))))
   ·try simp only [boolS] at hz2
    try have eB0:IntKind.i64.wrap (IntKind.i64.wrap ((xs.length:Int)-1)-(p:Int))=(xs.length:Int)-1-(p:Int):=by rw [Ev.wrap_i64 (x:=(xs.length:Int)-1) oM oM,Ev.wrap_i64 oM oM]
    refine PW.t [6] 3 (retQ_ret (d:=D.v (.bool (((!(midB xa (f:Int)))&&(!(midB xb (f:Int))))&&(!(midB xc (f:Int)))))) (ps:=[]) kR trivial ?_)
    have e9:p=xs.length:=by omega
    have ha:xa=xs:=by rw [hinv.2.1,e9]; exact trA_is hx
    have hbb:xb=xs.reverse:=by rw [hinv.2.2.1,e9]; exact trB_is hx
    have hcc:xc=xs.map (· + b):=by rw [hinv.2.2.2,e9]; exact trC_is hx hb
    rw [ha,hbb,hcc]
    rw [mid_short (xs:=xs) oM,mid_short (xs:=xs.reverse) (by rw [List.length_reverse]; omega),mid_short (xs:=xs.map (· + b)) (by rw [List.length_map]; omega)]
    rfl
   ·try simp only [boolS] at hz2
    try have eB0:IntKind.i64.wrap (IntKind.i64.wrap ((xs.length:Int)-1)-(p:Int))=(xs.length:Int)-1-(p:Int):=by rw [Ev.wrap_i64 (x:=(xs.length:Int)-1) oM oM,Ev.wrap_i64 oM oM]
    refine PW.k (PW.t [6] 3 (retQ_ret (d:=D.v (.bool (((((midB xa (f:Int))&&(midB xb (f:Int)))&&(midB xc (f:Int)))&&((midI xa (f:Int)) == (midI xb (f:Int))))&&((midI xc (f:Int)) == (IntKind.i64.wrap ((midI xa (f:Int))+(IntKind.i64.wrap b))))))) (ps:=[]) kR trivial ?_))
    have e9:p=xs.length:=by omega
    have ha:xa=xs:=by rw [hinv.2.1,e9]; exact trA_is hx
    have hbb:xb=xs.reverse:=by rw [hinv.2.2.1,e9]; exact trB_is hx
    have hcc:xc=xs.map (· + b):=by rw [hinv.2.2.2,e9]; exact trC_is hx hb
    rw [ha,hbb,hcc]
    have ht:=turned_end (f:=f) hx hb oM oM
    rw [ht.1,ht.2.1,ht.2.2.1,← ht.2.2.2.1,ht.2.2.2.2,Ev.wrap_i64 (x:=b) oM oM]
    simp
end Go.Proofs.Ytdomlccfjnkbjaa.Pl
