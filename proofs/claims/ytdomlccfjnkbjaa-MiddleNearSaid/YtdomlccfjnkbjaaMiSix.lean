/- Chapter 13's law MiddleNear. -/
import Derived.Test.YtdomlccfjnkbjaaMiFour
namespace Go.Proofs.Ytdomlccfjnkbjaa.Pl
open Go.RowKit Go.Proofs.Ytdomlccfjnkbjaa.Sm Go.Proofs.Ytdomlccfjnkbjaa.Dp
set_option maxHeartbeats 4000000
set_option maxRecDepth 100000
set_option linter.unusedVariables false
set_option linter.unusedSimpArgs false
def nrB (xs os:List Int) (mx:Int) (k:Nat):Int:=IntKind.i64.wrap (IntKind.i64.wrap (xs.getD k default)+(IntKind.i64.wrap (os.getD k default)).tmod (IntKind.i64.wrap (mx+1)))
theorem nrB_near {xs os:List Int} {mx:Int} {k:Nat} (hx : -2147483648≤xs.getD k default∧xs.getD k default≤2147483647) (ho:∀ x ∈ os, -32768≤x∧x≤32767) (hk:k<os.length) (hm2:0≤mx∧mx≤255):trA xs k=xs.getD k default∧nrB xs os mx k≤xs.getD k default+mx∧xs.getD k default≤nrB xs os mx k+mx:=by
 have h1:=ho _ (mem_at hk)
 have h2:=tmod_lo (a:=os.getD k default) (b:=mx+1) oM
 have h3:=Int.tmod_lt_of_pos (os.getD k default) (show 0<mx+1 by omega)
 refine ⟨Ev.wrap_i64 oM oM,?_⟩
 unfold nrB
 rw [Ev.wrap_i64 (x:=xs.getD k default) oM oM,Ev.wrap_i64 (x:=os.getD k default) oM oM,Ev.wrap_i64 (x:=mx+1) oM oM,Ev.wrap_i64 oM oM]
 omega
theorem drumlinelaw13_MiddleNear_pc (xs:List Int) (hl:xs.length≤maxLen) (hx:∀ x ∈ xs, -2147483648≤x∧x≤2147483647) (os:List Int) (hlo:os.length≤maxLen) (ho:∀ x ∈ os, -32768≤x∧x≤32767) (q d mx:Int) (f:Nat) (hf:(IntKind.i64.wrap q).tmod 4=(f:Int)) (hf3:f≤3) (hm:IntKind.i64.wrap d=mx) (hm2:0≤mx∧mx≤255):PC Try.prog [] 6 [sl' 1 (fun x=>[D.v (.int .i32 x)]) xs,sl' 1 (fun x=>[D.v (.int .i16 x)]) os,D.v (.int .u8 q),D.v (.int .u8 d)] (· = D.v (.bool true)):=by
 refine PC.of (N:=107) Try.func6 rfl rfl (Nat.le_of_ble_eq_true rfl) ?_
 have w2f:IntKind.i64.wrap (IntKind.i64.wrap (2*(f:Int))+1)=2*(f:Int)+1:=by rw [Ev.wrap_i64 (x:=2*(f:Int)) oM oM,Ev.wrap_i64 oM oM]
 have wm:IntKind.i64.wrap (mx+1)=mx+1:=by rw [Ev.wrap_i64 oM oM]
 refine PW.a [0,1,2,3] 0 (PW.sg (PL.row 7 [0,1,9,10] 0 (s':={ tab:=[⟨0,[],sl' 1 (fun x=>[D.v (.int .i32 x)]) xs⟩,⟨1,[],sl' 1 (fun x=>[D.v (.int .i16 x)]) os⟩,⟨9,[],I ((IntKind.i64.wrap q).tmod 4)⟩,⟨10,[],I (IntKind.i64.wrap d)⟩],mem:=[] }) (p:=True) kR kR kR kR kR trivial (PL.eq (s':={ tab:=[⟨0,[],sl' 1 (fun x=>[D.v (.int .i32 x)]) xs⟩,⟨1,[],sl' 1 (fun x=>[D.v (.int .i16 x)]) os⟩,⟨9,[],I (f:Int)⟩,⟨10,[],I mx⟩],mem:=[] }) (by rw [hf,hm]) (PL.nl (PW.seq (PW.sg (PL.gc (A:=[]) (fun _=>drumlinelaw13_alive_pc) ?_)))))))
 refine PL.n 21 [0,1,9,10,44] 0 (PW.cd (((false||(decide ((xs.length:Int)>(40:Int))))||(decide ((os.length:Int)<(xs.length:Int))))||(decide ((xs.length:Int)<(IntKind.i64.wrap ((IntKind.i64.wrap (2*(f:Int)))+1))))) (fun hz0 => ?_) (fun hz0 => ?_))
 ·try simp only [boolS] at hz0
  refine PW.sg (PL.gc (A:=[]) (fun _=>drumlinelaw13_alive_pc) (PL.n 1 [8] 0 (PW.ret (retQ_ret (d:=D.v (.bool true)) (ps:=[]) kR trivial ?_))))
  rfl
 ·try simp only [boolS] at hz0
  refine PW.k (PW.a [0,1,9,10,11,12] 0 (PW.q [0,1,9,10,11,12,13] 0 (PW.block (PW.born 11 2 1 kR (PW.born 12 2 1 kR (PW.loopR (α := Nat×List Int×List Int) (fun (p,xa,xb)=>{ tab:=[⟨0,[],sl' 1 (fun x=>[D.v (.int .i32 x)]) xs⟩,⟨1,[],sl' 1 (fun x=>[D.v (.int .i16 x)]) os⟩,⟨9,[],I (f:Int)⟩,⟨10,[],I mx⟩,⟨11,[],D.h 0 xa.length⟩,⟨12,[],D.h 1 xb.length⟩,⟨13,[],I (p:Int)⟩],mem:=[Obj.row 2 1 xa.length (fun j=>(fun x=>[I x]) (xa.getD j default)),Obj.row 2 1 xb.length (fun j=>(fun x=>[I x]) (xb.getD j default))] }) (fun (p,xa,xb)=>p≤xs.length∧xa=upN (trA xs) p∧xb=upN (nrB xs os mx) p) (fun (p,xa,xb)=>xs.length-p) [0,1,9,10,11,12,13] 2 (0,[],[]) (s1:={ tab:=[⟨0,[],sl' 1 (fun x=>[D.v (.int .i32 x)]) xs⟩,⟨1,[],sl' 1 (fun x=>[D.v (.int .i16 x)]) os⟩,⟨9,[],I (f:Int)⟩,⟨10,[],I mx⟩,⟨11,[],D.h 0 0⟩,⟨12,[],D.h 1 0⟩,⟨13,[],I 0⟩],mem:=[Obj.row 2 1 0 (fun _=>[]),Obj.row 2 1 0 (fun _=>[])] }) kR kR ?_ ?_ ?_))))))
  ·dsimp only
   exact ⟨rfl,rfl,rfl,(.row rfl (fun j hj=>absurd hj (Nat.not_lt_zero _)) (.row rfl (fun j hj=>absurd hj (Nat.not_lt_zero _)) .nil))⟩
  ·dsimp only
   exact ⟨Nat.zero_le _,rfl,rfl⟩
  rintro ⟨p,xa,xb⟩ hinv
  dsimp only at hinv
  have hxa:xa.length=p:=by rw [hinv.2.1,upN_len]
  have hxb:xb.length=p:=by rw [hinv.2.2,upN_len]
  show PW _ _ _ _ _
  refine PW.q [0,1,9,10,11,12,13,49] 2 (PW.cd (decide ((p:Int)<(xs.length:Int))) (fun hz1 => ?_) (fun hz1 => ?_))
  ·try simp only [boolS] at hz1
   refine PW.k (PW.seq (PW.block (PW.sg (PL.rw 8 [0,1,9,10,12,13,59] 3 (p:=(0≤(p:Int)∧(p:Int)<(xs.length:Int))∧((xa.length=xa.length∧1≤1)∧(xa.length+1)*8≤140737488355328∧xa.length+1≤9223372036854775807)) oM (PL.rm 0 (t:=2) (z:=1) (n:=(xa.length+1)) (fun j=>if j<xa.length then (fun j=>(fun x=>[I x]) (xa.getD j default)) j else (fun k=>([[I (IntKind.i64.wrap (xs.getD p default))]][k]?).getD []) (j-xa.length)) (fun j=>(fun x=>[I x]) ((xa++[IntKind.i64.wrap (xs.getD p default)]).getD j default)) (fun j hj=>by (try dsimp only); rw [getD_app xa [IntKind.i64.wrap (xs.getD p default)] j default,show xa.length=xa.length from (by (try simp only [List.length_set,List.length_replicate,List.length_append,List.length_cons,List.length_nil]) <;> omega)]; split <;> first|rfl|(rename_i hjn; rw [show j-xa.length=0 by omega]; rfl)) (PL.n 1 [0,1,9,10,11,12,13] 3 (PW.open [1] kR ?_)))))))
   refine PO.tk [0,1,2,3,4,5,6,7,8,9,10,11,12] 18 [0,1,9,10,11,12,13,60,65,70,72] 5 (p:=(0≤(p:Int)∧(p:Int)<(xs.length:Int))∧(0≤(p:Int)∧(p:Int)<(os.length:Int))) oM (fun _ _ h=>h) (PO.one (n:=4) 13 kR (PO1.div (k := .i64) (A:=[]) (IntKind.i64.wrap (os.getD p default)) (IntKind.i64.wrap (mx+1)) ((IntKind.i64.wrap (os.getD p default)).tmod (IntKind.i64.wrap (mx+1))) rfl rfl (by first|exact .inl ⟨rfl,rfl⟩|exact .inr ⟨rfl,rfl⟩) kR kR kR kR kR (fun _=>by omega) (PO.a [14] 4 [0,1,9,10,11,12,13,60,74] 3 (PO.one (n:=2) 15 kR (PO1.a [0,1,9,10,11,12,13,60,75] 4 (PO.one (n:=1) 16 kR (PO1.mm rfl [0,1,9,10,11,12,13,76] 4 (p:=((xb.length=xb.length∧1≤1)∧(xb.length+1)*8≤140737488355328∧xb.length+1≤9223372036854775807)) oM ?_)))))))
   refine PO.rm 1 (t:=2) (z:=1) (n:=(xb.length+1)) (fun j=>if j<xb.length then (fun j=>(fun x=>[I x]) (xb.getD j default)) j else (fun k=>([[I (IntKind.i64.wrap ((IntKind.i64.wrap (xs.getD p default))+((IntKind.i64.wrap (os.getD p default)).tmod (IntKind.i64.wrap (mx+1)))))]][k]?).getD []) (j-xb.length)) (fun j=>(fun x=>[I x]) ((xb++[IntKind.i64.wrap ((IntKind.i64.wrap (xs.getD p default))+((IntKind.i64.wrap (os.getD p default)).tmod (IntKind.i64.wrap (mx+1))))]).getD j default)) (fun j hj=>by (try dsimp only); rw [getD_app xb [IntKind.i64.wrap ((IntKind.i64.wrap (xs.getD p default))+((IntKind.i64.wrap (os.getD p default)).tmod (IntKind.i64.wrap (mx+1))))] j default,show xb.length=xb.length from (by (try simp only [List.length_set,List.length_replicate,List.length_append,List.length_cons,List.length_nil]) <;> omega)]; split <;> first|rfl|(rename_i hjn; rw [show j-xb.length=0 by omega]; rfl)) (PO.a [17] 1 [0,1,9,10,11,12,13] 0 (PO.done kR ?_))
   show PW _ _ _ _ _
   refine PW.b [0,1,9,10,11,12,13] 4 ?_
   refine BackR.of (s1:={ tab:=[⟨0,[],sl' 1 (fun x=>[D.v (.int .i32 x)]) xs⟩,⟨1,[],sl' 1 (fun x=>[D.v (.int .i16 x)]) os⟩,⟨9,[],I (f:Int)⟩,⟨10,[],I mx⟩,⟨11,[],D.h 0 (xa.length+1)⟩,⟨12,[],D.h 1 (xb.length+1)⟩,⟨13,[],I (IntKind.i64.wrap ((p:Int)+1))⟩],mem:=[Obj.row 2 1 (xa.length+1) (fun j=>(fun x=>[I x]) ((xa++[IntKind.i64.wrap (xs.getD p default)]).getD j default)),Obj.row 2 1 (xb.length+1) (fun j=>(fun x=>[I x]) ((xb++[IntKind.i64.wrap ((IntKind.i64.wrap (xs.getD p default))+((IntKind.i64.wrap (os.getD p default)).tmod (IntKind.i64.wrap (mx+1))))]).getD j default))] }) (p+1,xa++[IntKind.i64.wrap (xs.getD p default)],xb++[IntKind.i64.wrap ((IntKind.i64.wrap (xs.getD p default))+((IntKind.i64.wrap (os.getD p default)).tmod (IntKind.i64.wrap (mx+1))))]) kR kR ?_ ?_ ?_
   ·dsimp only
    rw [wrapS p oM]
    try simp only [List.length_append,List.length_singleton]
    exact Rem.refl _
   ·dsimp only
    exact ⟨by omega,by rw [upN_one,← hinv.2.1]; rfl,by rw [upN_one,← hinv.2.2]; rfl⟩
   ·dsimp only
    exact nD
  ·try simp only [boolS] at hz1
   refine PW.e (PW.w 2 [9,10,12,78,79] 2 (PL.sl [9,10,12,78,79] 2 (PL.eq (s':={ tab:=[⟨9,[],I (f:Int)⟩,⟨10,[],I mx⟩,⟨12,[],D.h 1 xb.length⟩,⟨78,[],D.h 0 xa.length⟩,⟨79,[],I (f:Int)⟩],mem:=[Obj.row 2 1 xa.length (fun j=>(fun x=>[I x]) (xa.getD j default)),Obj.row 2 1 xb.length (fun j=>(fun x=>[I x]) (xb.getD j default))] }) kR (PL.frzR 0 (t:=2) (z:=1) (m:=xa.length) (f:=(fun j=>(fun x=>[I x]) (xa.getD j default))) (f':=(fun i=>[I (xa.getD i default)])) (s':={ tab:=[⟨9,[],I (f:Int)⟩,⟨10,[],I mx⟩,⟨12,[],D.h 1 xb.length⟩,⟨78,[],sl' 1 (fun x=>[I x]) xa⟩,⟨79,[],I (f:Int)⟩],mem:=[Obj.dead,Obj.row 2 1 xb.length (fun j=>(fun x=>[I x]) (xb.getD j default))] }) rfl (fun j hj=>rfl) (Nat.zero_le _) (fz_eq (n:=xa.length) (d:=D.s xa.length 1 (fun i=>[I (xa.getD i default)])) (fun d9=>{ tab:=[⟨9,[],I (f:Int)⟩,⟨10,[],I mx⟩,⟨12,[],D.h 1 xb.length⟩,⟨78,[],d9⟩,⟨79,[],I (f:Int)⟩],mem:=[Obj.dead,Obj.row 2 1 xb.length (fun j=>(fun x=>[I x]) (xb.getD j default))] }) kR rfl) (PL.gc (A:=[]) (fun _=>middle_Mid_pc xa oM (f:Int)) (PL.n 5 [9,10,12,14,15] 2 (PW.w 2 [10,14,15,84,85] 2 ?_)))))))
   refine PL.sl [10,14,15,84,85] 2 (PL.eq (s':={ tab:=[⟨10,[],I mx⟩,⟨14,[],I (midI xa (f:Int))⟩,⟨15,[],D.v (.bool (midB xa (f:Int)))⟩,⟨84,[],D.h 1 xb.length⟩,⟨85,[],I (f:Int)⟩],mem:=[Obj.dead,Obj.row 2 1 xb.length (fun j=>(fun x=>[I x]) (xb.getD j default))] }) kR (PL.frzR 1 (t:=2) (z:=1) (m:=xb.length) (f:=(fun j=>(fun x=>[I x]) (xb.getD j default))) (f':=(fun i=>[I (xb.getD i default)])) (s':={ tab:=[⟨10,[],I mx⟩,⟨14,[],I (midI xa (f:Int))⟩,⟨15,[],D.v (.bool (midB xa (f:Int)))⟩,⟨84,[],sl' 1 (fun x=>[I x]) xb⟩,⟨85,[],I (f:Int)⟩],mem:=[Obj.dead,Obj.dead] }) rfl (fun j hj=>rfl) (Nat.zero_le _) (fz_eq (n:=xb.length) (d:=D.s xb.length 1 (fun i=>[I (xb.getD i default)])) (fun d9=>{ tab:=[⟨10,[],I mx⟩,⟨14,[],I (midI xa (f:Int))⟩,⟨15,[],D.v (.bool (midB xa (f:Int)))⟩,⟨84,[],d9⟩,⟨85,[],I (f:Int)⟩],mem:=[Obj.dead,Obj.dead] }) kR rfl) (PL.gc (A:=[]) (fun _=>middle_Mid_pc xb oM (f:Int)) (PL.n 5 [10,14,15,16,17] 2 (PW.t [8] 2 (retQ_ret (d:=D.v (.bool ((((midB xa (f:Int))&&(midB xb (f:Int)))&&(decide ((IntKind.i64.wrap ((midI xa (f:Int))-(midI xb (f:Int))))≤mx)))&&(decide ((IntKind.i64.wrap ((midI xb (f:Int))-(midI xa (f:Int))))≤mx))))) (ps:=[]) kR trivial ?_))))))
   have e9:p=xs.length:=by omega
   have hh:∀ k,k<xs.length→(-2147483648≤xs.getD k default∧xs.getD k default≤2147483647)∧trA xs k=xs.getD k default∧nrB xs os mx k≤xs.getD k default+mx∧xs.getD k default≤nrB xs os mx k+mx:=fun k hk=>⟨hx _ (mem_at hk),nrB_near (hx _ (mem_at hk)) ho oM hm2⟩
   have hn:=near_end (A:=trA xs) (B:=nrB xs os mx) (n:=xs.length) (f:=f) (d:=mx) (fun k hk=>by have:=hh k hk; omega) (fun k hk=>by have:=hh k hk; omega) (fun k hk=>by have:=hh k hk; omega) oM oM
   rw [hinv.2.1,hinv.2.2,e9]
   simp [hn.1,hn.2.1,hn.2.2.1,hn.2.2.2]
end Go.Proofs.Ytdomlccfjnkbjaa.Pl
