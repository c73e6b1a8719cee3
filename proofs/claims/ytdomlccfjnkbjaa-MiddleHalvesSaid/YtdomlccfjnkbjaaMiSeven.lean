/- Chapter 13's law MiddleHalves. -/
import Derived.Test.YtdomlccfjnkbjaaMiSix
namespace Go.Proofs.Ytdomlccfjnkbjaa.Pl
open Go.RowKit Go.Proofs.Ytdomlccfjnkbjaa.Sm Go.Proofs.Ytdomlccfjnkbjaa.Dp
set_option maxHeartbeats 4000000
set_option maxRecDepth 100000
set_option linter.unusedVariables false
set_option linter.unusedSimpArgs false
def hvX (xs w:List Int) (f k:Nat):Int:=if k<f then IntKind.i64.wrap (w.getD k default) else IntKind.i64.wrap (xs.getD k default)
def hvY (xs os w:List Int) (mx:Int) (f k:Nat):Int:=if k<f then IntKind.i64.wrap (w.getD k default) else nrB xs os mx k
theorem hv_one {X:Nat→Int} {p:Nat} {xa:List Int} {v:Int} (h:xa=upN X p) (e:X p=v):xa++[v]=upN X (p+1):=by rw [upN_one,← h,e]
theorem hv_two {X Y:Nat→Int} {p f:Nat} {lo hi lo' hi':Int} (h:∀ k,f≤k→k<p→(lo≤X k∧X k≤hi)∧(lo≤Y k∧Y k≤hi)) (h1:lo'≤lo∨p=f) (h2:hi≤hi'∨p=f) (h3:lo'≤X p) (h4:lo'≤Y p) (h5:X p≤hi') (h6:Y p≤hi'):∀ k,f≤k→k<p+1→(lo'≤X k∧X k≤hi')∧(lo'≤Y k∧Y k≤hi'):=by
 intro k k1 k2
 rcases Nat.lt_succ_iff_lt_or_eq.1 k2 with k3|rfl
 ·have:=h k k1 k3
  omega
 ·exact ⟨⟨h3,h5⟩,h4,h6⟩
theorem hv_in {xs os v w:List Int} {mx:Int} {f p:Nat} (hx:∀ x ∈ xs,0≤x∧x≤65535) (ho:∀ x ∈ os, -32768≤x∧x≤32767) (hp:p<xs.length) (hk:p<os.length) (hm2:0≤mx∧mx≤255) (hpf:f≤p):(0≤hvX xs v f p∧hvX xs v f p≤65535)∧(-255≤hvY xs os w mx f p∧hvY xs os w mx f p≤65790)∧hvY xs os w mx f p≤hvX xs v f p+mx∧hvX xs v f p≤hvY xs os w mx f p+mx:=by
 have h1:=hx _ (mem_at hp)
 have h2:=nrB_near (xs:=xs) (os:=os) (mx:=mx) (k:=p) oM ho hk hm2
 have e1:hvX xs v f p=trA xs p:=if_neg oM
 have e2:hvY xs os w mx f p=nrB xs os mx p:=if_neg oM
 rw [e1,e2]
 omega
theorem hv_out {xs os v w:List Int} {mx:Int} {f p:Nat} (hv:∀ x ∈ v, -2147483648≤x∧x≤2147483647) (hw:∀ x ∈ w, -2147483648≤x∧x≤2147483647) (hp:p<v.length) (hk:p<w.length) (hpf:p<f):(-2147483648≤hvX xs v f p∧hvX xs v f p≤2147483647)∧(-2147483648≤hvY xs os w mx f p∧hvY xs os w mx f p≤2147483647):=by
 have h1:=hv _ (mem_at hp)
 have h2:=hw _ (mem_at hk)
 have e1:hvX xs v f p=IntKind.i64.wrap (v.getD p default):=if_pos hpf
 have e2:hvY xs os w mx f p=IntKind.i64.wrap (w.getD p default):=if_pos hpf
 rw [e1,e2,Ev.wrap_i64 oM oM,Ev.wrap_i64 oM oM]
 exact ⟨h1,h2⟩
theorem drumlinelaw13_MiddleHalves_pc (xs:List Int) (hl:xs.length≤maxLen) (hx:∀ x ∈ xs,0≤x∧x≤65535) (os:List Int) (hlo:os.length≤maxLen) (ho:∀ x ∈ os, -32768≤x∧x≤32767) (wa:List Int) (hwa:∀ x ∈ wa, -2147483648≤x∧x≤2147483647) (wb:List Int) (hwb:∀ x ∈ wb, -2147483648≤x∧x≤2147483647) (q d mx:Int) (f:Nat) (hf:(IntKind.i64.wrap q).tmod 4=(f:Int)) (hf3:f≤3) (hm:IntKind.i64.wrap d=mx) (hm2:0≤mx∧mx≤255):PC Try.prog [] 7 [sl' 1 (fun x=>[D.v (.int .u16 x)]) xs,sl' 1 (fun x=>[D.v (.int .i16 x)]) os,D.r [sl' 1 (fun x=>[D.v (.int .i32 x)]) wa,sl' 1 (fun x=>[D.v (.int .i32 x)]) wb],D.v (.int .u8 q),D.v (.int .u8 d)] (· = D.v (.bool true)):=by
 refine PC.of (N:=169) Try.func7 rfl rfl (Nat.le_of_ble_eq_true rfl) ?_
 have w3f:IntKind.i64.wrap (IntKind.i64.wrap (3*(f:Int))+1)=3*(f:Int)+1:=by rw [Ev.wrap_i64 (x:=3*(f:Int)) oM oM,Ev.wrap_i64 oM oM]
 have wm:IntKind.i64.wrap (mx+1)=mx+1:=by rw [Ev.wrap_i64 oM oM]
 refine PW.a [0,1,3,4,7] 1 (PW.sg (PL.row 7 [0,1,7,11,12] 1 (s':={ tab:=[⟨0,[],sl' 1 (fun x=>[D.v (.int .u16 x)]) xs⟩,⟨1,[],sl' 1 (fun x=>[D.v (.int .i16 x)]) os⟩,⟨7,[],D.p 0 0 0 0⟩,⟨11,[],I ((IntKind.i64.wrap q).tmod 4)⟩,⟨12,[],I (IntKind.i64.wrap d)⟩],mem:=[Obj.var 37 [sl' 1 (fun x=>[D.v (.int .i32 x)]) wa,sl' 1 (fun x=>[D.v (.int .i32 x)]) wb]] }) (p:=True) kR kR kR kR kR trivial (PL.eq (s':={ tab:=[⟨0,[],sl' 1 (fun x=>[D.v (.int .u16 x)]) xs⟩,⟨1,[],sl' 1 (fun x=>[D.v (.int .i16 x)]) os⟩,⟨7,[],D.p 0 0 0 0⟩,⟨11,[],I (f:Int)⟩,⟨12,[],I mx⟩],mem:=[Obj.var 37 [sl' 1 (fun x=>[D.v (.int .i32 x)]) wa,sl' 1 (fun x=>[D.v (.int .i32 x)]) wb]] }) (by rw [hf,hm]) (PL.nl (PW.seq (PW.sg (PL.gc (A:=[]) (fun _=>drumlinelaw13_alive_pc) ?_)))))))
 refine PL.rw 35 [0,1,7,11,12,65] 1 (p:=(((((false||(decide ((xs.length:Int)>(40:Int))))||(decide ((os.length:Int)<(xs.length:Int))))||(decide ((xs.length:Int)<(IntKind.i64.wrap ((IntKind.i64.wrap (3*(f:Int)))+1)))))=false∧True→0≤(0:Int)∧(0:Int)<((2:Nat):Int)))∧((((((false||(decide ((xs.length:Int)>(40:Int))))||(decide ((os.length:Int)<(xs.length:Int))))||(decide ((xs.length:Int)<(IntKind.i64.wrap ((IntKind.i64.wrap (3*(f:Int)))+1)))))||(decide ((wa.length:Int)<(f:Int))))=false∧True→0≤(1:Int)∧(1:Int)<((2:Nat):Int)))) nD (PL.nl (PW.cd (((((false||(decide ((xs.length:Int)>(40:Int))))||(decide ((os.length:Int)<(xs.length:Int))))||(decide ((xs.length:Int)<(IntKind.i64.wrap ((IntKind.i64.wrap (3*(f:Int)))+1)))))||(decide ((wa.length:Int)<(f:Int))))||(decide ((wb.length:Int)<(f:Int)))) (fun hz0 => ?_) (fun hz0 => ?_)))
 ·try simp only [boolS] at hz0
  refine PW.sg (PL.gc (A:=[]) (fun _=>drumlinelaw13_alive_pc) (PL.n 1 [10] 1 (PW.ret (retQ_ret (d:=D.v (.bool true)) (ps:=[]) kR trivial ?_))))
  rfl
 ·try simp only [boolS] at hz0
  refine PW.k (PW.a [0,1,7,11,12,13,14] 1 (PW.a [0,1,7,11,12,13,14,15,16] 1 (PW.q [0,1,7,11,12,13,14,15,16,17] 1 (PW.block (PW.born 13 2 1 kR (PW.born 14 2 1 kR (PW.loopR (α := Nat×Int×Int×List Int×List Int) (fun (p,lo,hi,xa,xb)=>{ tab:=[⟨0,[],sl' 1 (fun x=>[D.v (.int .u16 x)]) xs⟩,⟨1,[],sl' 1 (fun x=>[D.v (.int .i16 x)]) os⟩,⟨7,[],D.p 0 0 0 0⟩,⟨11,[],I (f:Int)⟩,⟨12,[],I mx⟩,⟨13,[],D.h 1 xa.length⟩,⟨14,[],D.h 2 xb.length⟩,⟨15,[],I lo⟩,⟨16,[],I hi⟩,⟨17,[],I (p:Int)⟩],mem:=[Obj.var 37 [sl' 1 (fun x=>[D.v (.int .i32 x)]) wa,sl' 1 (fun x=>[D.v (.int .i32 x)]) wb],Obj.row 2 1 xa.length (fun j=>(fun x=>[I x]) (xa.getD j default)),Obj.row 2 1 xb.length (fun j=>(fun x=>[I x]) (xb.getD j default))] }) (fun (p,lo,hi,xa,xb)=>p≤xs.length∧xa=upN (hvX xs wa f) p∧xb=upN (hvY xs os wb mx f) p∧(∀ k,f≤k→k<p→(lo≤hvX xs wa f k∧hvX xs wa f k≤hi)∧(lo≤hvY xs os wb mx f k∧hvY xs os wb mx f k≤hi)) ∧ -70000≤lo∧hi≤140000) (fun (p,lo,hi,xa,xb)=>xs.length-p) [0,1,7,11,12,13,14,15,16,17] 3 (0,0,0,[],[]) (s1:={ tab:=[⟨0,[],sl' 1 (fun x=>[D.v (.int .u16 x)]) xs⟩,⟨1,[],sl' 1 (fun x=>[D.v (.int .i16 x)]) os⟩,⟨7,[],D.p 0 0 0 0⟩,⟨11,[],I (f:Int)⟩,⟨12,[],I mx⟩,⟨13,[],D.h 1 0⟩,⟨14,[],D.h 2 0⟩,⟨15,[],I 0⟩,⟨16,[],I 0⟩,⟨17,[],I 0⟩],mem:=[Obj.var 37 [sl' 1 (fun x=>[D.v (.int .i32 x)]) wa,sl' 1 (fun x=>[D.v (.int .i32 x)]) wb],Obj.row 2 1 0 (fun _=>[]),Obj.row 2 1 0 (fun _=>[])] }) kR kR ?_ ?_ ?_)))))))
  ·dsimp only
   exact ⟨rfl,rfl,rfl,(.same (.row rfl (fun j hj=>absurd hj (Nat.not_lt_zero _)) (.row rfl (fun j hj=>absurd hj (Nat.not_lt_zero _)) .nil)))⟩
  ·dsimp only
   exact ⟨Nat.zero_le _,rfl,rfl,fun k h1 h2=>absurd h2 (Nat.not_lt_zero k),by decide,by decide⟩
  rintro ⟨p,lo,hi,xa,xb⟩ hinv
  dsimp only at hinv
  have hxa:xa.length=p:=by rw [hinv.2.1,upN_len]
  have hxb:xb.length=p:=by rw [hinv.2.2.1,upN_len]
  show PW _ _ _ _ _
  refine PW.q [0,1,7,11,12,13,14,15,16,17,70] 3 (PW.cd (decide ((p:Int)<(xs.length:Int))) (fun hz1 => ?_) (fun hz1 => ?_))
  ·try simp only [boolS] at hz1
   refine PW.k (PW.seq (PW.block (PW.seq (PW.open [] kR (PO.tk [0,1,2,3,4,5,6,7,8,9,10,11,12,13,14,15,16,19] 21 [0,1,7,11,12,13,14,15,16,17,18,82,87,89] 3 (p:=(0≤(p:Int)∧(p:Int)<(xs.length:Int))∧(0≤(p:Int)∧(p:Int)<(xs.length:Int))∧(0≤(p:Int)∧(p:Int)<(os.length:Int))) oM (fun _ _ h=>h) (PO.one (n:=2) 17 kR (PO1.div (k := .i64) (A:=[]) (IntKind.i64.wrap (os.getD p default)) (IntKind.i64.wrap (mx+1)) ((IntKind.i64.wrap (os.getD p default)).tmod (IntKind.i64.wrap (mx+1))) rfl rfl (by first|exact .inl ⟨rfl,rfl⟩|exact .inr ⟨rfl,rfl⟩) kR kR kR kR kR (fun _=>by omega) ?_)))))))
   refine PO.a [18,20] 2 [0,1,7,11,12,13,14,15,16,17,18,19] 0 (PO.done kR ?_)
   show PW _ _ _ _ _
   refine PW.q [0,1,7,11,12,13,14,15,16,17,18,19,94] 3 (PW.cd (decide ((p:Int)<(f:Int))) (fun hz2 => ?_) (fun hz2 => ?_))
   ·try simp only [boolS] at hz2
    refine PW.open [] kR (PO.tk [0,1,2,3,4,5,6,7,8,9,10,11,12,13] 14 [0,1,7,11,12,13,14,15,16,17,18,19] 0 (p:=(0≤(0:Int)∧(0:Int)<((2:Nat):Int))∧(0≤(p:Int)∧(p:Int)<(wa.length:Int))∧(0≤(1:Int)∧(1:Int)<((2:Nat):Int))∧(0≤(p:Int)∧(p:Int)<(wb.length:Int))) oM (fun _ _ h=>h) (PO.done kR ?_))
    show PW _ _ _ _ _
    refine PW.sg (PL.rw 4 [0,1,7,11,12,14,15,16,17,19,127] 4 (p:=((xa.length=xa.length∧1≤1)∧(xa.length+1)*8≤140737488355328∧xa.length+1≤9223372036854775807)) oM (PL.rm 1 (t:=2) (z:=1) (n:=(xa.length+1)) (fun j=>if j<xa.length then (fun j=>(fun x=>[I x]) (xa.getD j default)) j else (fun k=>([[I (IntKind.i64.wrap (wa.getD p default))]][k]?).getD []) (j-xa.length)) (fun j=>(fun x=>[I x]) ((xa++[IntKind.i64.wrap (wa.getD p default)]).getD j default)) (fun j hj=>by (try dsimp only); rw [getD_app xa [IntKind.i64.wrap (wa.getD p default)] j default,show xa.length=xa.length from (by (try simp only [List.length_set,List.length_replicate,List.length_append,List.length_cons,List.length_nil]) <;> omega)]; split <;> first|rfl|(rename_i hjn; rw [show j-xa.length=0 by omega]; rfl)) (PL.n 1 [0,1,7,11,12,13,14,15,16,17,19] 4 (PW.region (PL.rw 4 [0,1,7,11,12,13,15,16,17,131] 5 (p:=((xb.length=xb.length∧1≤1)∧(xb.length+1)*8≤140737488355328∧xb.length+1≤9223372036854775807)) oM (PL.rm 2 (t:=2) (z:=1) (n:=(xb.length+1)) (fun j=>if j<xb.length then (fun j=>(fun x=>[I x]) (xb.getD j default)) j else (fun k=>([[I (IntKind.i64.wrap (wb.getD p default))]][k]?).getD []) (j-xb.length)) (fun j=>(fun x=>[I x]) ((xb++[IntKind.i64.wrap (wb.getD p default)]).getD j default)) (fun j hj=>by (try dsimp only); rw [getD_app xb [IntKind.i64.wrap (wb.getD p default)] j default,show xb.length=xb.length from (by (try simp only [List.length_set,List.length_replicate,List.length_append,List.length_cons,List.length_nil]) <;> omega)]; split <;> first|rfl|(rename_i hjn; rw [show j-xb.length=0 by omega]; rfl)) (PL.a 1 [0,1,7,11,12,13,14,15,16,17] 5 ?_)))))))
    refine PL.nil ?_
    show PW _ _ _ _ _
    refine PW.b [0,1,7,11,12,13,14,15,16,17] 5 ?_
    refine BackR.of (s1:={ tab:=[⟨0,[],sl' 1 (fun x=>[D.v (.int .u16 x)]) xs⟩,⟨1,[],sl' 1 (fun x=>[D.v (.int .i16 x)]) os⟩,⟨7,[],D.p 0 0 0 0⟩,⟨11,[],I (f:Int)⟩,⟨12,[],I mx⟩,⟨13,[],D.h 1 (xa.length+1)⟩,⟨14,[],D.h 2 (xb.length+1)⟩,⟨15,[],I lo⟩,⟨16,[],I hi⟩,⟨17,[],I (IntKind.i64.wrap ((p:Int)+1))⟩],mem:=[Obj.var 37 [sl' 1 (fun x=>[D.v (.int .i32 x)]) wa,sl' 1 (fun x=>[D.v (.int .i32 x)]) wb],Obj.row 2 1 (xa.length+1) (fun j=>(fun x=>[I x]) ((xa++[IntKind.i64.wrap (wa.getD p default)]).getD j default)),Obj.row 2 1 (xb.length+1) (fun j=>(fun x=>[I x]) ((xb++[IntKind.i64.wrap (wb.getD p default)]).getD j default))] }) (p+1,lo,hi,xa++[IntKind.i64.wrap (wa.getD p default)],xb++[IntKind.i64.wrap (wb.getD p default)]) kR kR ?_ ?_ ?_
    ·dsimp only
     rw [wrapS p oM]
     try simp only [List.length_append,List.length_singleton]
     exact Rem.refl _
    ·dsimp only
     rcases Nat.lt_or_ge p f with hpf|hpf
     · first
       | (exfalso; omega)
       | exact ⟨by omega,hv_one hinv.2.1 (if_pos hpf),hv_one hinv.2.2.1 (if_pos hpf),fun k h1 h2=>absurd h1 oM,hinv.2.2.2.2⟩
     · first
       | (exfalso; omega)
       | (have hb:=hv_in (v:=wa) (w:=wb) (mx:=mx) (f:=f) (p:=p) hx ho oM oM hm2 hpf
          have eY:hvY xs os wb mx f p=IntKind.i64.wrap (IntKind.i64.wrap (xs.getD p default)+(IntKind.i64.wrap (os.getD p default)).tmod (IntKind.i64.wrap (mx+1))):=if_neg oM
          have eX:hvX xs wa f p=IntKind.i64.wrap (xs.getD p default):=if_neg oM
          rw [← eY,← eX]
          refine ⟨by omega,hv_one hinv.2.1 rfl,hv_one hinv.2.2.1 rfl,hv_two hinv.2.2.2.1 ?_ ?_ ?_ ?_ ?_ ?_,?_,?_⟩ <;> ((repeat' split) <;> omega))
    ·dsimp only
     exact nD
   ·try simp only [boolS] at hz2
    refine PW.a [0,1,7,11,12,13,14,15,16,17,18,19,109] 3 (PW.cd ((p:Int) == (f:Int)) (fun hz3 => ?_) (fun hz3 => ?_))
    ·try simp only [boolS] at hz3
     refine PW.b [0,1,7,11,12,13,14,15,16,17,18,19] 3 ?_
     show PW _ _ _ _ _
     refine PW.sg (PL.rw 4 [0,1,7,11,12,14,15,16,17,19,127] 4 (p:=((xa.length=xa.length∧1≤1)∧(xa.length+1)*8≤140737488355328∧xa.length+1≤9223372036854775807)) oM (PL.rm 1 (t:=2) (z:=1) (n:=(xa.length+1)) (fun j=>if j<xa.length then (fun j=>(fun x=>[I x]) (xa.getD j default)) j else (fun k=>([[I (IntKind.i64.wrap (xs.getD p default))]][k]?).getD []) (j-xa.length)) (fun j=>(fun x=>[I x]) ((xa++[IntKind.i64.wrap (xs.getD p default)]).getD j default)) (fun j hj=>by (try dsimp only); rw [getD_app xa [IntKind.i64.wrap (xs.getD p default)] j default,show xa.length=xa.length from (by (try simp only [List.length_set,List.length_replicate,List.length_append,List.length_cons,List.length_nil]) <;> omega)]; split <;> first|rfl|(rename_i hjn; rw [show j-xa.length=0 by omega]; rfl)) (PL.n 1 [0,1,7,11,12,13,14,15,16,17,19] 4 (PW.region (PL.rw 4 [0,1,7,11,12,13,15,16,17,131] 5 (p:=((xb.length=xb.length∧1≤1)∧(xb.length+1)*8≤140737488355328∧xb.length+1≤9223372036854775807)) oM (PL.rm 2 (t:=2) (z:=1) (n:=(xb.length+1)) (fun j=>if j<xb.length then (fun j=>(fun x=>[I x]) (xb.getD j default)) j else (fun k=>([[I (IntKind.i64.wrap ((IntKind.i64.wrap (xs.getD p default))+((IntKind.i64.wrap (os.getD p default)).tmod (IntKind.i64.wrap (mx+1)))))]][k]?).getD []) (j-xb.length)) (fun j=>(fun x=>[I x]) ((xb++[IntKind.i64.wrap ((IntKind.i64.wrap (xs.getD p default))+((IntKind.i64.wrap (os.getD p default)).tmod (IntKind.i64.wrap (mx+1))))]).getD j default)) (fun j hj=>by (try dsimp only); rw [getD_app xb [IntKind.i64.wrap ((IntKind.i64.wrap (xs.getD p default))+((IntKind.i64.wrap (os.getD p default)).tmod (IntKind.i64.wrap (mx+1))))] j default,show xb.length=xb.length from (by (try simp only [List.length_set,List.length_replicate,List.length_append,List.length_cons,List.length_nil]) <;> omega)]; split <;> first|rfl|(rename_i hjn; rw [show j-xb.length=0 by omega]; rfl)) (PL.a 1 [0,1,7,11,12,13,14,15,16,17] 5 ?_)))))))
     refine PL.nil ?_
     show PW _ _ _ _ _
     refine PW.b [0,1,7,11,12,13,14,15,16,17] 5 ?_
     refine BackR.of (s1:={ tab:=[⟨0,[],sl' 1 (fun x=>[D.v (.int .u16 x)]) xs⟩,⟨1,[],sl' 1 (fun x=>[D.v (.int .i16 x)]) os⟩,⟨7,[],D.p 0 0 0 0⟩,⟨11,[],I (f:Int)⟩,⟨12,[],I mx⟩,⟨13,[],D.h 1 (xa.length+1)⟩,⟨14,[],D.h 2 (xb.length+1)⟩,⟨15,[],I (if IntKind.i64.wrap ((IntKind.i64.wrap (xs.getD p default))+((IntKind.i64.wrap (os.getD p default)).tmod (IntKind.i64.wrap (mx+1))))<IntKind.i64.wrap (xs.getD p default) then IntKind.i64.wrap ((IntKind.i64.wrap (xs.getD p default))+((IntKind.i64.wrap (os.getD p default)).tmod (IntKind.i64.wrap (mx+1)))) else IntKind.i64.wrap (xs.getD p default))⟩,⟨16,[],I (if IntKind.i64.wrap ((IntKind.i64.wrap (xs.getD p default))+((IntKind.i64.wrap (os.getD p default)).tmod (IntKind.i64.wrap (mx+1))))>IntKind.i64.wrap (xs.getD p default) then IntKind.i64.wrap ((IntKind.i64.wrap (xs.getD p default))+((IntKind.i64.wrap (os.getD p default)).tmod (IntKind.i64.wrap (mx+1)))) else IntKind.i64.wrap (xs.getD p default))⟩,⟨17,[],I (IntKind.i64.wrap ((p:Int)+1))⟩],mem:=[Obj.var 37 [sl' 1 (fun x=>[D.v (.int .i32 x)]) wa,sl' 1 (fun x=>[D.v (.int .i32 x)]) wb],Obj.row 2 1 (xa.length+1) (fun j=>(fun x=>[I x]) ((xa++[IntKind.i64.wrap (xs.getD p default)]).getD j default)),Obj.row 2 1 (xb.length+1) (fun j=>(fun x=>[I x]) ((xb++[IntKind.i64.wrap ((IntKind.i64.wrap (xs.getD p default))+((IntKind.i64.wrap (os.getD p default)).tmod (IntKind.i64.wrap (mx+1))))]).getD j default))] }) (p+1,if IntKind.i64.wrap ((IntKind.i64.wrap (xs.getD p default))+((IntKind.i64.wrap (os.getD p default)).tmod (IntKind.i64.wrap (mx+1))))<IntKind.i64.wrap (xs.getD p default) then IntKind.i64.wrap ((IntKind.i64.wrap (xs.getD p default))+((IntKind.i64.wrap (os.getD p default)).tmod (IntKind.i64.wrap (mx+1)))) else IntKind.i64.wrap (xs.getD p default),if IntKind.i64.wrap ((IntKind.i64.wrap (xs.getD p default))+((IntKind.i64.wrap (os.getD p default)).tmod (IntKind.i64.wrap (mx+1))))>IntKind.i64.wrap (xs.getD p default) then IntKind.i64.wrap ((IntKind.i64.wrap (xs.getD p default))+((IntKind.i64.wrap (os.getD p default)).tmod (IntKind.i64.wrap (mx+1)))) else IntKind.i64.wrap (xs.getD p default),xa++[IntKind.i64.wrap (xs.getD p default)],xb++[IntKind.i64.wrap ((IntKind.i64.wrap (xs.getD p default))+((IntKind.i64.wrap (os.getD p default)).tmod (IntKind.i64.wrap (mx+1))))]) kR kR ?_ ?_ ?_
     ·dsimp only
      rw [wrapS p oM]
      try simp only [List.length_append,List.length_singleton]
      exact Rem.refl _
     ·dsimp only
      rcases Nat.lt_or_ge p f with hpf|hpf
      · first
        | (exfalso; omega)
        | exact ⟨by omega,hv_one hinv.2.1 (if_pos hpf),hv_one hinv.2.2.1 (if_pos hpf),fun k h1 h2=>absurd h1 oM,hinv.2.2.2.2⟩
      · first
        | (exfalso; omega)
        | (have hb:=hv_in (v:=wa) (w:=wb) (mx:=mx) (f:=f) (p:=p) hx ho oM oM hm2 hpf
           have eY:hvY xs os wb mx f p=IntKind.i64.wrap (IntKind.i64.wrap (xs.getD p default)+(IntKind.i64.wrap (os.getD p default)).tmod (IntKind.i64.wrap (mx+1))):=if_neg oM
           have eX:hvX xs wa f p=IntKind.i64.wrap (xs.getD p default):=if_neg oM
           rw [← eY,← eX]
           refine ⟨by omega,hv_one hinv.2.1 rfl,hv_one hinv.2.2.1 rfl,hv_two hinv.2.2.2.1 ?_ ?_ ?_ ?_ ?_ ?_,?_,?_⟩ <;> ((repeat' split) <;> omega))
     ·dsimp only
      exact nD
    ·try simp only [boolS] at hz3
     refine PW.b [0,1,7,11,12,13,14,15,16,17,18,19] 3 ?_
     show PW _ _ _ _ _
     refine PW.sg (PL.rw 4 [0,1,7,11,12,14,15,16,17,19,127] 4 (p:=((xa.length=xa.length∧1≤1)∧(xa.length+1)*8≤140737488355328∧xa.length+1≤9223372036854775807)) oM (PL.rm 1 (t:=2) (z:=1) (n:=(xa.length+1)) (fun j=>if j<xa.length then (fun j=>(fun x=>[I x]) (xa.getD j default)) j else (fun k=>([[I (IntKind.i64.wrap (xs.getD p default))]][k]?).getD []) (j-xa.length)) (fun j=>(fun x=>[I x]) ((xa++[IntKind.i64.wrap (xs.getD p default)]).getD j default)) (fun j hj=>by (try dsimp only); rw [getD_app xa [IntKind.i64.wrap (xs.getD p default)] j default,show xa.length=xa.length from (by (try simp only [List.length_set,List.length_replicate,List.length_append,List.length_cons,List.length_nil]) <;> omega)]; split <;> first|rfl|(rename_i hjn; rw [show j-xa.length=0 by omega]; rfl)) (PL.n 1 [0,1,7,11,12,13,14,15,16,17,19] 4 (PW.region (PL.rw 4 [0,1,7,11,12,13,15,16,17,131] 5 (p:=((xb.length=xb.length∧1≤1)∧(xb.length+1)*8≤140737488355328∧xb.length+1≤9223372036854775807)) oM (PL.rm 2 (t:=2) (z:=1) (n:=(xb.length+1)) (fun j=>if j<xb.length then (fun j=>(fun x=>[I x]) (xb.getD j default)) j else (fun k=>([[I (IntKind.i64.wrap ((IntKind.i64.wrap (xs.getD p default))+((IntKind.i64.wrap (os.getD p default)).tmod (IntKind.i64.wrap (mx+1)))))]][k]?).getD []) (j-xb.length)) (fun j=>(fun x=>[I x]) ((xb++[IntKind.i64.wrap ((IntKind.i64.wrap (xs.getD p default))+((IntKind.i64.wrap (os.getD p default)).tmod (IntKind.i64.wrap (mx+1))))]).getD j default)) (fun j hj=>by (try dsimp only); rw [getD_app xb [IntKind.i64.wrap ((IntKind.i64.wrap (xs.getD p default))+((IntKind.i64.wrap (os.getD p default)).tmod (IntKind.i64.wrap (mx+1))))] j default,show xb.length=xb.length from (by (try simp only [List.length_set,List.length_replicate,List.length_append,List.length_cons,List.length_nil]) <;> omega)]; split <;> first|rfl|(rename_i hjn; rw [show j-xb.length=0 by omega]; rfl)) (PL.a 1 [0,1,7,11,12,13,14,15,16,17] 5 ?_)))))))
     refine PL.nil ?_
     show PW _ _ _ _ _
     refine PW.b [0,1,7,11,12,13,14,15,16,17] 5 ?_
     refine BackR.of (s1:={ tab:=[⟨0,[],sl' 1 (fun x=>[D.v (.int .u16 x)]) xs⟩,⟨1,[],sl' 1 (fun x=>[D.v (.int .i16 x)]) os⟩,⟨7,[],D.p 0 0 0 0⟩,⟨11,[],I (f:Int)⟩,⟨12,[],I mx⟩,⟨13,[],D.h 1 (xa.length+1)⟩,⟨14,[],D.h 2 (xb.length+1)⟩,⟨15,[],I (if IntKind.i64.wrap ((IntKind.i64.wrap (xs.getD p default))+((IntKind.i64.wrap (os.getD p default)).tmod (IntKind.i64.wrap (mx+1))))<(if IntKind.i64.wrap (xs.getD p default)<lo then IntKind.i64.wrap (xs.getD p default) else lo) then IntKind.i64.wrap ((IntKind.i64.wrap (xs.getD p default))+((IntKind.i64.wrap (os.getD p default)).tmod (IntKind.i64.wrap (mx+1)))) else (if IntKind.i64.wrap (xs.getD p default)<lo then IntKind.i64.wrap (xs.getD p default) else lo))⟩,⟨16,[],I (if IntKind.i64.wrap ((IntKind.i64.wrap (xs.getD p default))+((IntKind.i64.wrap (os.getD p default)).tmod (IntKind.i64.wrap (mx+1))))>(if IntKind.i64.wrap (xs.getD p default)>hi then IntKind.i64.wrap (xs.getD p default) else hi) then IntKind.i64.wrap ((IntKind.i64.wrap (xs.getD p default))+((IntKind.i64.wrap (os.getD p default)).tmod (IntKind.i64.wrap (mx+1)))) else (if IntKind.i64.wrap (xs.getD p default)>hi then IntKind.i64.wrap (xs.getD p default) else hi))⟩,⟨17,[],I (IntKind.i64.wrap ((p:Int)+1))⟩],mem:=[Obj.var 37 [sl' 1 (fun x=>[D.v (.int .i32 x)]) wa,sl' 1 (fun x=>[D.v (.int .i32 x)]) wb],Obj.row 2 1 (xa.length+1) (fun j=>(fun x=>[I x]) ((xa++[IntKind.i64.wrap (xs.getD p default)]).getD j default)),Obj.row 2 1 (xb.length+1) (fun j=>(fun x=>[I x]) ((xb++[IntKind.i64.wrap ((IntKind.i64.wrap (xs.getD p default))+((IntKind.i64.wrap (os.getD p default)).tmod (IntKind.i64.wrap (mx+1))))]).getD j default))] }) (p+1,if IntKind.i64.wrap ((IntKind.i64.wrap (xs.getD p default))+((IntKind.i64.wrap (os.getD p default)).tmod (IntKind.i64.wrap (mx+1))))<(if IntKind.i64.wrap (xs.getD p default)<lo then IntKind.i64.wrap (xs.getD p default) else lo) then IntKind.i64.wrap ((IntKind.i64.wrap (xs.getD p default))+((IntKind.i64.wrap (os.getD p default)).tmod (IntKind.i64.wrap (mx+1)))) else (if IntKind.i64.wrap (xs.getD p default)<lo then IntKind.i64.wrap (xs.getD p default) else lo),if IntKind.i64.wrap ((IntKind.i64.wrap (xs.getD p default))+((IntKind.i64.wrap (os.getD p default)).tmod (IntKind.i64.wrap (mx+1))))>(if IntKind.i64.wrap (xs.getD p default)>hi then IntKind.i64.wrap (xs.getD p default) else hi) then IntKind.i64.wrap ((IntKind.i64.wrap (xs.getD p default))+((IntKind.i64.wrap (os.getD p default)).tmod (IntKind.i64.wrap (mx+1)))) else (if IntKind.i64.wrap (xs.getD p default)>hi then IntKind.i64.wrap (xs.getD p default) else hi),xa++[IntKind.i64.wrap (xs.getD p default)],xb++[IntKind.i64.wrap ((IntKind.i64.wrap (xs.getD p default))+((IntKind.i64.wrap (os.getD p default)).tmod (IntKind.i64.wrap (mx+1))))]) kR kR ?_ ?_ ?_
     ·dsimp only
      rw [wrapS p oM]
      try simp only [List.length_append,List.length_singleton]
      exact Rem.refl _
     ·dsimp only
      rcases Nat.lt_or_ge p f with hpf|hpf
      · first
        | (exfalso; omega)
        | exact ⟨by omega,hv_one hinv.2.1 (if_pos hpf),hv_one hinv.2.2.1 (if_pos hpf),fun k h1 h2=>absurd h1 oM,hinv.2.2.2.2⟩
      · first
        | (exfalso; omega)
        | (have hb:=hv_in (v:=wa) (w:=wb) (mx:=mx) (f:=f) (p:=p) hx ho oM oM hm2 hpf
           have eY:hvY xs os wb mx f p=IntKind.i64.wrap (IntKind.i64.wrap (xs.getD p default)+(IntKind.i64.wrap (os.getD p default)).tmod (IntKind.i64.wrap (mx+1))):=if_neg oM
           have eX:hvX xs wa f p=IntKind.i64.wrap (xs.getD p default):=if_neg oM
           rw [← eY,← eX]
           refine ⟨by omega,hv_one hinv.2.1 rfl,hv_one hinv.2.2.1 rfl,hv_two hinv.2.2.2.1 ?_ ?_ ?_ ?_ ?_ ?_,?_,?_⟩ <;> ((repeat' split) <;> omega))
     ·dsimp only
      exact nD
  ·try simp only [boolS] at hz1
   refine PW.e (PW.w 2 [11,12,14,15,16,133,134] 3 (PL.sl [11,12,14,15,16,133,134] 3 (PL.eq (s':={ tab:=[⟨11,[],I (f:Int)⟩,⟨12,[],I mx⟩,⟨14,[],D.h 2 xb.length⟩,⟨15,[],I lo⟩,⟨16,[],I hi⟩,⟨133,[],D.h 1 xa.length⟩,⟨134,[],I (f:Int)⟩],mem:=[Obj.var 37 [sl' 1 (fun x=>[D.v (.int .i32 x)]) wa,sl' 1 (fun x=>[D.v (.int .i32 x)]) wb],Obj.row 2 1 xa.length (fun j=>(fun x=>[I x]) (xa.getD j default)),Obj.row 2 1 xb.length (fun j=>(fun x=>[I x]) (xb.getD j default))] }) kR (PL.frzR 1 (t:=2) (z:=1) (m:=xa.length) (f:=(fun j=>(fun x=>[I x]) (xa.getD j default))) (f':=(fun i=>[I (xa.getD i default)])) (s':={ tab:=[⟨11,[],I (f:Int)⟩,⟨12,[],I mx⟩,⟨14,[],D.h 2 xb.length⟩,⟨15,[],I lo⟩,⟨16,[],I hi⟩,⟨133,[],sl' 1 (fun x=>[I x]) xa⟩,⟨134,[],I (f:Int)⟩],mem:=[Obj.var 37 [sl' 1 (fun x=>[D.v (.int .i32 x)]) wa,sl' 1 (fun x=>[D.v (.int .i32 x)]) wb],Obj.dead,Obj.row 2 1 xb.length (fun j=>(fun x=>[I x]) (xb.getD j default))] }) rfl (fun j hj=>rfl) (Nat.zero_le _) (fz_eq (n:=xa.length) (d:=D.s xa.length 1 (fun i=>[I (xa.getD i default)])) (fun d9=>{ tab:=[⟨11,[],I (f:Int)⟩,⟨12,[],I mx⟩,⟨14,[],D.h 2 xb.length⟩,⟨15,[],I lo⟩,⟨16,[],I hi⟩,⟨133,[],d9⟩,⟨134,[],I (f:Int)⟩],mem:=[Obj.var 37 [sl' 1 (fun x=>[D.v (.int .i32 x)]) wa,sl' 1 (fun x=>[D.v (.int .i32 x)]) wb],Obj.dead,Obj.row 2 1 xb.length (fun j=>(fun x=>[I x]) (xb.getD j default))] }) kR rfl) (PL.gc (A:=[]) (fun _=>middle_Mid_pc xa oM (f:Int)) (PL.n 5 [11,12,14,15,16,20,21] 3 (PW.w 2 [12,15,16,20,21,139,140] 3 ?_)))))))
   refine PL.sl [12,15,16,20,21,139,140] 3 (PL.eq (s':={ tab:=[⟨12,[],I mx⟩,⟨15,[],I lo⟩,⟨16,[],I hi⟩,⟨20,[],I (midI xa (f:Int))⟩,⟨21,[],D.v (.bool (midB xa (f:Int)))⟩,⟨139,[],D.h 2 xb.length⟩,⟨140,[],I (f:Int)⟩],mem:=[Obj.var 37 [sl' 1 (fun x=>[D.v (.int .i32 x)]) wa,sl' 1 (fun x=>[D.v (.int .i32 x)]) wb],Obj.dead,Obj.row 2 1 xb.length (fun j=>(fun x=>[I x]) (xb.getD j default))] }) kR (PL.frzR 2 (t:=2) (z:=1) (m:=xb.length) (f:=(fun j=>(fun x=>[I x]) (xb.getD j default))) (f':=(fun i=>[I (xb.getD i default)])) (s':={ tab:=[⟨12,[],I mx⟩,⟨15,[],I lo⟩,⟨16,[],I hi⟩,⟨20,[],I (midI xa (f:Int))⟩,⟨21,[],D.v (.bool (midB xa (f:Int)))⟩,⟨139,[],sl' 1 (fun x=>[I x]) xb⟩,⟨140,[],I (f:Int)⟩],mem:=[Obj.var 37 [sl' 1 (fun x=>[D.v (.int .i32 x)]) wa,sl' 1 (fun x=>[D.v (.int .i32 x)]) wb],Obj.dead,Obj.dead] }) rfl (fun j hj=>rfl) (Nat.zero_le _) (fz_eq (n:=xb.length) (d:=D.s xb.length 1 (fun i=>[I (xb.getD i default)])) (fun d9=>{ tab:=[⟨12,[],I mx⟩,⟨15,[],I lo⟩,⟨16,[],I hi⟩,⟨20,[],I (midI xa (f:Int))⟩,⟨21,[],D.v (.bool (midB xa (f:Int)))⟩,⟨139,[],d9⟩,⟨140,[],I (f:Int)⟩],mem:=[Obj.var 37 [sl' 1 (fun x=>[D.v (.int .i32 x)]) wa,sl' 1 (fun x=>[D.v (.int .i32 x)]) wb],Obj.dead,Obj.dead] }) kR rfl) (PL.gc (A:=[]) (fun _=>middle_Mid_pc xb oM (f:Int)) (PL.n 5 [12,15,16,20,21,22,23] 3 (PW.a [20,21,22,23,24] 3 (PW.t [10] 3 (retQ_ret (d:=D.v (.bool ((((midB xa (f:Int))&&(midB xb (f:Int)))&&(decide ((IntKind.i64.wrap ((midI xa (f:Int))-(midI xb (f:Int))))≤(IntKind.i64.wrap ((IntKind.i64.wrap ((IntKind.i64.wrap ((IntKind.i64.wrap (hi-lo)).tdiv 2))+mx))+1)))))&&(decide ((IntKind.i64.wrap ((midI xb (f:Int))-(midI xa (f:Int))))≤(IntKind.i64.wrap ((IntKind.i64.wrap ((IntKind.i64.wrap ((IntKind.i64.wrap (hi-lo)).tdiv 2))+mx))+1))))))) (ps:=[]) kR trivial ?_)))))))
   have e9:p=xs.length:=by omega
   have hin:=fun k (k1:f≤k) (k2:k<xs.length)=>hv_in (v:=wa) (w:=wb) (mx:=mx) (f:=f) hx ho k2 oM hm2 k1
   have hout:=fun k (k1:k<f)=>hv_out (xs:=xs) (os:=os) (mx:=mx) (f:=f) (p:=k) hwa hwb oM oM k1
   have hn:=halves_end (X:=hvX xs wa f) (Y:=hvY xs os wb mx f) (n:=xs.length) (f:=f) (d:=mx) (lo:=lo) (hi:=hi) oM oM (fun k hk=>by
     rcases Nat.lt_or_ge k f with h|h
     · have:=hout k h; omega
     · have:=hin k h hk; omega) (fun k hk=>by
     rcases Nat.lt_or_ge k f with h|h
     · have:=hout k h; omega
     · have:=hin k h hk; omega) hm2 oM oM (fun k k1 k2=>hinv.2.2.2.1 k k1 oM) (fun k k1 k2=>(hin k k1 k2).2.2)
   rw [hinv.2.1,hinv.2.2.1,e9]
   simp [hn.1,hn.2.1,hn.2.2.1,hn.2.2.2]
end Go.Proofs.Ytdomlccfjnkbjaa.Pl
