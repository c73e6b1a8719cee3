/- Chapter 13: the law's alive; MiddleTells. -/
import Derived.Test.YtdomlccfjnkbjaaMiTwo
namespace Go.Proofs.Ytdomlccfjnkbjaa.Pl
open Go.RowKit Go.Proofs.Ytdomlccfjnkbjaa.Sm Go.Proofs.Ytdomlccfjnkbjaa.Dp
set_option maxHeartbeats 4000000
set_option maxRecDepth 100000
set_option linter.unusedVariables false
set_option linter.unusedSimpArgs false
theorem drumlineref1_SameLongs_pc (xs:List Int) (hl:xs.length<1000000):PC Try.prog [] 13 [sl' 1 (fun x=>[I x]) xs,sl' 1 (fun x=>[I x]) xs] (· = D.v (.bool true)):=by
 refine PC.of (N:=26) Try.func13 rfl rfl (Nat.le_of_ble_eq_true rfl) ?_
 refine PW.a [0,1] 0 (PW.q [0,1,10] 0 (PW.cd ((xs.length:Int) != (xs.length:Int)) (fun hz0 => ?_) (fun hz0 => ?_)))
 ·try simp only [boolS] at hz0
  refine PW.t [4] 0 (retQ_ret (d:=D.v (.bool false)) (ps:=[]) kR trivial ?_)
  exfalso
  simp at hz0
 ·try simp only [boolS] at hz0
  refine PW.k (PW.q [0,1,5] 0 (PW.block (PW.lp (α := Nat) (fun i=>{ tab:=[⟨0,[],sl' 1 (fun x=>[I x]) xs⟩,⟨1,[],sl' 1 (fun x=>[I x]) xs⟩,⟨5,[],I (i:Int)⟩],mem:=[] }) (fun i=>i≤xs.length) (fun i=>xs.length-i) [0,1,5] 0 (0) ?_ ?_)))
  ·exact Nat.zero_le _
  rintro i hinv
  show PW _ _ _ _ _
  refine PW.q [0,1,5,14] 0 (PW.cd (decide ((i:Int)<(xs.length:Int))) (fun hz1 => ?_) (fun hz1 => ?_))
  ·try simp only [boolS] at hz1
   refine PW.k (PW.seq (PW.block (PW.seq (PW.open [] kR (PO.tk [0,1,2,3,4,5,6,7,8] 9 [0,1,5,25] 0 (p:=(0≤(i:Int)∧(i:Int)<(xs.length:Int))∧(0≤(i:Int)∧(i:Int)<(xs.length:Int))) oM (fun _ _ h=>h) (PO.done kR ?_))))))
   show PW _ _ _ _ _
   refine PW.cd ((xs.getD i default) != (xs.getD i default)) (fun hz2 => ?_) (fun hz2 => ?_)
   ·try simp only [boolS] at hz2
    refine PW.t [4] 0 (retQ_ret (d:=D.v (.bool false)) (ps:=[]) kR trivial ?_)
    exfalso
    simp at hz2
   ·try simp only [boolS] at hz2
    refine PW.k (PW.b [0,1,5] 0 ?_)
    refine BackR.of (s1:={ tab:=[⟨0,[],sl' 1 (fun x=>[I x]) xs⟩,⟨1,[],sl' 1 (fun x=>[I x]) xs⟩,⟨5,[],I (IntKind.i64.wrap ((i:Int)+1))⟩],mem:=[] }) (i+1) kR kR ?_ ?_ ?_
    ·rw [wrapS i oM]
     exact Rem.refl _
    ·exact nD
    ·exact nD
  ·try simp only [boolS] at hz1
   refine PW.e (PW.t [4] 0 (retQ_ret (d:=D.v (.bool true)) (ps:=[]) kR trivial ?_))
   rfl
theorem drumlinelaw13_alive_pc  : PC Try.prog [] 8 [] (· = D.v (.bool true)):=by
 refine PC.of (N:=45) Try.func8 rfl rfl (Nat.le_of_ble_eq_true rfl) ?_
 refine PW.a [] 0 (PW.w 1 [8] 1 (PL.sl [8] 1 (PL.eq (s':={ tab:=[⟨8,[],D.h 0 4⟩],mem:=[Obj.row 2 1 4 (fun k=>([[I 1],[I 9],[I 5],[I 100]][k]?).getD [])] }) kR (PL.frzR 0 (t:=2) (z:=1) (m:=4) (f:=(fun k=>([[I 1],[I 9],[I 5],[I 100]][k]?).getD [])) (f':=(fun i=>[I (([1,9,5,100]).getD i default)])) (s':={ tab:=[⟨8,[],sl' 1 (fun x=>[I x]) ([1,9,5,100])⟩],mem:=[Obj.dead] }) rfl (fun j hj=>match j,hj with|0,_=>rfl|1,_=>rfl|2,_=>rfl|3,_=>rfl|j+4,hj=>absurd hj oM) (Nat.zero_le _) kR (PL.gc (A:=[]) (fun _=>middle_Mid_pc [1,9,5,100] (by decide) 1) (PL.n 5 [1,2] 1 (PW.w 1 [1,2,13] 2 ?_)))))))
 refine PL.sl [1,2,13] 2 (PL.eq (s':={ tab:=[⟨1,[],I (midI [1,9,5,100] 1)⟩,⟨2,[],D.v (.bool (midB [1,9,5,100] 1))⟩,⟨13,[],D.h 1 3⟩],mem:=[Obj.dead,Obj.row 2 1 3 (fun k=>([[I 3],[I 1],[I 2]][k]?).getD [])] }) kR (PL.frzR 1 (t:=2) (z:=1) (m:=3) (f:=(fun k=>([[I 3],[I 1],[I 2]][k]?).getD [])) (f':=(fun i=>[I (([3,1,2]).getD i default)])) (s':={ tab:=[⟨1,[],I (midI [1,9,5,100] 1)⟩,⟨2,[],D.v (.bool (midB [1,9,5,100] 1))⟩,⟨13,[],sl' 1 (fun x=>[I x]) ([3,1,2])⟩],mem:=[Obj.dead,Obj.dead] }) rfl (fun j hj=>match j,hj with|0,_=>rfl|1,_=>rfl|2,_=>rfl|j+3,hj=>absurd hj oM) (Nat.zero_le _) kR (PL.gc (A:=[]) (fun _=>alive_one) (PL.n 5 [1,2,3,4] 2 (PW.w 1 [1,2,3,4,18] 3 (PL.sl [1,2,3,4,18] 3 (PL.eq (s':={ tab:=[⟨1,[],I (midI [1,9,5,100] 1)⟩,⟨2,[],D.v (.bool (midB [1,9,5,100] 1))⟩,⟨3,[],sl' 1 (fun x=>[I x]) ([2])⟩,⟨4,[],D.v (.bool true)⟩,⟨18,[],D.h 2 2⟩],mem:=[Obj.dead,Obj.dead,Obj.row 2 1 2 (fun k=>([[I 3],[I 1]][k]?).getD [])] }) kR ?_)))))))
 refine PL.frzR 2 (t:=2) (z:=1) (m:=2) (f:=(fun k=>([[I 3],[I 1]][k]?).getD [])) (f':=(fun i=>[I (([3,1]).getD i default)])) (s':={ tab:=[⟨1,[],I (midI [1,9,5,100] 1)⟩,⟨2,[],D.v (.bool (midB [1,9,5,100] 1))⟩,⟨3,[],sl' 1 (fun x=>[I x]) ([2])⟩,⟨4,[],D.v (.bool true)⟩,⟨18,[],sl' 1 (fun x=>[I x]) ([3,1])⟩],mem:=[Obj.dead,Obj.dead,Obj.dead] }) rfl (fun j hj=>match j,hj with|0,_=>rfl|1,_=>rfl|j+2,hj=>absurd hj oM) (Nat.zero_le _) kR (PL.gc (A:=[]) (fun _=>alive_two) (PL.n 5 [1,2,3,4,6] 3 (PW.sr [0] 3 (p:=((((((midI [1,9,5,100] 1) == (7:Int))&&(midB [1,9,5,100] 1))&&((([2]).length:Int) == (1:Int)))=true∧True→0≤(0:Int)∧(0:Int)<(([2]).length:Int)))) nD (PW.ret (retQ_ret (d:=D.v (.bool (((((((midI [1,9,5,100] 1) == (7:Int))&&(midB [1,9,5,100] 1))&&((([2]).length:Int) == (1:Int)))&&((([2]).getD 0 default) == (2:Int)))&&true)&&true))) (ps:=[]) kR trivial ?_)))))
 rw [mid_e1,mid_e2]
 rfl
theorem drumlinelaw13_MiddleTells_pc (xs:List Int) (hl:xs.length≤maxLen) (f:Int):PC Try.prog [] 3 [sl' 1 (fun x=>[I x]) xs,I f] (· = D.v (.bool true)):=by
 refine PC.of (N:=63) Try.func3 rfl rfl (Nat.le_of_ble_eq_true rfl) ?_
 refine PW.a [0,1] 0 (PW.seq (PW.sg (PL.gc (A:=[]) (fun _=>drumlinelaw13_alive_pc) (PL.n 6 [0,1,19] 0 (PW.cd (false||(decide ((xs.length:Int)>(100:Int)))) (fun hz0 => ?_) (fun hz0 => ?_))))))
 ·try simp only [boolS] at hz0
  refine PW.sg (PL.gc (A:=[]) (fun _=>drumlinelaw13_alive_pc) (PL.n 1 [4] 0 (PW.ret (retQ_ret (d:=D.v (.bool true)) (ps:=[]) kR trivial ?_))))
  rfl
 ·try simp only [boolS] at hz0
  refine PW.k (PW.w 2 [0,1,22,23] 0 (PL.gc (A:=[]) (fun _=>middle_Cut_pc xs oM f) (PL.n 5 [0,1,5,6] 0 (PW.w 2 [0,1,5,6,28,29] 0 (PL.gc (A:=[]) (fun _=>drumlineref10_Cut_pc xs oM f) (PL.n 5 [0,1,5,6,7,8] 0 (PW.w 2 [0,1,5,6,7,8,34,35] 0 ?_)))))))
  refine PL.gc (A:=[]) (fun _=>middle_Mid_pc xs oM f) (PL.n 5 [0,1,5,6,7,8,9,10] 0 (PW.w 2 [5,6,7,8,9,10,40,41] 0 (PL.gc (A:=[]) (fun _=>drumlineref10_Mid_pc xs oM f) (PL.n 5 [5,6,7,8,9,10,11,12] 0 (PW.w 2 [6,8,9,10,11,12,45,46] 0 (PL.gc (A:=[]) (fun _=>drumlineref1_SameLongs_pc (cutL xs f) (by have:=cutL_le xs f; omega)) (PL.n 16 [4] 0 ?_)))))))
  refine PW.ret (retQ_ret (d:=D.v (.bool (((true&&((cutB xs.length f) == (cutB xs.length f)))&&((midI xs f) == (midI xs f)))&&((midB xs f) == (midB xs f))))) (ps:=[]) kR trivial ?_)
  simp
end Go.Proofs.Ytdomlccfjnkbjaa.Pl
