/- Chapter 11's law AirOrder. -/
import Derived.Test.YtnjoklfclnkklaaGreatDoorAiEight
import Derived.Test.YtnjoklfclnkklaaGreatDoorTbThree
import Derived.Test.YtnjoklfclnkklaaGreatDoorTbMath
import Derived.Test.YtnjoklfclnkklaaGreatDoorMdA
import Derived.Test.YtnjoklfclnkklaaGreatDoorAiMath2
namespace Go.Proofs.YtnjoklfclnkklaaGreatDoor.Pl
open Go.RowKit Go.Proofs.YtnjoklfclnkklaaGreatDoor.Sm Go.Proofs.YtnjoklfclnkklaaGreatDoor.Dp
open Go.Proofs.YtnjoklfclnkklaaGreatDoor.Fr (bare frD frC decX errOf frOf noOf atOf WfA wfA_dec bytesOf mayB)
set_option maxHeartbeats 4000000
set_option maxRecDepth 100000
set_option linter.unusedVariables false
set_option linter.unusedSimpArgs false
theorem say_coarse (a b:Int):∀ (w:World) (ok:Nat→Prop) (v:Value),RepC w ok (D.s 1 3 (fun k=>([[I a,D.v (.slice none 0 0),I b]][k]?).getD [])) v→RepC w ok (sl' 3 Say.d [(⟨a,[],b⟩:Say)]) v:=fun w ok v h=>RepC.seqw h fun i hi=>by
 obtain rfl:i=0:=by
  have h1:i<1:=hi
  omega
 refine ⟨rfl,rfl,fun j d' hj => ?_⟩
 match j,hj with
 | 0,hj =>
  cases hj
  exact ⟨_,rfl,fun _ _ _ h=>h⟩
 | 1,hj =>
  cases hj
  exact ⟨_,rfl,fun _ _ _ h=>h.nil_s⟩
 | 2,hj =>
  cases hj
  exact ⟨_,rfl,fun _ _ _ h=>h⟩
 | j+3,hj=>exact absurd hj (by simp [Say.d])
def exF:Frame:=⟨1,0,0,3,0,0,false,0,0,[],0,0,0,[]⟩
theorem exF_wf:WfA exF:=⟨by unfold Fr.Wf Fr.Is64 exF; dsimp only; omega,fun d hd=>by cases hd⟩
theorem right_ok {x:Guard} {l:List Said} (h:rightB x l=true):l.length≤40∧∀ s ∈ l,s.b.length≤1000000:=by
 unfold rightB at h
 simp only [Bool.and_eq_true,Bool.not_eq_true',Bool.or_eq_false_iff,decide_eq_false_iff_not] at h
 refine ⟨by omega,fun s hs => ?_⟩
 have:=List.any_eq_false.1 h.2 s hs
 unfold longB at this
 simp at this
 omega
theorem alive11_pc0 (e:Nat→Addr) (hA:Apart4 e) (c:Config) (hM:PC Tryz.prog (errG4 e) 9 [I 1] (· = D.r (Config.d c))) (hw:Is64 c.window) (hp0:c.parts.length<1000000) (hl0:c.links.length<1000000) (h1:heardOf c 0 ⟨false,0,[]⟩ 0 [⟨4,[],0⟩] []=[]) (h2:badOf c 0 ⟨false,0,[]⟩ 0 [⟨4,[],0⟩] []=1) (h3:heardOf c 0 ⟨false,0,[]⟩ 0 [⟨findI c 0 2 0,bytesOf exF,9⟩] []=[⟨findI c 0 2 0,exF,9⟩]) (h4:badOf c 0 ⟨false,0,[]⟩ 0 [⟨findI c 0 2 0,bytesOf exF,9⟩] []=0):PC Tryz.prog (errG4 e) 8 [] (· = D.v (.bool true)):=by
 refine PC.of (N:=64) Tryz.func8 rfl rfl (Nat.le_of_ble_eq_true rfl) ?_
 refine PW.sr [] 0 trivial ?_
 refine PW.sg ?_
 refine PL.gc (A:=[]) (fun _=>hM) ?_
 refine PL.rw 2 [1] 1 trivial ?_
 refine PL.nl ?_
 refine PW.sg ?_
 refine PL.rw 4 [1,10,11,13] 2 trivial ?_
 refine PL.sl [1,10,11,13] 2 ?_
 refine PL.eq (s':={ tab:=[⟨1,[],D.p 0 0 0 0⟩,⟨10,[],D.r (Config.d c)⟩,⟨11,[],D.r [D.v (.bool false),I 0,D.v (.slice none 0 0)]⟩,⟨13,[],D.h 1 1⟩],mem:=[Obj.var 30 (Config.d c),Obj.row 53 3 1 (fun k=>([[I 4,D.v (.slice none 0 0),I 0]][k]?).getD [])],gl:=(errG4 e) }) kR ?_
 refine PL.frzR 1 (t:=53) (z:=3) (m:=1) (f:=(fun k=>([[I 4,D.v (.slice none 0 0),I 0]][k]?).getD [])) (f':=(fun k=>([[I 4,D.v (.slice none 0 0),I 0]][k]?).getD [])) (s':={ tab:=[⟨1,[],D.p 0 0 0 0⟩,⟨10,[],D.r (Config.d c)⟩,⟨11,[],D.r [D.v (.bool false),I 0,D.v (.slice none 0 0)]⟩,⟨13,[],D.s 1 3 (fun k=>([[I 4,D.v (.slice none 0 0),I 0]][k]?).getD [])⟩],mem:=[Obj.var 30 (Config.d c),Obj.dead],gl:=(errG4 e) }) rfl (fun j hj=>rfl) (Nat.zero_le _) kR ?_
 refine PL.gc (ds0:=[D.r (Config.d c),I 0,D.r [D.v (.bool false),I 0,D.v (.slice none 0 0)],I 0,D.s 1 3 (fun k=>([[I 4,D.v (.slice none 0 0),I 0]][k]?).getD []),D.v (.slice none 0 0)]) (A:=[]) (fun _=>PC.argnil (ds:=[D.r (Config.d c),I 0,D.r [D.v (.bool false),I 0,D.v (.slice none 0 0)],I 0,D.s 1 3 (fun k=>([[I 4,D.v (.slice none 0 0),I 0]][k]?).getD []),D.v (.slice none 0 0)]) 2 2 1 (fun i=>[I (([]:List Int).getD i default)]) rfl rfl (PC.arg (ds:=[D.r (Config.d c),I 0,D.r (Guard.d (⟨false,0,[]⟩:Guard)),I 0,D.s 1 3 (fun k=>([[I 4,D.v (.slice none 0 0),I 0]][k]?).getD []),D.v (.slice none 0 0)]) 4 (sl' 3 Say.d [(⟨4,[],0⟩:Say)]) rfl (say_coarse 4 0) (PC.argnil1 (ds:=[D.r (Config.d c),I 0,D.r (Guard.d (⟨false,0,[]⟩:Guard)),I 0,sl' 3 Say.d [(⟨4,[],0⟩:Say)],D.v (.slice none 0 0)]) 5 1 (fun i=>[I (([]:List Int).getD i default)]) rfl (heard_coarse (air_Heard_pc0 e hA c 0 (⟨false,0,[]⟩:Guard) 0 ([(⟨4,[],0⟩:Say)]) ([]:List Int) (show 1<1000000 by omega) (fun s hs=>by rw [List.mem_singleton.1 hs]; exact Nat.zero_le _) (Nat.zero_le _) (by assumption) hp0 hl0))))) ?_
 refine PL.rw 5 [1,2,3] 2 trivial ?_
 refine PL.nl ?_
 refine PW.sg ?_
 refine PL.rw 1 [1,2,3,18] 2 trivial ?_
 refine PL.gc (G:=(errG4 e)) (A:=[]) (fun _=>PC.more (PC.argnil (ds:=[D.r [I 1,I 0,I 0,I 3,I 0,I 0,D.v (.bool false),I 0,I 0,D.v (.slice none 0 0),I 0,I 0,I 0,D.v (.slice none 0 0)]]) 0 9 1 (fun i=>[I (([]:List Int).getD i default)]) rfl rfl (PC.argnil (ds:=[D.r [I 1,I 0,I 0,I 3,I 0,I 0,D.v (.bool false),I 0,I 0,D.s 0 1 (fun i=>[I (([]:List Int).getD i default)]),I 0,I 0,I 0,D.v (.slice none 0 0)]]) 0 13 1 (fun i=>u8d (([]:List UInt8).getD i default)) rfl rfl (Fr.encodeR_pc exF exF_wf)))) ?_
 refine PL.rw 5 [1,2,3,4] 2 trivial ?_
 refine PL.nl ?_
 refine PW.seq ?_
 refine PW.open [] kR ?_
 refine PO.tk [0,1,2,4] 13 [2,3,23,24,25,27] 9 trivial (fun _ _ h=>h) ?_
 refine PO.one (n:=8) 3 kR ?_
 refine PO1.gc _ (G:=(errG4 e)) (A:=[]) (fun _=>PC.more (drumlineref5_Find_pc c 0 2 0 hp0 hl0)) ?_ rfl
 refine PO.one (n:=7) 5 kR ?_
 refine PO1.build (cs:=[I (findI c 0 2 0),bytesD (bytesOf exF),I 9]) rfl rfl kR kR kR ?_
 refine PO.one (n:=6) 6 kR ?_
 refine PO1.mm rfl [2,3,23,24,29] 3 trivial ?_
 refine PO.sel [2,3,23,24,29] 3 rfl kR ?_
 refine PO.eq (s':={ tab:=[⟨2,[],sl' 16 Heard.d (heardOf c 0 (⟨false,0,[]⟩:Guard) 0 ([(⟨4,[],0⟩:Say)]) ([]:List Int))⟩,⟨3,[],I ((badOf c 0 (⟨false,0,[]⟩:Guard) 0 ([(⟨4,[],0⟩:Say)]) ([]:List Int):Nat):Int)⟩,⟨23,[],D.r (Config.d c)⟩,⟨24,[],D.r [D.v (.bool false),I 0,D.v (.slice none 0 0)]⟩,⟨29,[],D.h 2 1⟩],mem:=[Obj.var 30 (Config.d c),Obj.dead,Obj.row 53 3 1 (fun k=>([[I (findI c 0 2 0),bytesD (bytesOf exF),I 9]][k]?).getD [])],gl:=(errG4 e) }) kR ?_
 refine PO.frzR 2 (t:=53) (z:=3) (m:=1) (f:=(fun k=>([[I (findI c 0 2 0),bytesD (bytesOf exF),I 9]][k]?).getD [])) (f':=(fun i=>Say.d (([(⟨findI c 0 2 0,bytesOf exF,9⟩:Say)]).getD i default))) (s':={ tab:=[⟨2,[],sl' 16 Heard.d (heardOf c 0 (⟨false,0,[]⟩:Guard) 0 ([(⟨4,[],0⟩:Say)]) ([]:List Int))⟩,⟨3,[],I ((badOf c 0 (⟨false,0,[]⟩:Guard) 0 ([(⟨4,[],0⟩:Say)]) ([]:List Int):Nat):Int)⟩,⟨23,[],D.r (Config.d c)⟩,⟨24,[],D.r [D.v (.bool false),I 0,D.v (.slice none 0 0)]⟩,⟨29,[],sl' 3 Say.d ([(⟨findI c 0 2 0,bytesOf exF,9⟩:Say)])⟩],mem:=[Obj.var 30 (Config.d c),Obj.dead,Obj.dead],gl:=(errG4 e) }) rfl (fun j hj=>match j,hj with|0,_=>rfl|j+1,hj=>absurd hj oM) (Nat.zero_le _) kR ?_
 refine PO.one (n:=5) 7 kR ?_
 refine PO1.gc _ (ds0:=[D.r (Config.d c),I 0,D.r [D.v (.bool false),I 0,D.v (.slice none 0 0)],I 0,sl' 3 Say.d ([(⟨findI c 0 2 0,bytesOf exF,9⟩:Say)]),D.v (.slice none 0 0)]) (A:=[]) (fun _=>PC.argnil (ds:=[D.r (Config.d c),I 0,D.r [D.v (.bool false),I 0,D.v (.slice none 0 0)],I 0,sl' 3 Say.d ([(⟨findI c 0 2 0,bytesOf exF,9⟩:Say)]),D.v (.slice none 0 0)]) 2 2 1 (fun i=>[I (([]:List Int).getD i default)]) rfl rfl (PC.argnil1 (ds:=[D.r (Config.d c),I 0,D.r (Guard.d (⟨false,0,[]⟩:Guard)),I 0,sl' 3 Say.d ([(⟨findI c 0 2 0,bytesOf exF,9⟩:Say)]),D.v (.slice none 0 0)]) 5 1 (fun i=>[I (([]:List Int).getD i default)]) rfl (heard_coarse (air_Heard_pc0 e hA c 0 (⟨false,0,[]⟩:Guard) 0 ([(⟨findI c 0 2 0,bytesOf exF,9⟩:Say)]) ([]:List Int) (show 1<1000000 by omega) (fun s hs=>by rw [List.mem_singleton.1 hs]; dsimp only; exact bytes_le _) (Nat.zero_le _) (by assumption) hp0 hl0)))) ?_ rfl
 refine PO.tk [8,9,10,11,12] 5 [2,3,6,7] 0 trivial (fun _ _ h=>h) ?_
 refine PO.done kR ?_
 show PW _ _ _ _ _
 refine PW.sr [0] 3 (p:=((((((((heardOf c 0 (⟨false,0,[]⟩:Guard) 0 ([(⟨4,[],0⟩:Say)]) ([]:List Int)).length:Int) == (0:Int))&&(((badOf c 0 (⟨false,0,[]⟩:Guard) 0 ([(⟨4,[],0⟩:Say)]) ([]:List Int):Nat):Int) == (1:Int)))&&(((heardOf c 0 (⟨false,0,[]⟩:Guard) 0 ([(⟨findI c 0 2 0,bytesOf exF,9⟩:Say)]) ([]:List Int)).length:Int) == (1:Int)))&&(((badOf c 0 (⟨false,0,[]⟩:Guard) 0 ([(⟨findI c 0 2 0,bytesOf exF,9⟩:Say)]) ([]:List Int):Nat):Int) == (0:Int)))=true∧True→0≤(0:Int)∧(0:Int)<((heardOf c 0 (⟨false,0,[]⟩:Guard) 0 ([(⟨findI c 0 2 0,bytesOf exF,9⟩:Say)]) ([]:List Int)).length:Int)))∧(((((((((heardOf c 0 (⟨false,0,[]⟩:Guard) 0 ([(⟨4,[],0⟩:Say)]) ([]:List Int)).length:Int) == (0:Int))&&(((badOf c 0 (⟨false,0,[]⟩:Guard) 0 ([(⟨4,[],0⟩:Say)]) ([]:List Int):Nat):Int) == (1:Int)))&&(((heardOf c 0 (⟨false,0,[]⟩:Guard) 0 ([(⟨findI c 0 2 0,bytesOf exF,9⟩:Say)]) ([]:List Int)).length:Int) == (1:Int)))&&(((badOf c 0 (⟨false,0,[]⟩:Guard) 0 ([(⟨findI c 0 2 0,bytesOf exF,9⟩:Say)]) ([]:List Int):Nat):Int) == (0:Int)))&&(((((heardOf c 0 (⟨false,0,[]⟩:Guard) 0 ([(⟨findI c 0 2 0,bytesOf exF,9⟩:Say)]) ([]:List Int)).getD 0 default).frame).wait) == (3:Int)))=true∧True→0≤(0:Int)∧(0:Int)<((heardOf c 0 (⟨false,0,[]⟩:Guard) 0 ([(⟨findI c 0 2 0,bytesOf exF,9⟩:Say)]) ([]:List Int)).length:Int)))) nD ?_
 refine PW.ret ?_
 refine retQ_ret (d:=D.v (.bool ((((((((heardOf c 0 (⟨false,0,[]⟩:Guard) 0 ([(⟨4,[],0⟩:Say)]) ([]:List Int)).length:Int) == (0:Int))&&(((badOf c 0 (⟨false,0,[]⟩:Guard) 0 ([(⟨4,[],0⟩:Say)]) ([]:List Int):Nat):Int) == (1:Int)))&&(((heardOf c 0 (⟨false,0,[]⟩:Guard) 0 ([(⟨findI c 0 2 0,bytesOf exF,9⟩:Say)]) ([]:List Int)).length:Int) == (1:Int)))&&(((badOf c 0 (⟨false,0,[]⟩:Guard) 0 ([(⟨findI c 0 2 0,bytesOf exF,9⟩:Say)]) ([]:List Int):Nat):Int) == (0:Int)))&&(((((heardOf c 0 (⟨false,0,[]⟩:Guard) 0 ([(⟨findI c 0 2 0,bytesOf exF,9⟩:Say)]) ([]:List Int)).getD 0 default).frame).wait) == (3:Int)))&&((((heardOf c 0 (⟨false,0,[]⟩:Guard) 0 ([(⟨findI c 0 2 0,bytesOf exF,9⟩:Say)]) ([]:List Int)).getD 0 default).at_) == (9:Int))))) (ps:=[]) kR trivial ?_
 rw [h1,h2,h3,h4]
 rfl
theorem alive1:heardOf (madeC 1) 0 ⟨false,0,[]⟩ 0 [⟨4,[],0⟩] []=[]:=by kernel_rfl
theorem alive2:badOf (madeC 1) 0 ⟨false,0,[]⟩ 0 [⟨4,[],0⟩] []=1:=by kernel_rfl
theorem alive3:heardOf (madeC 1) 0 ⟨false,0,[]⟩ 0 [⟨findI (madeC 1) 0 2 0,bytesOf exF,9⟩] []=[⟨findI (madeC 1) 0 2 0,exF,9⟩]:=by kernel_rfl
theorem alive4:badOf (madeC 1) 0 ⟨false,0,[]⟩ 0 [⟨findI (madeC 1) 0 2 0,bytesOf exF,9⟩] []=0:=by kernel_rfl
theorem window_of {c:Config} (N:Nums c):Is64 c.window:=by
 have h1:=N.win
 have h2:=(inR_of N.all.1).edg
 unfold Is64
 omega
theorem alive11_pc (e:Nat→Addr) (hA:Apart4 e):PC Tryz.prog (errG4 e) 8 [] (· = D.v (.bool true)):=by
 have hl:=madeC_len 1
 exact alive11_pc0 e hA (madeC 1) (Dp.PC.more (Made_pc 1)) (window_of (made_nums 1)) oM oM alive1 alive2 alive3 alive4
theorem said_right {x:Guard} {l:List Said} (h:rightB x l=true) (hW:∀ s ∈ l,WfA s.f):∀ s ∈ l,SaidOk s:=fun s hs=>⟨hW s hs,(right_ok h).2 s hs⟩
theorem heard_ages {c:Config} {part:Int} {x:Guard} {ppm:Int} {says:List Say} {lost:List Int} {i:Nat} (hi:i<(heardOf c part x ppm says lost).length):((heardOf c part x ppm says lost).getD i default).frame.ages.length≤maxLen:=by
 have hm:(heardOf c part x ppm says lost).getD i default ∈ heardOf c part x ppm says lost:=by
  rw [List.getD_eq_getElem?_getD,List.getElem?_eq_getElem hi]
  exact List.getElem_mem hi
 obtain ⟨k,_,_,_,h4⟩:=heard_mem hm
 rw [h4]
 exact dec_ages _
theorem drumlinelaw11_AirOrder_pc (e:Nat→Addr) (hA:Apart4 e) (n part p:Int) (x:Guard) (l:List Said) (lost:List Int) (hls:l.length≤maxLen) (hW:∀ s ∈ l,WfA s.f) (c:Config) (hM:PC Tryz.prog (errG4 e) 9 [I n] (· = D.r (Config.d c))) (hw:Is64 c.window) (hp0:c.parts.length<1000000) (hl0:c.links.length<1000000) (hpp:(IntKind.i64.wrap part).tmod (c.parts.length:Int)=p) (hp1:1≤c.parts.length) (F:Sched c p):PC Tryz.prog (errG4 e) 6 [I n,D.v (.int .u8 part),D.r (Guard.d x),sl' 18 Said.d l,sl' 1 (fun x=>[I x]) lost] (· = D.v (.bool true)):=by
 refine PC.of (N:=120) Tryz.func6 rfl rfl (Nat.le_of_ble_eq_true rfl) ?_
 refine PW.sr [0,1,3,4,7] 1 trivial ?_
 refine PW.seq ?_
 refine PW.sg ?_
 refine PL.gc (A:=[]) (fun _=>alive11_pc e hA) ?_
 refine PL.rw 4 [0,1,3,4,7,18,19,20] 1 trivial ?_
 refine PL.gc (G:=(errG4 e)) (A:=[(18,false)]) (fun _=>PC.more (drumlinelaw11_right_pc x l hls)) ?_
 refine PL.rw 7 [0,1,3,4,7,28] 1 trivial ?_
 refine PL.nl ?_
 refine PW.cd ((false||(!(rightB x l)))||(decide ((lost.length:Int)>(60:Int)))) (fun hz0 => ?_) (fun hz0 => ?_)
 ·try simp only [boolS] at hz0
  have hsl:=saysOf_len c p x l
  refine PW.sg ?_
  refine PL.gc (A:=[]) (fun _=>alive11_pc e hA) ?_
  refine PL.rw 1 [10] 1 trivial ?_
  refine PL.nl ?_
  refine PW.ret ?_
  refine retQ_ret (d:=D.v (.bool true)) (ps:=[]) kR trivial ?_
  rfl
 ·try simp only [boolS] at hz0
  have hro:=right_ok (x:=x) (l:=l) (by first|exact hz0.1|exact hz0.2|exact hz0|grind)
  have hsl:=saysOf_len c p x l
  have hsm:=saysOf_small c p x (said_right (x:=x) (l:=l) (by first|exact hz0.1|exact hz0.2|exact hz0|grind) hW)
  refine PW.skip ?_
  show PW _ _ _ _ _
  refine PW.sg ?_
  refine PL.rw 1 [1,3,4,7,30] 1 trivial ?_
  refine PL.gc (A:=[]) (fun _=>hM) ?_
  refine PL.rw 2 [1,3,4,7,11] 2 trivial ?_
  refine PL.nl ?_
  refine PW.sg ?_
  refine PL.rw 5 [3,4,7,11,33,36] 2 trivial ?_
  refine PL.div (k := .i64) (A:=[]) (IntKind.i64.wrap part) (c.parts.length:Int) ((IntKind.i64.wrap part).tmod (c.parts.length:Int)) rfl (by first|exact .inl ⟨rfl,rfl⟩|exact .inr ⟨rfl,rfl⟩) kR kR kR kR kR (fun _=>by omega) ?_
  refine PL.row 1 [3,4,7,11,12] 2 (s':={ tab:=[⟨3,[],sl' 18 Said.d l⟩,⟨4,[],sl' 1 (fun x=>[I x]) lost⟩,⟨7,[],D.p 0 0 0 0⟩,⟨11,[],D.p 1 0 0 0⟩,⟨12,[],I ((IntKind.i64.wrap part).tmod (c.parts.length:Int))⟩],mem:=[Obj.var 35 [D.v (.bool x.on),I x.start,sl' 1 (fun x=>[I x]) x.ages],Obj.var 30 (Config.d c)],gl:=(errG4 e) }) (p:=True) kR kR kR kR kR trivial ?_
  refine PL.eq (s':={ tab:=[⟨3,[],sl' 18 Said.d l⟩,⟨4,[],sl' 1 (fun x=>[I x]) lost⟩,⟨7,[],D.p 0 0 0 0⟩,⟨11,[],D.p 1 0 0 0⟩,⟨12,[],I p⟩],mem:=[Obj.var 35 [D.v (.bool x.on),I x.start,sl' 1 (fun x=>[I x]) x.ages],Obj.var 30 (Config.d c)],gl:=(errG4 e) }) (by rw [hpp]) ?_
  refine PL.nl ?_
  refine PW.seq ?_
  refine PW.open [] kR ?_
  refine PO.tk [0,1,2,3,4,5,6,8] 15 [3,4,11,12,39,40,41,42,43,44,45,47] 7 trivial (fun _ _ h=>h) ?_
  refine PO.one (n:=6) 7 kR ?_
  refine PO1.gc _ (G:=(errG4 e)) (A:=[]) (fun _=>PC.more (says_pc c p x l (by have:=hro.1; omega) (said_right (x:=x) (l:=l) (by first|exact hz0.1|exact hz0.2|exact hz0|grind) hW) F.fit F.here (by have:=F.many; omega) hp0 hl0)) ?_ rfl
  refine PO.one (n:=5) 9 kR ?_
  refine PO1.gc _ (A:=[]) (fun _=>heard_coarse (air_Heard_pc0 e hA c p x 0 (saysOf c p x l) lost (by have:=hro.1; omega) hsm (by unfold maxLen; omega) (by assumption) hp0 hl0)) ?_ rfl
  refine PO.tk [10,11,12,13,14] 5 [3,4,11,12,13,14] 0 trivial (fun _ _ h=>h) ?_
  refine PO.done kR ?_
  show PW _ _ _ _ _
  refine PW.seq ?_
  refine PW.sr [3,4,11,12,13,14,15] 2 trivial ?_
  refine PW.block ?_
  refine PW.lp (α := Nat) (fun i=>{ tab:=[⟨3,[],sl' 18 Said.d l⟩,⟨4,[],sl' 1 (fun x=>[I x]) lost⟩,⟨11,[],D.p 1 0 0 0⟩,⟨12,[],I p⟩,⟨13,[],sl' 16 Heard.d (heardOf c p x 0 (saysOf c p x l) lost)⟩,⟨14,[],I ((badOf c p x 0 (saysOf c p x l) lost:Nat):Int)⟩,⟨15,[],I (i:Int)⟩],mem:=[Obj.var 35 [D.v (.bool x.on),I x.start,sl' 1 (fun x=>[I x]) x.ages],Obj.var 30 (Config.d c)],gl:=(errG4 e) }) (fun i=>i≤(heardOf c p x 0 (saysOf c p x l) lost).length) (fun i=>(heardOf c p x 0 (saysOf c p x l) lost).length-i) [3,4,11,12,13,14,15] 2 (0) ?_ ?_
  ·exact Nat.zero_le _
  rintro i hinv
  have hx48:=heardOf_len c p x 0 (saysOf c p x l) lost
  have hb48:=badOf_len c p x 0 (saysOf c p x l) lost
  have hwi:0<i→IntKind.i64.wrap ((i:Int)-1)=((i-1:Nat):Int):=fun h=>by rw [Ev.wrap_i64 oM oM]; omega
  show PW _ _ _ _ _
  refine PW.seq ?_
  refine PW.sr [3,4,11,12,13,14,15,54] 2 trivial ?_
  refine PW.cd (decide ((i:Int)<((heardOf c p x 0 (saysOf c p x l) lost).length:Int))) (fun hz1 => ?_) (fun hz1 => ?_)
  ·try simp only [boolS] at hz1
   have hro:=right_ok (x:=x) (l:=l) (by first|exact hz0.1|exact hz0.2|exact hz0|grind)
   have hsl:=saysOf_len c p x l
   have hsm:=saysOf_small c p x (said_right (x:=x) (l:=l) (by first|exact hz0.1|exact hz0.2|exact hz0|grind) hW)
   refine PW.skip ?_
   show PW _ _ _ _ _
   refine PW.seq ?_
   refine PW.block ?_
   refine PW.seq ?_
   refine PW.open [] kR ?_
   refine PO.tk [0,1,2,3,4,5,6,7,8,9,10,11,12,13,14,15,16,17,18,19,20,21,22] 41 [3,4,11,12,13,14,15,73,74,79] 18 (p:=(((decide ((i:Int)>(0:Int)))=true∧True→0≤(i:Int)∧(i:Int)<((heardOf c p x 0 (saysOf c p x l) lost).length:Int)))∧(((decide ((i:Int)>(0:Int)))=true∧True→0≤(IntKind.i64.wrap ((i:Int)-1))∧(IntKind.i64.wrap ((i:Int)-1))<((heardOf c p x 0 (saysOf c p x l) lost).length:Int)))∧((((decide ((i:Int)>(0:Int)))&&(decide ((((heardOf c p x 0 (saysOf c p x l) lost).getD i default).slot)≤(((heardOf c p x 0 (saysOf c p x l) lost).getD ((IntKind.i64.wrap ((i:Int)-1)).toNat) default).slot))))=false∧True→0≤(i:Int)∧(i:Int)<((heardOf c p x 0 (saysOf c p x l) lost).length:Int)))) nD (fun _ _ h=>h) ?_
   refine PO.one (n:=17) 23 kR ?_
   refine PO1.gc _ (G:=(errG4 e)) (A:=[(73,false)]) (fun _=>PC.more (drumlineref1_In_pc lost (((heardOf c p x 0 (saysOf c p x l) lost).getD i default).slot) (by unfold maxLen; omega))) ?_ rfl
   refine PO.tk [24,25,26,27,28,29,30,31,32,33,34,35,36,37] 17 [3,4,11,12,13,14,15,82,83,84,89,94] 3 (p:=(((((decide ((i:Int)>(0:Int)))&&(decide ((((heardOf c p x 0 (saysOf c p x l) lost).getD i default).slot)≤(((heardOf c p x 0 (saysOf c p x l) lost).getD ((IntKind.i64.wrap ((i:Int)-1)).toNat) default).slot))))||(lost.contains (((heardOf c p x 0 (saysOf c p x l) lost).getD i default).slot)))=false∧True→0≤(i:Int)∧(i:Int)<((heardOf c p x 0 (saysOf c p x l) lost).length:Int)))∧(((((decide ((i:Int)>(0:Int)))&&(decide ((((heardOf c p x 0 (saysOf c p x l) lost).getD i default).slot)≤(((heardOf c p x 0 (saysOf c p x l) lost).getD ((IntKind.i64.wrap ((i:Int)-1)).toNat) default).slot))))||(lost.contains (((heardOf c p x 0 (saysOf c p x l) lost).getD i default).slot)))=false∧True→0≤(i:Int)∧(i:Int)<((heardOf c p x 0 (saysOf c p x l) lost).length:Int)))) nD (fun _ _ h=>h) ?_
   refine PO.one (n:=2) 38 kR ?_
   refine PO1.gc _ (G:=(errG4 e)) (A:=[(82,false)]) (fun _=>PC.more (drumlineref10_Fits_pc c p (((heardOf c p x 0 (saysOf c p x l) lost).getD i default).slot) (((heardOf c p x 0 (saysOf c p x l) lost).getD i default).frame) (heard_ages oM) hp0 hl0)) ?_ rfl
   refine PO.tk [39,40] 2 [3,4,11,12,13,14,15,97] 0 trivial (fun _ _ h=>h) ?_
   refine PO.done kR ?_
   show PW _ _ _ _ _
   refine PW.cd ((((decide ((i:Int)>(0:Int)))&&(decide ((((heardOf c p x 0 (saysOf c p x l) lost).getD i default).slot)≤(((heardOf c p x 0 (saysOf c p x l) lost).getD ((IntKind.i64.wrap ((i:Int)-1)).toNat) default).slot))))||(lost.contains (((heardOf c p x 0 (saysOf c p x l) lost).getD i default).slot)))||(!(fitS c p (((heardOf c p x 0 (saysOf c p x l) lost).getD i default).slot) (((heardOf c p x 0 (saysOf c p x l) lost).getD i default).frame)))) (fun hz2 => ?_) (fun hz2 => ?_)
   ·try simp only [boolS] at hz2
    have hro:=right_ok (x:=x) (l:=l) (by first|exact hz0.1|exact hz0.2|exact hz0|grind)
    have hsl:=saysOf_len c p x l
    have hsm:=saysOf_small c p x (said_right (x:=x) (l:=l) (by first|exact hz0.1|exact hz0.2|exact hz0|grind) hW)
    refine PW.sr [10] 2 trivial ?_
    refine PW.ret ?_
    refine retQ_ret (d:=D.v (.bool false)) (ps:=[]) kR trivial ?_
    exfalso
    have ha:=heard_at (c:=c) (part:=p) (x:=x) (ppm:=0) (says:=(saysOf c p x l)) (lost:=lost) (i:=i) oM
    rcases hz2 with (h|h)|h
    · have hu:=heard_up (c:=c) (part:=p) (x:=x) (ppm:=0) (says:=(saysOf c p x l)) (lost:=lost) (i:=i) oM oM
      have h1:=h.2
      rw [hwi oM,Int.toNat_natCast] at h1
      omega
    · rw [ha.1] at h
      cases h
    · rw [ha.2] at h
      cases h
   ·try simp only [boolS] at hz2
    have hro:=right_ok (x:=x) (l:=l) (by first|exact hz0.1|exact hz0.2|exact hz0|grind)
    have hsl:=saysOf_len c p x l
    have hsm:=saysOf_small c p x (said_right (x:=x) (l:=l) (by first|exact hz0.1|exact hz0.2|exact hz0|grind) hW)
    refine PW.skip ?_
    show PW _ _ _ _ _
    refine PW.rr [3,4,11,12,13,14,15] 2 trivial ?_
    refine BackR.of (s1:={ tab:=[⟨3,[],sl' 18 Said.d l⟩,⟨4,[],sl' 1 (fun x=>[I x]) lost⟩,⟨11,[],D.p 1 0 0 0⟩,⟨12,[],I p⟩,⟨13,[],sl' 16 Heard.d (heardOf c p x 0 (saysOf c p x l) lost)⟩,⟨14,[],I ((badOf c p x 0 (saysOf c p x l) lost:Nat):Int)⟩,⟨15,[],I (IntKind.i64.wrap ((i:Int)+1))⟩],mem:=[Obj.var 35 [D.v (.bool x.on),I x.start,sl' 1 (fun x=>[I x]) x.ages],Obj.var 30 (Config.d c)],gl:=(errG4 e) }) (i+1) kR kR ?_ ?_ ?_
    ·rw [wrap1 i oM]
     exact Rem.refl _
    ·omega
    ·exact nD
  ·try simp only [boolS] at hz1
   have hro:=right_ok (x:=x) (l:=l) (by first|exact hz0.1|exact hz0.2|exact hz0|grind)
   have hsl:=saysOf_len c p x l
   have hsm:=saysOf_small c p x (said_right (x:=x) (l:=l) (by first|exact hz0.1|exact hz0.2|exact hz0|grind) hW)
   refine PW.exit ?_
   show PW _ _ _ _ _
   refine PW.sg ?_
   refine PL.rw 18 [109,113,114,115] 2 trivial ?_
   refine PL.gc (G:=(errG4 e)) (A:=[(109,true)]) (fun _=>PC.more ((drumlineref5_Slots_pc0 c p hp0 hl0).list)) ?_
   refine PL.rw 4 [10] 2 trivial ?_
   refine PL.nl ?_
   refine PW.ret ?_
   refine retQ_ret (d:=D.v (.bool (((decide (((badOf c p x 0 (saysOf c p x l) lost:Nat):Int)≥(0:Int)))&&(decide ((IntKind.i64.wrap (((heardOf c p x 0 (saysOf c p x l) lost).length:Int)+((badOf c p x 0 (saysOf c p x l) lost:Nat):Int)))≤(l.length:Int))))&&(decide ((IntKind.i64.wrap (((heardOf c p x 0 (saysOf c p x l) lost).length:Int)+((badOf c p x 0 (saysOf c p x l) lost:Nat):Int)))≤((slotsOf c p).length:Int)))))) (ps:=[]) kR trivial ?_
   have hcn:=heardOf_count (c:=c) (part:=p) (x:=x) (ppm:=0) (says:=(saysOf c p x l)) (lost:=lost)
   have h40:=hro.1
   have hn48:=slotsOf_len c p
   rw [Ev.wrap_i64 oM oM,decide_eq_true oM,decide_eq_true oM,decide_eq_true oM]
   rfl
end Go.Proofs.YtnjoklfclnkklaaGreatDoor.Pl
