/- Chapter 11's laws AirFits, AirRaw, AirHeard. -/
import Derived.Test.YtdomlccfjnkbjaaGreatDoorAiEight
import Derived.Test.YtdomlccfjnkbjaaGreatDoorTbThree
import Derived.Test.YtdomlccfjnkbjaaGreatDoorTbMath
import Derived.Test.YtdomlccfjnkbjaaGreatDoorMdA
namespace Go.Proofs.YtdomlccfjnkbjaaGreatDoor.Pl
open Go.RowKit Go.Proofs.YtdomlccfjnkbjaaGreatDoor.Sm Go.Proofs.YtdomlccfjnkbjaaGreatDoor.Dp
open Go.Proofs.YtdomlccfjnkbjaaGreatDoor.Fr (bare frD frC decX errOf frOf noOf atOf WfA wfA_dec bytesOf mayB)
set_option maxHeartbeats 4000000
set_option maxRecDepth 100000
set_option linter.unusedVariables false
set_option linter.unusedSimpArgs false
theorem say_coarse (a b:Int):∀ (w:World) (ok:Nat→Prop) (v:Value),RepC w ok (D.s 1 3 (fun k=>([[I a,D.v (.slice none 0 0),I b]][k]?).getD [])) v→RepC w ok (sl' 3 Say.d [(⟨a,[],b⟩:Say)]) v:=fun w ok v h=>RepC.seqw h fun i hi=>by
 obtain rfl:i=0:=by
  have h1:i<1:=hi
  omega
 refine ⟨rfl,rfl,fun j d' hj => ?_⟩
 match j,hj with
 | 0,hj =>
  cases hj
  exact ⟨_,rfl,fun _ _ _ h=>h⟩
 | 1,hj =>
  cases hj
  exact ⟨_,rfl,fun _ _ _ h=>h.nil_s⟩
 | 2,hj =>
  cases hj
  exact ⟨_,rfl,fun _ _ _ h=>h⟩
 | j+3,hj=>exact absurd hj (by simp [Say.d])
def exF:Frame:=⟨1,0,0,3,0,0,false,0,0,[],0,0,0,[]⟩
theorem exF_wf:WfA exF:=⟨by unfold Fr.Wf Fr.Is64 exF; dsimp only; omega,fun d hd=>by cases hd⟩
theorem small_ok {l:List Say} (h:smallS l=true):l.length≤60∧∀ s ∈ l,s.bytes.length≤1000000:=by
 unfold smallS at h
 rw [Bool.and_eq_true,Bool.not_eq_true',Bool.not_eq_true',decide_eq_false_iff_not] at h
 refine ⟨by omega,fun s hs => ?_⟩
 have:=List.any_eq_false.1 h.2 s hs
 unfold longS at this
 simp at this
 omega
theorem right_ok {x:Guard} {l:List Said} (h:rightB x l=true):l.length≤40∧∀ s ∈ l,s.b.length≤1000000:=by
 unfold rightB at h
 simp only [Bool.and_eq_true,Bool.not_eq_true',Bool.or_eq_false_iff,decide_eq_false_iff_not] at h
 refine ⟨by omega,fun s hs => ?_⟩
 have:=List.any_eq_false.1 h.2 s hs
 unfold longB at this
 simp at this
 omega
theorem alive11_pc0 (e:Nat→Addr) (hA:Apart4 e) (c:Config) (hM:PC Tryz.prog (errG4 e) 9 [I 1] (· = D.r (Config.d c))) (hw:Is64 c.window) (hp0:c.parts.length<1000000) (hl0:c.links.length<1000000) (h1:heardOf c 0 ⟨false,0,[]⟩ 0 [⟨4,[],0⟩] []=[]) (h2:badOf c 0 ⟨false,0,[]⟩ 0 [⟨4,[],0⟩] []=1) (h3:heardOf c 0 ⟨false,0,[]⟩ 0 [⟨findI c 0 2 0,bytesOf exF,9⟩] []=[⟨findI c 0 2 0,exF,9⟩]) (h4:badOf c 0 ⟨false,0,[]⟩ 0 [⟨findI c 0 2 0,bytesOf exF,9⟩] []=0):PC Tryz.prog (errG4 e) 8 [] (· = D.v (.bool true)):=by
 refine PC.of (N:=64) Tryz.func8 rfl rfl (Nat.le_of_ble_eq_true rfl) ?_
 refine PW.a [] 0 (PW.sg (PL.gc (A:=[]) (fun _=>hM) (PL.n 2 [1] 1 (PW.w 4 [1,10,11,13] 2 (PL.sl [1,10,11,13] 2 (PL.eq (s':={ tab:=[⟨1,[],D.p 0 0 0 0⟩,⟨10,[],D.r (Config.d c)⟩,⟨11,[],D.r [D.v (.bool false),I 0,D.v (.slice none 0 0)]⟩,⟨13,[],D.h 1 1⟩],mem:=[Obj.var 30 (Config.d c),Obj.row 53 3 1 (fun k=>([[I 4,D.v (.slice none 0 0),I 0]][k]?).getD [])],gl:=(errG4 e) }) kR (PL.frzR 1 (t:=53) (z:=3) (m:=1) (f:=(fun k=>([[I 4,D.v (.slice none 0 0),I 0]][k]?).getD [])) (f':=(fun k=>([[I 4,D.v (.slice none 0 0),I 0]][k]?).getD [])) (s':={ tab:=[⟨1,[],D.p 0 0 0 0⟩,⟨10,[],D.r (Config.d c)⟩,⟨11,[],D.r [D.v (.bool false),I 0,D.v (.slice none 0 0)]⟩,⟨13,[],D.s 1 3 (fun k=>([[I 4,D.v (.slice none 0 0),I 0]][k]?).getD [])⟩],mem:=[Obj.var 30 (Config.d c),Obj.dead],gl:=(errG4 e) }) rfl (fun j hj=>rfl) (Nat.zero_le _) kR ?_)))))))
 refine PL.gc (ds0:=[D.r (Config.d c),I 0,D.r [D.v (.bool false),I 0,D.v (.slice none 0 0)],I 0,D.s 1 3 (fun k=>([[I 4,D.v (.slice none 0 0),I 0]][k]?).getD []),D.v (.slice none 0 0)]) (A:=[]) (fun _=>PC.argnil (ds:=[D.r (Config.d c),I 0,D.r [D.v (.bool false),I 0,D.v (.slice none 0 0)],I 0,D.s 1 3 (fun k=>([[I 4,D.v (.slice none 0 0),I 0]][k]?).getD []),D.v (.slice none 0 0)]) 2 2 1 (fun i=>[I (([]:List Int).getD i default)]) rfl rfl (PC.arg (ds:=[D.r (Config.d c),I 0,D.r (Guard.d (⟨false,0,[]⟩:Guard)),I 0,D.s 1 3 (fun k=>([[I 4,D.v (.slice none 0 0),I 0]][k]?).getD []),D.v (.slice none 0 0)]) 4 (sl' 3 Say.d [(⟨4,[],0⟩:Say)]) rfl (say_coarse 4 0) (PC.argnil1 (ds:=[D.r (Config.d c),I 0,D.r (Guard.d (⟨false,0,[]⟩:Guard)),I 0,sl' 3 Say.d [(⟨4,[],0⟩:Say)],D.v (.slice none 0 0)]) 5 1 (fun i=>[I (([]:List Int).getD i default)]) rfl (heard_coarse (air_Heard_pc0 e hA c 0 (⟨false,0,[]⟩:Guard) 0 ([(⟨4,[],0⟩:Say)]) ([]:List Int) (show 1<1000000 by omega) (fun s hs=>by rw [List.mem_singleton.1 hs]; exact Nat.zero_le _) (Nat.zero_le _) (by assumption) hp0 hl0))))) (PL.n 5 [1,2,3] 2 (PW.w 1 [1,2,3,18] 2 (PL.gc (G:=(errG4 e)) (A:=[]) (fun _=>PC.more (PC.argnil (ds:=[D.r [I 1,I 0,I 0,I 3,I 0,I 0,D.v (.bool false),I 0,I 0,D.v (.slice none 0 0),I 0,I 0,I 0,D.v (.slice none 0 0)]]) 0 9 1 (fun i=>[I (([]:List Int).getD i default)]) rfl rfl (PC.argnil (ds:=[D.r [I 1,I 0,I 0,I 3,I 0,I 0,D.v (.bool false),I 0,I 0,D.s 0 1 (fun i=>[I (([]:List Int).getD i default)]),I 0,I 0,I 0,D.v (.slice none 0 0)]]) 0 13 1 (fun i=>u8d (([]:List UInt8).getD i default)) rfl rfl (Fr.encodeR_pc exF exF_wf)))) (PL.n 5 [1,2,3,4] 2 (PW.seq (PW.open [] kR ?_))))))
 refine PO.a [0,1,2,4] 13 [2,3,23,24,25,27] 9 (PO.one (n:=8) 3 kR ?_)
 refine PO1.gc _ (G:=(errG4 e)) (A:=[]) (fun _=>PC.more (drumlineref5_Find_pc c 0 2 0 hp0 hl0)) ?_ rfl
 refine PO.one (n:=7) 5 kR (PO1.build (cs:=[I (findI c 0 2 0),bytesD (bytesOf exF),I 9]) rfl rfl kR kR kR (PO.one (n:=6) 6 kR ?_))
 refine PO1.a [2,3,23,24,29] 3 (PO.sel [2,3,23,24,29] 3 rfl kR (PO.eq (s':={ tab:=[⟨2,[],sl' 16 Heard.d (heardOf c 0 (⟨false,0,[]⟩:Guard) 0 ([(⟨4,[],0⟩:Say)]) ([]:List Int))⟩,⟨3,[],I ((badOf c 0 (⟨false,0,[]⟩:Guard) 0 ([(⟨4,[],0⟩:Say)]) ([]:List Int):Nat):Int)⟩,⟨23,[],D.r (Config.d c)⟩,⟨24,[],D.r [D.v (.bool false),I 0,D.v (.slice none 0 0)]⟩,⟨29,[],D.h 2 1⟩],mem:=[Obj.var 30 (Config.d c),Obj.dead,Obj.row 53 3 1 (fun k=>([[I (findI c 0 2 0),bytesD (bytesOf exF),I 9]][k]?).getD [])],gl:=(errG4 e) }) kR (PO.frzR 2 (t:=53) (z:=3) (m:=1) (f:=(fun k=>([[I (findI c 0 2 0),bytesD (bytesOf exF),I 9]][k]?).getD [])) (f':=(fun i=>Say.d (([(⟨findI c 0 2 0,bytesOf exF,9⟩:Say)]).getD i default))) (s':={ tab:=[⟨2,[],sl' 16 Heard.d (heardOf c 0 (⟨false,0,[]⟩:Guard) 0 ([(⟨4,[],0⟩:Say)]) ([]:List Int))⟩,⟨3,[],I ((badOf c 0 (⟨false,0,[]⟩:Guard) 0 ([(⟨4,[],0⟩:Say)]) ([]:List Int):Nat):Int)⟩,⟨23,[],D.r (Config.d c)⟩,⟨24,[],D.r [D.v (.bool false),I 0,D.v (.slice none 0 0)]⟩,⟨29,[],sl' 3 Say.d ([(⟨findI c 0 2 0,bytesOf exF,9⟩:Say)])⟩],mem:=[Obj.var 30 (Config.d c),Obj.dead,Obj.dead],gl:=(errG4 e) }) rfl (fun j hj=>match j,hj with|0,_=>rfl|j+1,hj=>absurd hj oM) (Nat.zero_le _) kR (PO.one (n:=5) 7 kR ?_))))
 refine PO1.gc _ (ds0:=[D.r (Config.d c),I 0,D.r [D.v (.bool false),I 0,D.v (.slice none 0 0)],I 0,sl' 3 Say.d ([(⟨findI c 0 2 0,bytesOf exF,9⟩:Say)]),D.v (.slice none 0 0)]) (A:=[]) (fun _=>PC.argnil (ds:=[D.r (Config.d c),I 0,D.r [D.v (.bool false),I 0,D.v (.slice none 0 0)],I 0,sl' 3 Say.d ([(⟨findI c 0 2 0,bytesOf exF,9⟩:Say)]),D.v (.slice none 0 0)]) 2 2 1 (fun i=>[I (([]:List Int).getD i default)]) rfl rfl (PC.argnil1 (ds:=[D.r (Config.d c),I 0,D.r (Guard.d (⟨false,0,[]⟩:Guard)),I 0,sl' 3 Say.d ([(⟨findI c 0 2 0,bytesOf exF,9⟩:Say)]),D.v (.slice none 0 0)]) 5 1 (fun i=>[I (([]:List Int).getD i default)]) rfl (heard_coarse (air_Heard_pc0 e hA c 0 (⟨false,0,[]⟩:Guard) 0 ([(⟨findI c 0 2 0,bytesOf exF,9⟩:Say)]) ([]:List Int) (show 1<1000000 by omega) (fun s hs=>by rw [List.mem_singleton.1 hs]; dsimp only; exact bytes_le _) (Nat.zero_le _) (by assumption) hp0 hl0)))) ?_ rfl
 refine PO.a [8,9,10,11,12] 5 [2,3,6,7] 0 (PO.done kR ?_)
 show PW _ _ _ _ _
 refine PW.sr [0] 3 (p:=((((((((heardOf c 0 (⟨false,0,[]⟩:Guard) 0 ([(⟨4,[],0⟩:Say)]) ([]:List Int)).length:Int) == (0:Int))&&(((badOf c 0 (⟨false,0,[]⟩:Guard) 0 ([(⟨4,[],0⟩:Say)]) ([]:List Int):Nat):Int) == (1:Int)))&&(((heardOf c 0 (⟨false,0,[]⟩:Guard) 0 ([(⟨findI c 0 2 0,bytesOf exF,9⟩:Say)]) ([]:List Int)).length:Int) == (1:Int)))&&(((badOf c 0 (⟨false,0,[]⟩:Guard) 0 ([(⟨findI c 0 2 0,bytesOf exF,9⟩:Say)]) ([]:List Int):Nat):Int) == (0:Int)))=true∧True→0≤(0:Int)∧(0:Int)<((heardOf c 0 (⟨false,0,[]⟩:Guard) 0 ([(⟨findI c 0 2 0,bytesOf exF,9⟩:Say)]) ([]:List Int)).length:Int)))∧(((((((((heardOf c 0 (⟨false,0,[]⟩:Guard) 0 ([(⟨4,[],0⟩:Say)]) ([]:List Int)).length:Int) == (0:Int))&&(((badOf c 0 (⟨false,0,[]⟩:Guard) 0 ([(⟨4,[],0⟩:Say)]) ([]:List Int):Nat):Int) == (1:Int)))&&(((heardOf c 0 (⟨false,0,[]⟩:Guard) 0 ([(⟨findI c 0 2 0,bytesOf exF,9⟩:Say)]) ([]:List Int)).length:Int) == (1:Int)))&&(((badOf c 0 (⟨false,0,[]⟩:Guard) 0 ([(⟨findI c 0 2 0,bytesOf exF,9⟩:Say)]) ([]:List Int):Nat):Int) == (0:Int)))&&(((((heardOf c 0 (⟨false,0,[]⟩:Guard) 0 ([(⟨findI c 0 2 0,bytesOf exF,9⟩:Say)]) ([]:List Int)).getD 0 default).frame).wait) == (3:Int)))=true∧True→0≤(0:Int)∧(0:Int)<((heardOf c 0 (⟨false,0,[]⟩:Guard) 0 ([(⟨findI c 0 2 0,bytesOf exF,9⟩:Say)]) ([]:List Int)).length:Int)))) nD (PW.ret (rq (D.v (.bool ((((((((heardOf c 0 (⟨false,0,[]⟩:Guard) 0 ([(⟨4,[],0⟩:Say)]) ([]:List Int)).length:Int) == (0:Int))&&(((badOf c 0 (⟨false,0,[]⟩:Guard) 0 ([(⟨4,[],0⟩:Say)]) ([]:List Int):Nat):Int) == (1:Int)))&&(((heardOf c 0 (⟨false,0,[]⟩:Guard) 0 ([(⟨findI c 0 2 0,bytesOf exF,9⟩:Say)]) ([]:List Int)).length:Int) == (1:Int)))&&(((badOf c 0 (⟨false,0,[]⟩:Guard) 0 ([(⟨findI c 0 2 0,bytesOf exF,9⟩:Say)]) ([]:List Int):Nat):Int) == (0:Int)))&&(((((heardOf c 0 (⟨false,0,[]⟩:Guard) 0 ([(⟨findI c 0 2 0,bytesOf exF,9⟩:Say)]) ([]:List Int)).getD 0 default).frame).wait) == (3:Int)))&&((((heardOf c 0 (⟨false,0,[]⟩:Guard) 0 ([(⟨findI c 0 2 0,bytesOf exF,9⟩:Say)]) ([]:List Int)).getD 0 default).at_) == (9:Int))))) ?_))
 rw [h1,h2,h3,h4]
 rfl
theorem alive1:heardOf (madeC 1) 0 ⟨false,0,[]⟩ 0 [⟨4,[],0⟩] []=[]:=by kernel_rfl
theorem alive2:badOf (madeC 1) 0 ⟨false,0,[]⟩ 0 [⟨4,[],0⟩] []=1:=by kernel_rfl
theorem alive3:heardOf (madeC 1) 0 ⟨false,0,[]⟩ 0 [⟨findI (madeC 1) 0 2 0,bytesOf exF,9⟩] []=[⟨findI (madeC 1) 0 2 0,exF,9⟩]:=by kernel_rfl
theorem alive4:badOf (madeC 1) 0 ⟨false,0,[]⟩ 0 [⟨findI (madeC 1) 0 2 0,bytesOf exF,9⟩] []=0:=by kernel_rfl
theorem window_of {c:Config} (N:Nums c):Is64 c.window:=by
 have h1:=N.win
 have h2:=(inR_of N.all.1).edg
 unfold Is64
 omega
theorem alive11_pc (e:Nat→Addr) (hA:Apart4 e):PC Tryz.prog (errG4 e) 8 [] (· = D.v (.bool true)):=by
 have hl:=madeC_len 1
 exact alive11_pc0 e hA (madeC 1) (Dp.PC.more (Made_pc 1)) (window_of (made_nums 1)) oM oM alive1 alive2 alive3 alive4
theorem said_right {x:Guard} {l:List Said} (h:rightB x l=true) (hW:∀ s ∈ l,WfA s.f):∀ s ∈ l,SaidOk s:=fun s hs=>⟨hW s hs,(right_ok h).2 s hs⟩
theorem drumlinelaw11_AirFits_pc (e:Nat→Addr) (hA:Apart4 e) (n part slot:Int) (f:Frame) (c:Config) (hM:PC Tryz.prog (errG4 e) 9 [I n] (· = D.r (Config.d c))) (hw:Is64 c.window) (hp0:c.parts.length<1000000) (hl0:c.links.length<1000000):PC Tryz.prog (errG4 e) 3 [I n,I part,I slot,D.r (frD f)] (· = D.v (.bool true)):=by
 refine PC.of (N:=38) Tryz.func3 rfl rfl (Nat.le_of_ble_eq_true rfl) ?_
 refine PW.a [0,1,2,7] 1 (PW.seq (PW.sg (PL.gc (A:=[]) (fun _=>alive11_pc e hA) (PL.n 13 [0,1,2,7,23] 1 (PW.cd ((false||(decide ((f.ages.length:Int)>(20:Int))))||(decide ((f.body.length:Int)>(100:Int)))) ?_ ?_))))) <;> intro hz0 <;> try simp only [boolS] at hz0
 ·refine PW.sg (PL.gc (A:=[]) (fun _=>alive11_pc e hA) (PL.n 1 [8] 1 (PW.ret (rq (D.v (.bool true)) ?_))))
  rfl
 ·refine PW.k (PW.w 1 [1,2,7,25] 1 (PL.gc (A:=[]) (fun _=>hM) (PL.n 2 [1,2,7,9] 2 (PW.seq (PW.open [] kR ?_)))))
  refine PO.a [0,1,2,3,5,6,7,8] 12 [27,28,29,30,32,33,34,35] 4 (PO.one (n:=3) 4 kR ?_)
  refine PO1.gc _ (A:=[]) (fun _=>air_Fits_pc e hA c part slot f (by unfold maxLen; omega) hp0 hl0) ?_ rfl
  refine PO.one (n:=2) 9 kR ?_
  refine PO1.gc _ (G:=(errG4 e)) (A:=[]) (fun _=>PC.more (drumlineref10_Fits_pc c part slot f (by unfold maxLen; omega) hp0 hl0)) ?_ rfl
  refine PO.a [10,11] 2 [8] 0 (PO.done kR ?_)
  show PW _ _ _ _ _
  refine PW.ret (rq (D.v (.bool ((fitS c part slot f) == (fitS c part slot f)))) ?_)
  simp
theorem drumlinelaw11_AirRaw_pc (e:Nat→Addr) (hA:Apart4 e) (c:Config) (part:Int) (x:Guard) (ppm:Int) (says:List Say) (lost:List Int) (hls:says.length≤maxLen) (hw:Is64 c.window):PC Tryz.prog (errG4 e) 4 [D.r (Config.d c),I part,D.r (Guard.d x),I ppm,sl' 3 Say.d says,sl' 1 (fun x=>[I x]) lost] (· = D.v (.bool true)):=by
 refine PC.of (N:=76) Tryz.func4 rfl rfl (Nat.le_of_ble_eq_true rfl) ?_
 refine PW.a [1,3,4,5,6,8] 2 (PW.seq (PW.sg (PL.gc (A:=[]) (fun _=>alive11_pc e hA) (PL.a 15 [1,3,4,5,6,8,31,32] 2 (PL.gc (G:=(errG4 e)) (A:=[(31,false)]) (fun _=>PC.more (drumlinelaw11_small_pc says hls)) (PL.n 13 [1,3,4,5,6,8,46] 2 (PW.cd (((((false||(decide ((c.parts.length:Int)>(20:Int))))||(decide ((c.links.length:Int)>(30:Int))))||(!(smallS says)))||(decide ((lost.length:Int)>(60:Int))))||(decide ((x.ages.length:Int)>(20:Int)))) ?_ ?_))))))) <;> intro hz0 <;> try simp only [boolS] at hz0
 ·try have hso:=small_ok (l:=says) (by first|exact hz0.1.1.2|exact hz0.1.2|exact hz0.2|grind)
  try have hp0:c.parts.length<1000000:=by omega
  try have hl0:c.links.length<1000000:=by omega
  refine PW.sg (PL.gc (A:=[]) (fun _=>alive11_pc e hA) (PL.n 1 [12] 2 (PW.ret (rq (D.v (.bool true)) ?_))))
  rfl
 ·try have hso:=small_ok (l:=says) (by first|exact hz0.1.1.2|exact hz0.1.2|exact hz0.2|grind)
  try have hp0:c.parts.length<1000000:=by omega
  try have hl0:c.links.length<1000000:=by omega
  refine PW.k (PW.w 6 [1,3,4,5,6,8,49,50,51,52,53,54] 2 (PL.gc (A:=[]) (fun _=>heard_coarse (air_Heard_pc0 e hA c part x ppm says lost (by have:=hso.1; omega) hso.2 (by unfold maxLen; omega) (by assumption) hp0 hl0)) (PL.n 5 [1,3,4,5,6,8,13,14] 2 (PW.w 6 [13,14,59,60,61,62,63,64] 2 (PL.gc (G:=(errG4 e)) (A:=[]) (fun _=>PC.more (heard_coarse (drumlineref10_Heard_pc0 c part x ppm says lost (by have:=hso.1; omega) hso.2 (by unfold maxLen; omega) (by assumption) hp0 hl0))) (PL.n 5 [13,14,15,16] 2 (PW.w 2 [14,16,68,69] 2 ?_)))))))
  refine PL.gc (G:=(errG4 e)) (A:=[]) (fun _=>PC.more (drumlineref10_SameHeard_pc (heardOf c part x ppm says lost) (by have:=heardOf_len c part x ppm says lost; omega) (heardOf_wf c part x ppm says lost))) (PL.n 6 [12] 2 (PW.ret (rq (D.v (.bool (true&&(((badOf c part x ppm says lost:Nat):Int) == ((badOf c part x ppm says lost:Nat):Int))))) ?_)))
  simp
theorem drumlinelaw11_AirHeard_pc (e:Nat→Addr) (hA:Apart4 e) (n part p:Int) (x:Guard) (l:List Said) (lost:List Int) (hls:l.length≤maxLen) (hW:∀ s ∈ l,WfA s.f) (c:Config) (hM:PC Tryz.prog (errG4 e) 9 [I n] (· = D.r (Config.d c))) (hw:Is64 c.window) (hp0:c.parts.length<1000000) (hl0:c.links.length<1000000) (hpp:(IntKind.i64.wrap part).tmod (c.parts.length:Int)=p) (hp1:1≤c.parts.length) (F:Sched c p):PC Tryz.prog (errG4 e) 5 [I n,D.v (.int .u8 part),D.r (Guard.d x),sl' 18 Said.d l,sl' 1 (fun x=>[I x]) lost] (· = D.v (.bool true)):=by
 refine PC.of (N:=71) Tryz.func5 rfl rfl (Nat.le_of_ble_eq_true rfl) ?_
 refine PW.a [0,1,3,4,7] 1 (PW.seq (PW.sg (PL.gc (A:=[]) (fun _=>alive11_pc e hA) (PL.a 4 [0,1,3,4,7,20,21,22] 1 (PL.gc (G:=(errG4 e)) (A:=[(20,false)]) (fun _=>PC.more (drumlinelaw11_right_pc x l hls)) (PL.n 7 [0,1,3,4,7,30] 1 (PW.cd ((false||(!(rightB x l)))||(decide ((lost.length:Int)>(60:Int)))) ?_ ?_))))))) <;> intro hz0 <;> try simp only [boolS] at hz0
 ·try have hro:=right_ok (x:=x) (l:=l) (by first|exact hz0.1|exact hz0.2|exact hz0|grind)
  try have hsl:=saysOf_len c p x l
  try have hsm:=saysOf_small c p x (said_right (x:=x) (l:=l) (by first|exact hz0.1|exact hz0.2|exact hz0|grind) hW)
  refine PW.sg (PL.gc (A:=[]) (fun _=>alive11_pc e hA) (PL.n 1 [10] 1 (PW.ret (rq (D.v (.bool true)) ?_))))
  rfl
 ·try have hro:=right_ok (x:=x) (l:=l) (by first|exact hz0.1|exact hz0.2|exact hz0|grind)
  try have hsl:=saysOf_len c p x l
  try have hsm:=saysOf_small c p x (said_right (x:=x) (l:=l) (by first|exact hz0.1|exact hz0.2|exact hz0|grind) hW)
  refine PW.k (PW.w 1 [1,3,4,7,32] 1 (PL.gc (A:=[]) (fun _=>hM) (PL.n 2 [1,3,4,7,11] 2 (PW.w 5 [3,4,7,11,35,38] 2 (PL.div (k := .i64) (A:=[]) (IntKind.i64.wrap part) (c.parts.length:Int) ((IntKind.i64.wrap part).tmod (c.parts.length:Int)) rfl (by first|exact .inl ⟨rfl,rfl⟩|exact .inr ⟨rfl,rfl⟩) kR kR kR kR kR (fun _=>by omega) (PL.row 1 [3,4,7,11,12] 2 (s':={ tab:=[⟨3,[],sl' 18 Said.d l⟩,⟨4,[],sl' 1 (fun x=>[I x]) lost⟩,⟨7,[],D.p 0 0 0 0⟩,⟨11,[],D.p 1 0 0 0⟩,⟨12,[],I ((IntKind.i64.wrap part).tmod (c.parts.length:Int))⟩],mem:=[Obj.var 35 [D.v (.bool x.on),I x.start,sl' 1 (fun x=>[I x]) x.ages],Obj.var 30 (Config.d c)],gl:=(errG4 e) }) (p:=True) kR kR kR kR kR trivial (PL.eq (s':={ tab:=[⟨3,[],sl' 18 Said.d l⟩,⟨4,[],sl' 1 (fun x=>[I x]) lost⟩,⟨7,[],D.p 0 0 0 0⟩,⟨11,[],D.p 1 0 0 0⟩,⟨12,[],I p⟩],mem:=[Obj.var 35 [D.v (.bool x.on),I x.start,sl' 1 (fun x=>[I x]) x.ages],Obj.var 30 (Config.d c)],gl:=(errG4 e) }) (by rw [hpp]) ?_)))))))
  refine PL.nl (PW.w 4 [4,7,11,12,40,41,42,43] 2 (PL.gc (G:=(errG4 e)) (A:=[]) (fun _=>PC.more (says_pc c p x l (by have:=hro.1; omega) (said_right (x:=x) (l:=l) (by first|exact hz0.1|exact hz0.2|exact hz0|grind) hW) F.fit F.here (by have:=F.many; omega) hp0 hl0)) (PL.n 1 [4,7,11,12,13] 2 (PW.w 5 [4,7,11,12,13,46,47,48,49,50] 2 (PL.gc (A:=[]) (fun _=>heard_coarse (air_Heard_pc0 e hA c p x 0 (saysOf c p x l) lost (by have:=hro.1; omega) hsm (by unfold maxLen; omega) (by assumption) hp0 hl0)) (PL.n 5 [4,7,11,12,13,14,15] 2 (PW.w 5 [14,15,55,56,57,58,59] 2 ?_)))))))
  refine PL.gc (G:=(errG4 e)) (A:=[]) (fun _=>PC.more (heard_coarse (drumlineref10_Heard_pc0 c p x 0 (saysOf c p x l) lost (by have:=hro.1; omega) hsm (by unfold maxLen; omega) (by assumption) hp0 hl0))) (PL.n 5 [14,15,16,17] 2 (PW.w 2 [15,17,63,64] 2 (PL.gc (G:=(errG4 e)) (A:=[]) (fun _=>PC.more (drumlineref10_SameHeard_pc (heardOf c p x 0 (saysOf c p x l) lost) (by have:=heardOf_len c p x 0 (saysOf c p x l) lost; omega) (heardOf_wf c p x 0 (saysOf c p x l) lost))) (PL.n 6 [10] 2 (PW.ret (rq (D.v (.bool (true&&(((badOf c p x 0 (saysOf c p x l) lost:Nat):Int) == ((badOf c p x 0 (saysOf c p x l) lost:Nat):Int))))) ?_))))))
  simp
end Go.Proofs.YtdomlccfjnkbjaaGreatDoor.Pl
