/- Chapter 11's law AirLost. -/
import Derived.Test.YtnjoklfclnkklaaGreatDoorAiOrder
namespace Go.Proofs.YtnjoklfclnkklaaGreatDoor.Pl
open Go.RowKit Go.Proofs.YtnjoklfclnkklaaGreatDoor.Sm Go.Proofs.YtnjoklfclnkklaaGreatDoor.Dp
open Go.Proofs.YtnjoklfclnkklaaGreatDoor.Fr (bare frD frC decX errOf frOf noOf atOf WfA wfA_dec bytesOf mayB)
set_option maxHeartbeats 4000000
set_option maxRecDepth 100000
set_option linter.unusedVariables false
set_option linter.unusedSimpArgs false
section
variable {L ys zs:List Say} {i:Nat} {q:Int}
theorem split_yes (h:i≤L.length∧ys=(L.take i).filter (notSlot q)∧zs=(L.take i).filter (inSlot q)) (hi:i<L.length) (hz:(L.getD i default).slot=q):i+1≤L.length∧ys=(L.take (i+1)).filter (notSlot q)∧zs++[L.getD i default]=(L.take (i+1)).filter (inSlot q):=by
 have h1:inSlot q (L.getD i default)=true:=by unfold inSlot; rw [hz]; simp
 have h2:¬ notSlot q (L.getD i default)=true:=by unfold notSlot; rw [h1]; decide
 rw [filter_step L hi,filter_step L hi,if_pos h1,if_neg h2]
 exact ⟨hi,h.2.1,by rw [h.2.2]⟩
theorem split_no (h:i≤L.length∧ys=(L.take i).filter (notSlot q)∧zs=(L.take i).filter (inSlot q)) (hi:i<L.length) (hz:¬ (L.getD i default).slot=q):i+1≤L.length∧ys++[L.getD i default]=(L.take (i+1)).filter (notSlot q)∧zs=(L.take (i+1)).filter (inSlot q):=by
 have h1:¬ inSlot q (L.getD i default)=true:=by unfold inSlot; rw [beq_iff_eq]; exact hz
 have h2:notSlot q (L.getD i default)=true:=by unfold notSlot; rw [Bool.not_eq_true'] ; exact Bool.eq_false_iff.2 h1
 rw [filter_step L hi,filter_step L hi,if_neg h1,if_pos h2]
 exact ⟨hi,by rw [h.2.1],h.2.2⟩
theorem split_end (h:i≤L.length∧ys=(L.take i).filter (notSlot q)∧zs=(L.take i).filter (inSlot q)) (hi:L.length≤i):ys=L.filter (notSlot q)∧zs=L.filter (inSlot q):=by
 rw [List.take_of_length_le hi] at h
 exact h.2
theorem part_ok {p:Say→Bool} {n:Nat} (hL:L.length≤n) (hB:∀ s ∈ L,s.bytes.length≤1000000) (h:ys=(L.take i).filter p):(ys.length≤n∧ys.length≤i)∧∀ s ∈ ys,s.bytes.length≤1000000:=by
 have h1:=List.length_filter_le p (L.take i)
 rw [List.length_take] at h1
 refine ⟨⟨by rw [h]; omega,by rw [h]; omega⟩,fun s hs => ?_⟩
 rw [h] at hs
 exact hB s (List.mem_of_mem_take (List.mem_filter.1 hs).1)
theorem says_app (h1:∀ s ∈ ys,s.bytes.length≤1000000) (h2:∀ s ∈ zs,s.bytes.length≤1000000):∀ s ∈ ys++zs,s.bytes.length≤1000000:=fun s hs=>(List.mem_append.1 hs).elim (h1 s) (h2 s)
end
theorem drumlinelaw11_AirLost_pc (e:Nat→Addr) (hA:Apart4 e) (n part p:Int) (x:Guard) (l:List Said) (slot q:Int) (hls:l.length≤maxLen) (hW:∀ s ∈ l,WfA s.f) (c:Config) (hM:PC Tryz.prog (errG4 e) 9 [I n] (· = D.r (Config.d c))) (hw:Is64 c.window) (hp0:c.parts.length<1000000) (hl0:c.links.length<1000000) (hpp:(IntKind.i64.wrap part).tmod (c.parts.length:Int)=p) (hp1:1≤c.parts.length) (F:Sched c p) (hn5:5≤(slotsOf c p).length) (hqq:(IntKind.i64.wrap slot).tmod ((slotsOf c p).length:Int)=q):PC Tryz.prog (errG4 e) 7 [I n,D.v (.int .u8 part),D.r (Guard.d x),sl' 18 Said.d l,D.v (.int .u8 slot)] (· = D.v (.bool true)):=by
 refine PC.of (N:=155) Tryz.func7 rfl rfl (Nat.le_of_ble_eq_true rfl) ?_
 refine PW.sr [0,1,3,4,7] 1 trivial ?_
 refine PW.seq ?_
 refine PW.sg ?_
 refine PL.gc (A:=[]) (fun _=>alive11_pc e hA) ?_
 refine PL.rw 4 [0,1,3,4,7,30,31,32] 1 trivial ?_
 refine PL.gc (G:=(errG4 e)) (A:=[(30,false)]) (fun _=>PC.more (drumlinelaw11_right_pc x l hls)) ?_
 refine PL.rw 2 [0,1,3,4,7,35] 1 trivial ?_
 refine PL.nl ?_
 refine PW.cd (false||(!(rightB x l))) (fun hz0 => ?_) (fun hz0 => ?_)
 ·try simp only [boolS] at hz0
  have hsl:=saysOf_len c p x l
  refine PW.sg ?_
  refine PL.gc (A:=[]) (fun _=>alive11_pc e hA) ?_
  refine PL.rw 1 [10] 1 trivial ?_
  refine PL.nl ?_
  refine PW.ret ?_
  refine retQ_ret (d:=D.v (.bool true)) (ps:=[]) kR trivial ?_
  rfl
 ·try simp only [boolS] at hz0
  have hro:=right_ok (x:=x) (l:=l) (by first|exact hz0.1|exact hz0.2|exact hz0|grind)
  have hsl:=saysOf_len c p x l
  have hsm:=saysOf_small c p x (said_right (x:=x) (l:=l) (by first|exact hz0.1|exact hz0.2|exact hz0|grind) hW)
  refine PW.skip ?_
  show PW _ _ _ _ _
  refine PW.sg ?_
  refine PL.rw 1 [1,3,4,7,37] 1 trivial ?_
  refine PL.gc (A:=[]) (fun _=>hM) ?_
  refine PL.rw 2 [1,3,4,7,11] 2 trivial ?_
  refine PL.nl ?_
  refine PW.sg ?_
  refine PL.rw 5 [3,4,7,11,40,43] 2 trivial ?_
  refine PL.div (k := .i64) (A:=[]) (IntKind.i64.wrap part) (c.parts.length:Int) ((IntKind.i64.wrap part).tmod (c.parts.length:Int)) rfl (by first|exact .inl ⟨rfl,rfl⟩|exact .inr ⟨rfl,rfl⟩) kR kR kR kR kR (fun _=>by omega) ?_
  refine PL.row 1 [3,4,7,11,12] 2 (s':={ tab:=[⟨3,[],sl' 18 Said.d l⟩,⟨4,[],D.v (.int .u8 slot)⟩,⟨7,[],D.p 0 0 0 0⟩,⟨11,[],D.p 1 0 0 0⟩,⟨12,[],I ((IntKind.i64.wrap part).tmod (c.parts.length:Int))⟩],mem:=[Obj.var 35 [D.v (.bool x.on),I x.start,sl' 1 (fun x=>[I x]) x.ages],Obj.var 30 (Config.d c)],gl:=(errG4 e) }) (p:=True) kR kR kR kR kR trivial ?_
  refine PL.eq (s':={ tab:=[⟨3,[],sl' 18 Said.d l⟩,⟨4,[],D.v (.int .u8 slot)⟩,⟨7,[],D.p 0 0 0 0⟩,⟨11,[],D.p 1 0 0 0⟩,⟨12,[],I p⟩],mem:=[Obj.var 35 [D.v (.bool x.on),I x.start,sl' 1 (fun x=>[I x]) x.ages],Obj.var 30 (Config.d c)],gl:=(errG4 e) }) (by rw [hpp]) ?_
  refine PL.nl ?_
  refine PW.sg ?_
  refine PL.rw 4 [4,7,11,12,45,46,47,48] 2 trivial ?_
  refine PL.gc (G:=(errG4 e)) (A:=[]) (fun _=>PC.more (says_pc c p x l (by have:=hro.1; omega) (said_right (x:=x) (l:=l) (by first|exact hz0.1|exact hz0.2|exact hz0|grind) hW) F.fit F.here (by have:=F.many; omega) hp0 hl0)) ?_
  refine PL.rw 1 [4,7,11,12,13] 2 trivial ?_
  refine PL.nl ?_
  refine PW.sg ?_
  refine PL.rw 4 [7,11,12,13,51,52,53] 2 trivial ?_
  refine PL.gc (G:=(errG4 e)) (A:=[]) (fun _=>PC.more ((drumlineref5_Slots_pc0 c p hp0 hl0).list)) ?_
  refine PL.rw 1 [7,11,12,13,51,55] 2 trivial ?_
  refine PL.div (k := .i64) (A:=[]) (IntKind.i64.wrap slot) ((slotsOf c p).length:Int) ((IntKind.i64.wrap slot).tmod ((slotsOf c p).length:Int)) rfl (by first|exact .inl ⟨rfl,rfl⟩|exact .inr ⟨rfl,rfl⟩) kR kR kR kR kR (fun _=>by omega) ?_
  refine PL.row 1 [7,11,12,13,14] 2 (s':={ tab:=[⟨7,[],D.p 0 0 0 0⟩,⟨11,[],D.p 1 0 0 0⟩,⟨12,[],I p⟩,⟨13,[],sl' 3 Say.d (saysOf c p x l)⟩,⟨14,[],I ((IntKind.i64.wrap slot).tmod ((slotsOf c p).length:Int))⟩],mem:=[Obj.var 35 [D.v (.bool x.on),I x.start,sl' 1 (fun x=>[I x]) x.ages],Obj.var 30 (Config.d c)],gl:=(errG4 e) }) (p:=True) kR kR kR kR kR trivial ?_
  refine PL.eq (s':={ tab:=[⟨7,[],D.p 0 0 0 0⟩,⟨11,[],D.p 1 0 0 0⟩,⟨12,[],I p⟩,⟨13,[],sl' 3 Say.d (saysOf c p x l)⟩,⟨14,[],I q⟩],mem:=[Obj.var 35 [D.v (.bool x.on),I x.start,sl' 1 (fun x=>[I x]) x.ages],Obj.var 30 (Config.d c)],gl:=(errG4 e) }) (by rw [hqq]) ?_
  refine PL.nl ?_
  refine PW.sr [7,11,12,13,14,15,16] 2 trivial ?_
  refine PW.seq ?_
  refine PW.sr [7,11,12,13,14,15,16,17] 2 trivial ?_
  refine PW.block ?_
  refine PW.born 15 53 3 kR ?_
  refine PW.born 16 53 3 kR ?_
  refine PW.loopR (α := Nat×List Say×List Say) (fun (i,ys,zs)=>{ tab:=[⟨7,[],D.p 0 0 0 0⟩,⟨11,[],D.p 1 0 0 0⟩,⟨12,[],I p⟩,⟨13,[],sl' 3 Say.d (saysOf c p x l)⟩,⟨14,[],I q⟩,⟨15,[],D.h 2 ys.length⟩,⟨16,[],D.h 3 zs.length⟩,⟨17,[],I (i:Int)⟩],mem:=[Obj.var 35 [D.v (.bool x.on),I x.start,sl' 1 (fun x=>[I x]) x.ages],Obj.var 30 (Config.d c),Obj.row 53 3 ys.length (fun j=>Say.d (ys.getD j default)),Obj.row 53 3 zs.length (fun j=>Say.d (zs.getD j default))],gl:=(errG4 e) }) (fun (i,ys,zs)=>i≤(saysOf c p x l).length∧ys=((saysOf c p x l).take i).filter (notSlot q)∧zs=((saysOf c p x l).take i).filter (inSlot q)) (fun (i,ys,zs)=>(saysOf c p x l).length-i) [7,11,12,13,14,15,16,17] 4 (0,[],[]) (s1:={ tab:=[⟨7,[],D.p 0 0 0 0⟩,⟨11,[],D.p 1 0 0 0⟩,⟨12,[],I p⟩,⟨13,[],sl' 3 Say.d (saysOf c p x l)⟩,⟨14,[],I q⟩,⟨15,[],D.h 2 0⟩,⟨16,[],D.h 3 0⟩,⟨17,[],I 0⟩],mem:=[Obj.var 35 [D.v (.bool x.on),I x.start,sl' 1 (fun x=>[I x]) x.ages],Obj.var 30 (Config.d c),Obj.row 53 3 0 (fun _=>[]),Obj.row 53 3 0 (fun _=>[])],gl:=(errG4 e) }) kR kR ?_ ?_ ?_
  ·dsimp only
   exact ⟨rfl,rfl,rfl,(.same (.same (.row rfl (fun j hj=>absurd hj (Nat.not_lt_zero _)) (.row rfl (fun j hj=>absurd hj (Nat.not_lt_zero _)) .nil))))⟩
  ·dsimp only
   exact ⟨Nat.zero_le _,rfl,rfl⟩
  rintro ⟨i,ys,zs⟩ hinv
  dsimp only at hinv
  have hys:=part_ok (n:=40) (by have:=hro.1; omega) hsm hinv.2.1
  have hzs:=part_ok (n:=40) (by have:=hro.1; omega) hsm hinv.2.2
  show PW _ _ _ _ _
  refine PW.seq ?_
  refine PW.sr [7,11,12,13,14,15,16,17,60] 4 trivial ?_
  refine PW.cd (decide ((i:Int)<((saysOf c p x l).length:Int))) (fun hz1 => ?_) (fun hz1 => ?_)
  ·try simp only [boolS] at hz1
   have hro:=right_ok (x:=x) (l:=l) (by first|exact hz0.1|exact hz0.2|exact hz0|grind)
   have hsl:=saysOf_len c p x l
   have hsm:=saysOf_small c p x (said_right (x:=x) (l:=l) (by first|exact hz0.1|exact hz0.2|exact hz0|grind) hW)
   refine PW.skip ?_
   show PW _ _ _ _ _
   refine PW.seq ?_
   refine PW.block ?_
   refine PW.sr [7,11,12,13,14,15,16,17,69] 4 (p:=(0≤(i:Int)∧(i:Int)<((saysOf c p x l).length:Int))) oM ?_
   refine PW.cd ((((saysOf c p x l).getD i default).slot) == q) (fun hz2 => ?_) (fun hz2 => ?_)
   ·try simp only [boolS] at hz2
    have hro:=right_ok (x:=x) (l:=l) (by first|exact hz0.1|exact hz0.2|exact hz0|grind)
    have hsl:=saysOf_len c p x l
    have hsm:=saysOf_small c p x (said_right (x:=x) (l:=l) (by first|exact hz0.1|exact hz0.2|exact hz0|grind) hW)
    refine PW.region ?_
    refine PL.rw 7 [7,11,12,13,14,15,17,76] 5 (p:=(0≤(i:Int)∧(i:Int)<((saysOf c p x l).length:Int))∧((zs.length=zs.length∧1≤1)∧(zs.length+1)*40≤140737488355328∧zs.length+1≤9223372036854775807)) oM ?_
    refine PL.rm 3 (t:=53) (z:=3) (n:=(zs.length+1)) (fun j=>if j<zs.length then (fun j=>Say.d (zs.getD j default)) j else (fun k=>([[I (((saysOf c p x l).getD i default).slot),bytesD (((saysOf c p x l).getD i default).bytes),I (((saysOf c p x l).getD i default).at_)]][k]?).getD []) (j-zs.length)) (fun j=>Say.d ((zs++[((saysOf c p x l).getD i default)]).getD j default)) (fun j hj=>by (try dsimp only); rw [getD_app zs [((saysOf c p x l).getD i default)] j default,show zs.length=zs.length from (by (try simp only [List.length_set,List.length_replicate,List.length_append,List.length_cons,List.length_nil]) <;> omega)]; split <;> first|rfl|(rename_i hjn; rw [show j-zs.length=0 by omega]; rfl)) ?_
    refine PL.rw 1 [7,11,12,13,14,15,16,17] 5 trivial ?_
    refine PL.nil ?_
    show PW _ _ _ _ _
    refine PW.rr [7,11,12,13,14,15,16,17] 5 trivial ?_
    refine BackR.of (s1:={ tab:=[⟨7,[],D.p 0 0 0 0⟩,⟨11,[],D.p 1 0 0 0⟩,⟨12,[],I p⟩,⟨13,[],sl' 3 Say.d (saysOf c p x l)⟩,⟨14,[],I q⟩,⟨15,[],D.h 2 ys.length⟩,⟨16,[],D.h 3 (zs.length+1)⟩,⟨17,[],I (IntKind.i64.wrap ((i:Int)+1))⟩],mem:=[Obj.var 35 [D.v (.bool x.on),I x.start,sl' 1 (fun x=>[I x]) x.ages],Obj.var 30 (Config.d c),Obj.row 53 3 ys.length (fun j=>Say.d (ys.getD j default)),Obj.row 53 3 (zs.length+1) (fun j=>Say.d ((zs++[((saysOf c p x l).getD i default)]).getD j default))],gl:=(errG4 e) }) (i+1,ys,zs++[((saysOf c p x l).getD i default)]) kR kR ?_ ?_ ?_
    ·dsimp only
     rw [wrap1 i (by have:=hro.1; omega)]
     try simp only [List.length_append,List.length_singleton]
     exact Rem.refl _
    ·dsimp only
     first|exact split_yes hinv oM hz2|exact split_no hinv oM hz2
    ·dsimp only
     exact nD
   ·try simp only [boolS] at hz2
    have hro:=right_ok (x:=x) (l:=l) (by first|exact hz0.1|exact hz0.2|exact hz0|grind)
    have hsl:=saysOf_len c p x l
    have hsm:=saysOf_small c p x (said_right (x:=x) (l:=l) (by first|exact hz0.1|exact hz0.2|exact hz0|grind) hW)
    refine PW.region ?_
    refine PL.rw 7 [7,11,12,13,14,16,17,83] 5 (p:=(0≤(i:Int)∧(i:Int)<((saysOf c p x l).length:Int))∧((ys.length=ys.length∧1≤1)∧(ys.length+1)*40≤140737488355328∧ys.length+1≤9223372036854775807)) oM ?_
    refine PL.rm 2 (t:=53) (z:=3) (n:=(ys.length+1)) (fun j=>if j<ys.length then (fun j=>Say.d (ys.getD j default)) j else (fun k=>([[I (((saysOf c p x l).getD i default).slot),bytesD (((saysOf c p x l).getD i default).bytes),I (((saysOf c p x l).getD i default).at_)]][k]?).getD []) (j-ys.length)) (fun j=>Say.d ((ys++[((saysOf c p x l).getD i default)]).getD j default)) (fun j hj=>by (try dsimp only); rw [getD_app ys [((saysOf c p x l).getD i default)] j default,show ys.length=ys.length from (by (try simp only [List.length_set,List.length_replicate,List.length_append,List.length_cons,List.length_nil]) <;> omega)]; split <;> first|rfl|(rename_i hjn; rw [show j-ys.length=0 by omega]; rfl)) ?_
    refine PL.rw 1 [7,11,12,13,14,15,16,17] 5 trivial ?_
    refine PL.nil ?_
    show PW _ _ _ _ _
    refine PW.rr [7,11,12,13,14,15,16,17] 5 trivial ?_
    refine BackR.of (s1:={ tab:=[⟨7,[],D.p 0 0 0 0⟩,⟨11,[],D.p 1 0 0 0⟩,⟨12,[],I p⟩,⟨13,[],sl' 3 Say.d (saysOf c p x l)⟩,⟨14,[],I q⟩,⟨15,[],D.h 2 (ys.length+1)⟩,⟨16,[],D.h 3 zs.length⟩,⟨17,[],I (IntKind.i64.wrap ((i:Int)+1))⟩],mem:=[Obj.var 35 [D.v (.bool x.on),I x.start,sl' 1 (fun x=>[I x]) x.ages],Obj.var 30 (Config.d c),Obj.row 53 3 (ys.length+1) (fun j=>Say.d ((ys++[((saysOf c p x l).getD i default)]).getD j default)),Obj.row 53 3 zs.length (fun j=>Say.d (zs.getD j default))],gl:=(errG4 e) }) (i+1,ys++[((saysOf c p x l).getD i default)],zs) kR kR ?_ ?_ ?_
    ·dsimp only
     rw [wrap1 i (by have:=hro.1; omega)]
     try simp only [List.length_append,List.length_singleton]
     exact Rem.refl _
    ·dsimp only
     first|exact split_yes hinv oM hz2|exact split_no hinv oM hz2
    ·dsimp only
     exact nD
  ·try simp only [boolS] at hz1
   have hro:=right_ok (x:=x) (l:=l) (by first|exact hz0.1|exact hz0.2|exact hz0|grind)
   have hsl:=saysOf_len c p x l
   have hsm:=saysOf_small c p x (said_right (x:=x) (l:=l) (by first|exact hz0.1|exact hz0.2|exact hz0|grind) hW)
   have hyz:=split_end (L:=(saysOf c p x l)) hinv oM
   have hlost:heardOf c p x 0 (saysOf c p x l) [q]=heardOf c p x 0 ys ([]:List Int)∧badOf c p x 0 (saysOf c p x l) [q]=badOf c p x 0 ys ([]:List Int):=by rw [hyz.1]; exact lost_is c p x 0 (saysOf c p x l) q
   have hord:heardOf c p x 0 (ys++zs) ([]:List Int)=heardOf c p x 0 (saysOf c p x l) ([]:List Int)∧badOf c p x 0 (ys++zs) ([]:List Int)=badOf c p x 0 (saysOf c p x l) ([]:List Int):=by rw [hyz.1,hyz.2]; exact order_is c p x 0 (saysOf c p x l) q
   refine PW.exit ?_
   show PW _ _ _ _ _
   refine PW.sg ?_
   refine PL.rw 6 [7,11,12,13,15,16,85,86,87,88,90] 5 trivial ?_
   refine PL.sl [7,11,12,13,15,16,85,86,87,88,90] 5 ?_
   refine PL.eq (s':={ tab:=[⟨7,[],D.p 0 0 0 0⟩,⟨11,[],D.p 1 0 0 0⟩,⟨12,[],I p⟩,⟨13,[],sl' 3 Say.d (saysOf c p x l)⟩,⟨15,[],D.h 2 ys.length⟩,⟨16,[],D.h 3 zs.length⟩,⟨85,[],D.r (Config.d c)⟩,⟨86,[],I p⟩,⟨87,[],D.r [D.v (.bool x.on),I x.start,sl' 1 (fun x=>[I x]) x.ages]⟩,⟨88,[],sl' 3 Say.d (saysOf c p x l)⟩,⟨90,[],D.h 4 1⟩],mem:=[Obj.var 35 [D.v (.bool x.on),I x.start,sl' 1 (fun x=>[I x]) x.ages],Obj.var 30 (Config.d c),Obj.row 53 3 ys.length (fun j=>Say.d (ys.getD j default)),Obj.row 53 3 zs.length (fun j=>Say.d (zs.getD j default)),Obj.row 3 1 1 (fun k=>([[I q]][k]?).getD [])],gl:=(errG4 e) }) kR ?_
   refine PL.frzR 4 (t:=3) (z:=1) (m:=1) (f:=(fun k=>([[I q]][k]?).getD [])) (f':=(fun i=>[I (([q]).getD i default)])) (s':={ tab:=[⟨7,[],D.p 0 0 0 0⟩,⟨11,[],D.p 1 0 0 0⟩,⟨12,[],I p⟩,⟨13,[],sl' 3 Say.d (saysOf c p x l)⟩,⟨15,[],D.h 2 ys.length⟩,⟨16,[],D.h 3 zs.length⟩,⟨85,[],D.r (Config.d c)⟩,⟨86,[],I p⟩,⟨87,[],D.r [D.v (.bool x.on),I x.start,sl' 1 (fun x=>[I x]) x.ages]⟩,⟨88,[],sl' 3 Say.d (saysOf c p x l)⟩,⟨90,[],sl' 1 (fun x=>[I x]) ([q])⟩],mem:=[Obj.var 35 [D.v (.bool x.on),I x.start,sl' 1 (fun x=>[I x]) x.ages],Obj.var 30 (Config.d c),Obj.row 53 3 ys.length (fun j=>Say.d (ys.getD j default)),Obj.row 53 3 zs.length (fun j=>Say.d (zs.getD j default)),Obj.dead],gl:=(errG4 e) }) rfl (fun j hj=>match j,hj with|0,_=>rfl|j+1,hj=>absurd hj oM) (Nat.zero_le _) kR ?_
   refine PL.gc (A:=[]) (fun _=>heard_coarse (air_Heard_pc0 e hA c p x 0 (saysOf c p x l) ([q]) (by have:=hro.1; omega) hsm (by unfold maxLen; simp) (by assumption) hp0 hl0)) ?_
   refine PL.rw 5 [7,11,12,13,15,16,18,19] 5 trivial ?_
   refine PL.nl ?_
   refine PW.sg ?_
   refine PL.rw 4 [7,11,12,13,15,16,18,19,95,96,97,98] 5 trivial ?_
   refine PL.sl [7,11,12,13,15,16,18,19,95,96,97,98] 5 ?_
   refine PL.eq (s':={ tab:=[⟨7,[],D.p 0 0 0 0⟩,⟨11,[],D.p 1 0 0 0⟩,⟨12,[],I p⟩,⟨13,[],sl' 3 Say.d (saysOf c p x l)⟩,⟨15,[],D.h 2 ys.length⟩,⟨16,[],D.h 3 zs.length⟩,⟨18,[],sl' 16 Heard.d (heardOf c p x 0 (saysOf c p x l) ([q]))⟩,⟨19,[],I ((badOf c p x 0 (saysOf c p x l) ([q]):Nat):Int)⟩,⟨95,[],D.r (Config.d c)⟩,⟨96,[],I p⟩,⟨97,[],D.r [D.v (.bool x.on),I x.start,sl' 1 (fun x=>[I x]) x.ages]⟩,⟨98,[],D.h 2 ys.length⟩],mem:=[Obj.var 35 [D.v (.bool x.on),I x.start,sl' 1 (fun x=>[I x]) x.ages],Obj.var 30 (Config.d c),Obj.row 53 3 ys.length (fun j=>Say.d (ys.getD j default)),Obj.row 53 3 zs.length (fun j=>Say.d (zs.getD j default)),Obj.dead],gl:=(errG4 e) }) kR ?_
   refine PL.frzR 2 (t:=53) (z:=3) (m:=ys.length) (f:=(fun j=>Say.d (ys.getD j default))) (f':=(fun i=>Say.d (ys.getD i default))) (s':={ tab:=[⟨7,[],D.p 0 0 0 0⟩,⟨11,[],D.p 1 0 0 0⟩,⟨12,[],I p⟩,⟨13,[],sl' 3 Say.d (saysOf c p x l)⟩,⟨15,[],sl' 3 Say.d ys⟩,⟨16,[],D.h 3 zs.length⟩,⟨18,[],sl' 16 Heard.d (heardOf c p x 0 (saysOf c p x l) ([q]))⟩,⟨19,[],I ((badOf c p x 0 (saysOf c p x l) ([q]):Nat):Int)⟩,⟨95,[],D.r (Config.d c)⟩,⟨96,[],I p⟩,⟨97,[],D.r [D.v (.bool x.on),I x.start,sl' 1 (fun x=>[I x]) x.ages]⟩,⟨98,[],sl' 3 Say.d ys⟩],mem:=[Obj.var 35 [D.v (.bool x.on),I x.start,sl' 1 (fun x=>[I x]) x.ages],Obj.var 30 (Config.d c),Obj.dead,Obj.row 53 3 zs.length (fun j=>Say.d (zs.getD j default)),Obj.dead],gl:=(errG4 e) }) rfl (fun j hj=>rfl) (Nat.zero_le _) (fz_eq (n:=ys.length) (d:=D.s ys.length 3 (fun i=>Say.d (ys.getD i default))) (fun d9=>{ tab:=[⟨7,[],D.p 0 0 0 0⟩,⟨11,[],D.p 1 0 0 0⟩,⟨12,[],I p⟩,⟨13,[],sl' 3 Say.d (saysOf c p x l)⟩,⟨15,[],d9⟩,⟨16,[],D.h 3 zs.length⟩,⟨18,[],sl' 16 Heard.d (heardOf c p x 0 (saysOf c p x l) ([q]))⟩,⟨19,[],I ((badOf c p x 0 (saysOf c p x l) ([q]):Nat):Int)⟩,⟨95,[],D.r (Config.d c)⟩,⟨96,[],I p⟩,⟨97,[],D.r [D.v (.bool x.on),I x.start,sl' 1 (fun x=>[I x]) x.ages]⟩,⟨98,[],d9⟩],mem:=[Obj.var 35 [D.v (.bool x.on),I x.start,sl' 1 (fun x=>[I x]) x.ages],Obj.var 30 (Config.d c),Obj.dead,Obj.row 53 3 zs.length (fun j=>Say.d (zs.getD j default)),Obj.dead],gl:=(errG4 e) }) kR rfl) ?_
   refine PL.gc (ds0:=[D.r (Config.d c),I p,D.r [D.v (.bool x.on),I x.start,sl' 1 (fun x=>[I x]) x.ages],I 0,sl' 3 Say.d ys,D.v (.slice none 0 0)]) (A:=[]) (fun _=>PC.argnil1 (ds:=[D.r (Config.d c),I p,D.r [D.v (.bool x.on),I x.start,sl' 1 (fun x=>[I x]) x.ages],I 0,sl' 3 Say.d ys,D.v (.slice none 0 0)]) 5 1 (fun i=>[I (([]:List Int).getD i default)]) rfl (heard_coarse (air_Heard_pc0 e hA c p x 0 ys ([]:List Int) (by have:=hys.1; omega) hys.2 (Nat.zero_le _) (by assumption) hp0 hl0))) ?_
   refine PL.rw 5 [7,11,12,13,15,16,18,19,20,21] 5 trivial ?_
   refine PL.nl ?_
   refine PW.seq ?_
   refine PW.open [5] kR ?_
   refine PO.tk [0,1,2,3,5] 13 [7,11,12,13,18,19,20,21,103,104,105,106,108] 8 trivial (fun _ _ h=>h) ?_
   refine PO.one (n:=7) 4 kR ?_
   refine PO1.mm rfl [7,11,12,13,18,19,20,21,103,104,105,107,108] 6 (p:=(True∧(0+ys.length)*40≤140737488355328∧0+ys.length≤9223372036854775807)) nD ?_
   refine PO.rm 5 (t:=53) (z:=3) (n:=(0+ys.length)) (fun j=>if j<0 then (fun _=>[]) j else (fun i=>Say.d (ys.getD i default)) (j-0)) (fun j=>Say.d (ys.getD j default)) (fun j hj=>by (try dsimp only); rw [if_neg (Nat.not_lt_zero j)]; rfl) ?_
   refine PO.sel [7,11,12,13,18,19,20,21,103,104,105,107,108] 6 rfl kR ?_
   refine PO.eq (s':={ tab:=[⟨7,[],D.p 0 0 0 0⟩,⟨11,[],D.p 1 0 0 0⟩,⟨12,[],I p⟩,⟨13,[],sl' 3 Say.d (saysOf c p x l)⟩,⟨18,[],sl' 16 Heard.d (heardOf c p x 0 (saysOf c p x l) ([q]))⟩,⟨19,[],I ((badOf c p x 0 (saysOf c p x l) ([q]):Nat):Int)⟩,⟨20,[],sl' 16 Heard.d (heardOf c p x 0 ys ([]:List Int))⟩,⟨21,[],I ((badOf c p x 0 ys ([]:List Int):Nat):Int)⟩,⟨103,[],D.r (Config.d c)⟩,⟨104,[],I p⟩,⟨105,[],D.r [D.v (.bool x.on),I x.start,sl' 1 (fun x=>[I x]) x.ages]⟩,⟨107,[],D.h 5 (0+ys.length)⟩,⟨108,[],D.h 3 zs.length⟩],mem:=[Obj.var 35 [D.v (.bool x.on),I x.start,sl' 1 (fun x=>[I x]) x.ages],Obj.var 30 (Config.d c),Obj.dead,Obj.row 53 3 zs.length (fun j=>Say.d (zs.getD j default)),Obj.dead,Obj.row 53 3 (0+ys.length) (fun j=>Say.d (ys.getD j default))],gl:=(errG4 e) }) kR ?_
   refine PO.frzR 3 (t:=53) (z:=3) (m:=zs.length) (f:=(fun j=>Say.d (zs.getD j default))) (f':=(fun i=>Say.d (zs.getD i default))) (s':={ tab:=[⟨7,[],D.p 0 0 0 0⟩,⟨11,[],D.p 1 0 0 0⟩,⟨12,[],I p⟩,⟨13,[],sl' 3 Say.d (saysOf c p x l)⟩,⟨18,[],sl' 16 Heard.d (heardOf c p x 0 (saysOf c p x l) ([q]))⟩,⟨19,[],I ((badOf c p x 0 (saysOf c p x l) ([q]):Nat):Int)⟩,⟨20,[],sl' 16 Heard.d (heardOf c p x 0 ys ([]:List Int))⟩,⟨21,[],I ((badOf c p x 0 ys ([]:List Int):Nat):Int)⟩,⟨103,[],D.r (Config.d c)⟩,⟨104,[],I p⟩,⟨105,[],D.r [D.v (.bool x.on),I x.start,sl' 1 (fun x=>[I x]) x.ages]⟩,⟨107,[],D.h 5 (0+ys.length)⟩,⟨108,[],sl' 3 Say.d zs⟩],mem:=[Obj.var 35 [D.v (.bool x.on),I x.start,sl' 1 (fun x=>[I x]) x.ages],Obj.var 30 (Config.d c),Obj.dead,Obj.dead,Obj.dead,Obj.row 53 3 (0+ys.length) (fun j=>Say.d (ys.getD j default))],gl:=(errG4 e) }) rfl (fun j hj=>rfl) (Nat.zero_le _) (fz_eq (n:=zs.length) (d:=D.s zs.length 3 (fun i=>Say.d (zs.getD i default))) (fun d9=>{ tab:=[⟨7,[],D.p 0 0 0 0⟩,⟨11,[],D.p 1 0 0 0⟩,⟨12,[],I p⟩,⟨13,[],sl' 3 Say.d (saysOf c p x l)⟩,⟨18,[],sl' 16 Heard.d (heardOf c p x 0 (saysOf c p x l) ([q]))⟩,⟨19,[],I ((badOf c p x 0 (saysOf c p x l) ([q]):Nat):Int)⟩,⟨20,[],sl' 16 Heard.d (heardOf c p x 0 ys ([]:List Int))⟩,⟨21,[],I ((badOf c p x 0 ys ([]:List Int):Nat):Int)⟩,⟨103,[],D.r (Config.d c)⟩,⟨104,[],I p⟩,⟨105,[],D.r [D.v (.bool x.on),I x.start,sl' 1 (fun x=>[I x]) x.ages]⟩,⟨107,[],D.h 5 (0+ys.length)⟩,⟨108,[],d9⟩],mem:=[Obj.var 35 [D.v (.bool x.on),I x.start,sl' 1 (fun x=>[I x]) x.ages],Obj.var 30 (Config.d c),Obj.dead,Obj.dead,Obj.dead,Obj.row 53 3 (0+ys.length) (fun j=>Say.d (ys.getD j default))],gl:=(errG4 e) }) kR rfl) ?_
   refine PO.one (n:=6) 6 kR ?_
   refine PO1.mm rfl [7,11,12,13,18,19,20,21,103,104,105,109] 6 (p:=((0+ys.length=0+ys.length∧True)∧(0+ys.length+zs.length)*40≤140737488355328∧0+ys.length+zs.length≤9223372036854775807)) nD ?_
   refine PO.rm 5 (t:=53) (z:=3) (n:=(0+ys.length+zs.length)) (fun j=>if j<0+ys.length then (fun j=>Say.d (ys.getD j default)) j else (fun i=>Say.d (zs.getD i default)) (j-(0+ys.length))) (fun j=>Say.d ((ys++zs).getD j default)) (fun j hj=>by (try dsimp only); rw [getD_app]; rcases Nat.lt_or_ge j (0+ys.length) with hj9|hj9 <;> first|(rw [if_pos hj9,if_pos (show j<ys.length from (by (try simp only [List.length_set,List.length_replicate,List.length_append,List.length_cons,List.length_nil]) <;> omega))])|(rw [if_neg (Nat.not_lt.2 hj9),if_neg (show ¬ j<ys.length from (by (try simp only [List.length_set,List.length_replicate,List.length_append,List.length_cons,List.length_nil]) <;> omega)),show j-ys.length=j-(0+ys.length) from (by (try simp only [List.length_set,List.length_replicate,List.length_append,List.length_cons,List.length_nil]) <;> omega)])) ?_
   refine PO.sel [7,11,12,13,18,19,20,21,103,104,105,109] 6 rfl kR ?_
   refine PO.eq (s':={ tab:=[⟨7,[],D.p 0 0 0 0⟩,⟨11,[],D.p 1 0 0 0⟩,⟨12,[],I p⟩,⟨13,[],sl' 3 Say.d (saysOf c p x l)⟩,⟨18,[],sl' 16 Heard.d (heardOf c p x 0 (saysOf c p x l) ([q]))⟩,⟨19,[],I ((badOf c p x 0 (saysOf c p x l) ([q]):Nat):Int)⟩,⟨20,[],sl' 16 Heard.d (heardOf c p x 0 ys ([]:List Int))⟩,⟨21,[],I ((badOf c p x 0 ys ([]:List Int):Nat):Int)⟩,⟨103,[],D.r (Config.d c)⟩,⟨104,[],I p⟩,⟨105,[],D.r [D.v (.bool x.on),I x.start,sl' 1 (fun x=>[I x]) x.ages]⟩,⟨109,[],D.h 5 (0+ys.length+zs.length)⟩],mem:=[Obj.var 35 [D.v (.bool x.on),I x.start,sl' 1 (fun x=>[I x]) x.ages],Obj.var 30 (Config.d c),Obj.dead,Obj.dead,Obj.dead,Obj.row 53 3 (0+ys.length+zs.length) (fun j=>Say.d ((ys++zs).getD j default))],gl:=(errG4 e) }) kR ?_
   refine PO.frzR 5 (t:=53) (z:=3) (m:=(0+ys.length+zs.length)) (f:=(fun j=>Say.d ((ys++zs).getD j default))) (f':=(fun i=>Say.d ((ys++zs).getD i default))) (s':={ tab:=[⟨7,[],D.p 0 0 0 0⟩,⟨11,[],D.p 1 0 0 0⟩,⟨12,[],I p⟩,⟨13,[],sl' 3 Say.d (saysOf c p x l)⟩,⟨18,[],sl' 16 Heard.d (heardOf c p x 0 (saysOf c p x l) ([q]))⟩,⟨19,[],I ((badOf c p x 0 (saysOf c p x l) ([q]):Nat):Int)⟩,⟨20,[],sl' 16 Heard.d (heardOf c p x 0 ys ([]:List Int))⟩,⟨21,[],I ((badOf c p x 0 ys ([]:List Int):Nat):Int)⟩,⟨103,[],D.r (Config.d c)⟩,⟨104,[],I p⟩,⟨105,[],D.r [D.v (.bool x.on),I x.start,sl' 1 (fun x=>[I x]) x.ages]⟩,⟨109,[],sl' 3 Say.d (ys++zs)⟩],mem:=[Obj.var 35 [D.v (.bool x.on),I x.start,sl' 1 (fun x=>[I x]) x.ages],Obj.var 30 (Config.d c),Obj.dead,Obj.dead,Obj.dead,Obj.dead],gl:=(errG4 e) }) rfl (fun j hj=>rfl) (Nat.zero_le _) (fz_eq (n:=0+ys.length+zs.length) (d:=D.s (0+ys.length+zs.length) 3 (fun i=>Say.d ((ys++zs).getD i default))) (fun d9=>{ tab:=[⟨7,[],D.p 0 0 0 0⟩,⟨11,[],D.p 1 0 0 0⟩,⟨12,[],I p⟩,⟨13,[],sl' 3 Say.d (saysOf c p x l)⟩,⟨18,[],sl' 16 Heard.d (heardOf c p x 0 (saysOf c p x l) ([q]))⟩,⟨19,[],I ((badOf c p x 0 (saysOf c p x l) ([q]):Nat):Int)⟩,⟨20,[],sl' 16 Heard.d (heardOf c p x 0 ys ([]:List Int))⟩,⟨21,[],I ((badOf c p x 0 ys ([]:List Int):Nat):Int)⟩,⟨103,[],D.r (Config.d c)⟩,⟨104,[],I p⟩,⟨105,[],D.r [D.v (.bool x.on),I x.start,sl' 1 (fun x=>[I x]) x.ages]⟩,⟨109,[],d9⟩],mem:=[Obj.var 35 [D.v (.bool x.on),I x.start,sl' 1 (fun x=>[I x]) x.ages],Obj.var 30 (Config.d c),Obj.dead,Obj.dead,Obj.dead,Obj.dead],gl:=(errG4 e) }) kR (sl_len (z:=3) (n:=0+ys.length+zs.length) (e:=Say.d) (xs:=(ys++zs)) (by (try simp only [List.length_replicate,List.length_append,List.length_cons,List.length_nil,List.length_set]) <;> omega))) ?_
   refine PO.one (n:=5) 7 kR ?_
   refine PO1.gc _ (ds0:=[D.r (Config.d c),I p,D.r [D.v (.bool x.on),I x.start,sl' 1 (fun x=>[I x]) x.ages],I 0,sl' 3 Say.d (ys++zs),D.v (.slice none 0 0)]) (A:=[]) (fun _=>PC.argnil1 (ds:=[D.r (Config.d c),I p,D.r [D.v (.bool x.on),I x.start,sl' 1 (fun x=>[I x]) x.ages],I 0,sl' 3 Say.d (ys++zs),D.v (.slice none 0 0)]) 5 1 (fun i=>[I (([]:List Int).getD i default)]) rfl (heard_coarse (air_Heard_pc0 e hA c p x 0 (ys++zs) ([]:List Int) (by have:=hys.1; have:=hzs.1; rw [List.length_append]; omega) (says_app hys.2 hzs.2) (Nat.zero_le _) (by assumption) hp0 hl0))) ?_ rfl
   refine PO.tk [8,9,10,11,12] 5 [7,11,12,13,18,19,20,21,22,23] 0 trivial (fun _ _ h=>h) ?_
   refine PO.done kR ?_
   show PW _ _ _ _ _
   refine PW.sg ?_
   refine PL.rw 4 [7,11,12,18,19,20,21,22,23,114,115,116,117] 6 trivial ?_
   refine PL.gc (ds0:=[D.r (Config.d c),I p,D.r [D.v (.bool x.on),I x.start,sl' 1 (fun x=>[I x]) x.ages],I 0,sl' 3 Say.d (saysOf c p x l),D.v (.slice none 0 0)]) (A:=[]) (fun _=>PC.argnil1 (ds:=[D.r (Config.d c),I p,D.r [D.v (.bool x.on),I x.start,sl' 1 (fun x=>[I x]) x.ages],I 0,sl' 3 Say.d (saysOf c p x l),D.v (.slice none 0 0)]) 5 1 (fun i=>[I (([]:List Int).getD i default)]) rfl (heard_coarse (air_Heard_pc0 e hA c p x 0 (saysOf c p x l) ([]:List Int) (by have:=hro.1; omega) hsm (Nat.zero_le _) (by assumption) hp0 hl0))) ?_
   refine PL.rw 5 [7,11,12,18,19,20,21,22,23,24,25] 6 trivial ?_
   refine PL.nl ?_
   refine PW.sg ?_
   refine PL.rw 3 [18,19,20,21,22,23,24,25,122,123,124] 6 trivial ?_
   refine PL.gc (ds0:=[D.r (Config.d c),I p,D.r [D.v (.bool x.on),I x.start,sl' 1 (fun x=>[I x]) x.ages],I 0,D.v (.slice none 0 0),D.v (.slice none 0 0)]) (A:=[]) (fun _=>PC.argnil1 (ds:=[D.r (Config.d c),I p,D.r [D.v (.bool x.on),I x.start,sl' 1 (fun x=>[I x]) x.ages],I 0,D.v (.slice none 0 0),D.v (.slice none 0 0)]) 4 3 (fun i=>Say.d (([]:List Say).getD i default)) rfl (PC.argnil1 (ds:=[D.r (Config.d c),I p,D.r [D.v (.bool x.on),I x.start,sl' 1 (fun x=>[I x]) x.ages],I 0,sl' 3 Say.d ([]:List Say),D.v (.slice none 0 0)]) 5 1 (fun i=>[I (([]:List Int).getD i default)]) rfl (heard_coarse (air_Heard_pc0 e hA c p x 0 ([]:List Say) ([]:List Int) (by decide) (fun s hs=>by cases hs) (Nat.zero_le _) (by assumption) hp0 hl0)))) ?_
   refine PL.rw 5 [18,19,20,21,22,23,24,25,26,27] 6 trivial ?_
   refine PL.nl ?_
   refine PW.sg ?_
   refine PL.rw 2 [19,21,22,23,24,25,26,27,128,129] 6 trivial ?_
   refine PL.gc (A:=[]) (fun _=>(show PC Tryz.prog (errG4 e) 15 [sl' 16 Heard.d (heardOf c p x 0 (saysOf c p x l) ([q])),sl' 16 Heard.d (heardOf c p x 0 ys ([]:List Int))] (· = D.v (.bool true)) from by rw [show heardOf c p x 0 (saysOf c p x l) ([q])=heardOf c p x 0 ys ([]:List Int) from hlost.1]; exact Dp.PC.more (drumlineref10_SameHeard_pc (heardOf c p x 0 ys ([]:List Int)) (by have:=heardOf_len c p x 0 ys ([]:List Int); omega) (heardOf_wf c p x 0 ys ([]:List Int))))) ?_
   refine PL.rw 8 [23,25,26,27,136,137,138] 6 trivial ?_
   refine PL.gc (A:=[(136,true)]) (fun _=>(show PC Tryz.prog (errG4 e) 15 [sl' 16 Heard.d (heardOf c p x 0 (ys++zs) ([]:List Int)),sl' 16 Heard.d (heardOf c p x 0 (saysOf c p x l) ([]:List Int))] (· = D.v (.bool true)) from by rw [show heardOf c p x 0 (ys++zs) ([]:List Int)=heardOf c p x 0 (saysOf c p x l) ([]:List Int) from hord.1]; exact Dp.PC.more (drumlineref10_SameHeard_pc (heardOf c p x 0 (saysOf c p x l) ([]:List Int)) (by have:=heardOf_len c p x 0 (saysOf c p x l) ([]:List Int); omega) (heardOf_wf c p x 0 (saysOf c p x l) ([]:List Int))))) ?_
   refine PL.rw 16 [10] 6 trivial ?_
   refine PL.nl ?_
   refine PW.ret ?_
   refine retQ_ret (d:=D.v (.bool (((((true&&(((badOf c p x 0 (saysOf c p x l) ([q]):Nat):Int) == ((badOf c p x 0 ys ([]:List Int):Nat):Int)))&&true)&&(((badOf c p x 0 (ys++zs) ([]:List Int):Nat):Int) == ((badOf c p x 0 (saysOf c p x l) ([]:List Int):Nat):Int)))&&(((heardOf c p x 0 ([]:List Say) ([]:List Int)).length:Int) == (0:Int)))&&(((badOf c p x 0 ([]:List Say) ([]:List Int):Nat):Int) == (0:Int))))) (ps:=[]) kR trivial ?_
   rw [hlost.2,hord.2,(heard_none (c:=c) (part:=p) (x:=x) (ppm:=0) (lost:=([]:List Int))).1,(heard_none (c:=c) (part:=p) (x:=x) (ppm:=0) (lost:=([]:List Int))).2]
   simp
end Go.Proofs.YtnjoklfclnkklaaGreatDoor.Pl
