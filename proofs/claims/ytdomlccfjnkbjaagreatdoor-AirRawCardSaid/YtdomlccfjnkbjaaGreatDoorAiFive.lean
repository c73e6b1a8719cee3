/- Chapter 11: the document's own Heard. -/
import Derived.Test.YtdomlccfjnkbjaaGreatDoorAiFour
namespace Go.Proofs.YtdomlccfjnkbjaaGreatDoor.Pl
open Go.RowKit Go.Proofs.YtdomlccfjnkbjaaGreatDoor.Sm Go.Proofs.YtdomlccfjnkbjaaGreatDoor.Dp
open Go.Proofs.YtdomlccfjnkbjaaGreatDoor.Fr (bare frD frC decX errOf frOf noOf atOf WfA wfA_dec bytesOf mayB)
set_option maxHeartbeats 4000000
set_option maxRecDepth 100000
set_option linter.unusedVariables false
set_option linter.unusedSimpArgs false
theorem drumlineref10_Heard_pc0 (c:Config) (part:Int) (x:Guard) (ppm:Int) (says:List Say) (lost:List Int) (hls:says.length<1000000) (hB:∀ s ∈ says,s.bytes.length≤1000000) (hlo:lost.length≤maxLen) (hw:Is64 c.window) (hp0:c.parts.length<1000000) (hl0:c.links.length<1000000):PC Tryz.prog [] 14 [D.r (Config.d c),I part,D.r (Guard.d x),I ppm,sl' 3 Say.d says,sl' 1 (fun x=>[I x]) lost] (fun d=>d=D.t [sl' 16 Heard.d (heardOf c part x ppm says lost),I (badOf c part x ppm says lost:Nat)]∨(d=D.t [D.v (.slice none 0 0),I (badOf c part x ppm says lost:Nat)]∧heardOf c part x ppm says lost=[])):=by
 refine PC.of (N:=108) Tryz.func14 rfl rfl (Nat.le_of_ble_eq_true rfl) ?_
 refine PW.a [1,3,4,5,6,8] 2 (PW.a [1,3,4,5,6,8,14] 2 (PW.a [1,3,4,5,6,8,14,15] 2 (PW.w 2 [1,3,4,5,6,8,14,15,22,23] 2 (PL.gc (A:=[]) (fun _=>(drumlineref5_Slots_pc0 c part hp0 hl0).list) (PL.n 1 [1,3,4,5,6,8,14,15,16] 2 (PW.q [1,3,4,5,6,8,14,15,16,17] 2 (PW.block ?_)))))))
 refine PW.born 14 48 16 kR (PW.loopR (α := Nat×List Heard×Nat) (fun (i,xs,m)=>{ tab:=[⟨1,[],I part⟩,⟨3,[],I ppm⟩,⟨4,[],sl' 3 Say.d says⟩,⟨5,[],sl' 1 (fun x=>[I x]) lost⟩,⟨6,[],D.p 0 0 0 0⟩,⟨8,[],D.p 1 0 0 0⟩,⟨14,[],D.h 2 xs.length⟩,⟨15,[],I (m:Int)⟩,⟨16,[],sl' 3 Slot.d (slotsOf c part)⟩,⟨17,[],I (i:Int)⟩],mem:=[Obj.var 30 (Config.d c),Obj.var 35 [D.v (.bool x.on),I x.start,sl' 1 (fun x=>[I x]) x.ages],Obj.row 48 16 xs.length (fun j=>Heard.d (xs.getD j default))] }) (fun (i,xs,m)=>i≤(slotsOf c part).length∧xs=heardN c part x ppm says lost i∧m=badN c part x ppm says lost i) (fun (i,xs,m)=>(slotsOf c part).length-i) [1,3,4,5,6,8,14,15,16,17] 3 (0,[],0) (s1:={ tab:=[⟨1,[],I part⟩,⟨3,[],I ppm⟩,⟨4,[],sl' 3 Say.d says⟩,⟨5,[],sl' 1 (fun x=>[I x]) lost⟩,⟨6,[],D.p 0 0 0 0⟩,⟨8,[],D.p 1 0 0 0⟩,⟨14,[],D.h 2 0⟩,⟨15,[],I 0⟩,⟨16,[],sl' 3 Slot.d (slotsOf c part)⟩,⟨17,[],I 0⟩],mem:=[Obj.var 30 (Config.d c),Obj.var 35 [D.v (.bool x.on),I x.start,sl' 1 (fun x=>[I x]) x.ages],Obj.row 48 16 0 (fun _=>[])] }) kR kR ?_ ?_ ?_)
 ·dsimp only
  exact ⟨rfl,rfl,rfl,(.same (.same (.row rfl (fun j hj=>absurd hj (Nat.not_lt_zero _)) .nil)))⟩
 ·dsimp only
  exact ⟨Nat.zero_le _,rfl,rfl⟩
 rintro ⟨i,xs,m⟩ hinv
 dsimp only at hinv
 have hn48:=slotsOf_len c part
 have hxl:xs.length≤48:=by rw [hinv.2.1]; have:=heardN_len (c:=c) (part:=part) (x:=x) (ppm:=ppm) (says:=says) (lost:=lost) i; omega
 have hml:m≤48:=by rw [hinv.2.2]; have:=badN_le (c:=c) (part:=part) (x:=x) (ppm:=ppm) (says:=says) (lost:=lost) i; omega
 have hsb:=say_bounds says (i:Int)
 show PW _ _ _ _ _
 refine PW.q [1,3,4,5,6,8,14,15,16,17,28] 3 (PW.cd (decide ((i:Int)<((slotsOf c part).length:Int))) ?_ ?_) <;> intro hz0 <;> try simp only [boolS] at hz0
 ·refine PW.k (PW.seq (PW.block (PW.a [1,3,4,5,6,8,14,15,16,17,18] 3 (PW.q [1,3,4,5,6,8,14,15,16,17,18,19] 3 (PW.block (PW.lp (α := Nat×Int) (fun (k,a)=>{ tab:=[⟨1,[],I part⟩,⟨3,[],I ppm⟩,⟨4,[],sl' 3 Say.d says⟩,⟨5,[],sl' 1 (fun x=>[I x]) lost⟩,⟨6,[],D.p 0 0 0 0⟩,⟨8,[],D.p 1 0 0 0⟩,⟨14,[],D.h 2 xs.length⟩,⟨15,[],I (m:Int)⟩,⟨16,[],sl' 3 Slot.d (slotsOf c part)⟩,⟨17,[],I (i:Int)⟩,⟨18,[],I a⟩,⟨19,[],I (k:Int)⟩],mem:=[Obj.var 30 (Config.d c),Obj.var 35 [D.v (.bool x.on),I x.start,sl' 1 (fun x=>[I x]) x.ages],Obj.row 48 16 xs.length (fun j=>Heard.d (xs.getD j default))] }) (fun (k,a)=>k≤says.length∧((a = -1∧sayI says (i:Int)=seekI (fun k=>inSlot (i:Int) (says.getD k default)) (says.length-k) k)∨((0≤a∧a<(says.length:Int))∧sayI says (i:Int)=a))) (fun (k,a)=>says.length-k) [1,3,4,5,6,8,14,15,16,17,18,19] 3 (0,(-1)) ?_ ?_))))))
  ·dsimp only
   exact ⟨Nat.zero_le _,.inl ⟨rfl,rfl⟩⟩
  rintro ⟨k,a⟩ hinw
  dsimp only at hinw
  show PW _ _ _ _ _
  refine PW.q [1,3,4,5,6,8,14,15,16,17,18,19,38] 3 (PW.cd ((decide ((k:Int)<(says.length:Int)))&&(decide (a<(0:Int)))) ?_ ?_) <;> intro hz1 <;> try simp only [boolS] at hz1
  ·refine PW.k (PW.seq (PW.block (PW.sr [1,3,4,5,6,8,14,15,16,17,18,19,47] 3 (p:=(0≤(k:Int)∧(k:Int)<(says.length:Int))) oM (PW.cd (((says.getD k default).slot) == (i:Int)) ?_ ?_)))) <;> intro hz2 <;> try simp only [boolS] at hz2
   ·refine PW.b [1,3,4,5,6,8,14,15,16,17,18,19] 3 ?_
    show PW _ _ _ _ _
    refine PW.b [1,3,4,5,6,8,14,15,16,17,18,19] 3 ?_
    refine BackR.of (s1:={ tab:=[⟨1,[],I part⟩,⟨3,[],I ppm⟩,⟨4,[],sl' 3 Say.d says⟩,⟨5,[],sl' 1 (fun x=>[I x]) lost⟩,⟨6,[],D.p 0 0 0 0⟩,⟨8,[],D.p 1 0 0 0⟩,⟨14,[],D.h 2 xs.length⟩,⟨15,[],I (m:Int)⟩,⟨16,[],sl' 3 Slot.d (slotsOf c part)⟩,⟨17,[],I (i:Int)⟩,⟨18,[],I (k:Int)⟩,⟨19,[],I (IntKind.i64.wrap ((k:Int)+1))⟩],mem:=[Obj.var 30 (Config.d c),Obj.var 35 [D.v (.bool x.on),I x.start,sl' 1 (fun x=>[I x]) x.ages],Obj.row 48 16 xs.length (fun j=>Heard.d (xs.getD j default))] }) (k+1,(k:Int)) kR kR ?_ ?_ ?_
    ·dsimp only
     rw [wrap1 k oM]
     exact Rem.refl _
    ·dsimp only
     first|exact say_hit hinw oM oM hz2|exact say_miss hinw oM oM hz2
    ·dsimp only
     exact nD
   ·refine PW.k (PW.b [1,3,4,5,6,8,14,15,16,17,18,19] 3 ?_)
    refine BackR.of (s1:={ tab:=[⟨1,[],I part⟩,⟨3,[],I ppm⟩,⟨4,[],sl' 3 Say.d says⟩,⟨5,[],sl' 1 (fun x=>[I x]) lost⟩,⟨6,[],D.p 0 0 0 0⟩,⟨8,[],D.p 1 0 0 0⟩,⟨14,[],D.h 2 xs.length⟩,⟨15,[],I (m:Int)⟩,⟨16,[],sl' 3 Slot.d (slotsOf c part)⟩,⟨17,[],I (i:Int)⟩,⟨18,[],I a⟩,⟨19,[],I (IntKind.i64.wrap ((k:Int)+1))⟩],mem:=[Obj.var 30 (Config.d c),Obj.var 35 [D.v (.bool x.on),I x.start,sl' 1 (fun x=>[I x]) x.ages],Obj.row 48 16 xs.length (fun j=>Heard.d (xs.getD j default))] }) (k+1,a) kR kR ?_ ?_ ?_
    ·dsimp only
     rw [wrap1 k oM]
     exact Rem.refl _
    ·dsimp only
     first|exact say_hit hinw oM oM hz2|exact say_miss hinw oM oM hz2
    ·dsimp only
     exact nD
  ·refine PW.e (PW.seq (PW.seq (PW.open [] kR ?_)))
   refine PO.a [0,1,2,3,4] 25 [1,3,4,5,6,8,14,15,16,17,18,51,52,53] 20 (PO.one (n:=19) 5 kR ?_)
   refine PO1.gc _ (A:=[(51,false)]) (fun _=>drumlineref1_In_pc lost (i:Int) hlo) ?_ rfl
   refine PO.tk [6,7,8,9,10,11,12,13,14,15,16,17,18,19,20,21] 19 [1,3,4,5,6,8,14,15,16,17,18,56,57,62,63,65,70] 3 (p:=((((decide (a<(0:Int)))||(lost.contains (i:Int)))=false∧True→0≤(i:Int)∧(i:Int)<((slotsOf c part).length:Int)))∧((((decide (a<(0:Int)))||(lost.contains (i:Int)))=false∧True→0≤a∧a<(says.length:Int)))) nD (fun _ _ h=>h) (PO.one (n:=2) 22 kR ?_)
   refine PO1.gc _ (A:=[(56,false)]) (fun _=>drumlineref10_Pass_pc x (((slotsOf c part).getD i default).at_) ppm c.window ((says.getD a.toNat default).at_) hw) ?_ rfl
   refine PO.a [23,24] 2 [1,3,4,5,6,8,14,15,16,17,18,73] 0 (PO.done kR ?_)
   show PW _ _ _ _ _
   refine PW.cd (((decide (a<(0:Int)))||(lost.contains (i:Int)))||(!(passB x (((slotsOf c part).getD i default).at_) ppm c.window ((says.getD a.toNat default).at_)))) ?_ ?_ <;> intro hz3 <;> try simp only [boolS] at hz3
   ·refine PW.e (PW.b [1,3,4,5,6,8,14,15,16,17] 3 ?_)
    refine BackR.of (s1:={ tab:=[⟨1,[],I part⟩,⟨3,[],I ppm⟩,⟨4,[],sl' 3 Say.d says⟩,⟨5,[],sl' 1 (fun x=>[I x]) lost⟩,⟨6,[],D.p 0 0 0 0⟩,⟨8,[],D.p 1 0 0 0⟩,⟨14,[],D.h 2 xs.length⟩,⟨15,[],I (m:Int)⟩,⟨16,[],sl' 3 Slot.d (slotsOf c part)⟩,⟨17,[],I (IntKind.i64.wrap ((i:Int)+1))⟩],mem:=[Obj.var 30 (Config.d c),Obj.var 35 [D.v (.bool x.on),I x.start,sl' 1 (fun x=>[I x]) x.ages],Obj.row 48 16 xs.length (fun j=>Heard.d (xs.getD j default))] }) (i+1,xs,m) kR kR ?_ ?_ ?_
    ·dsimp only
     first|(rw [wrap1 i oM,wrap1 m oM])|(rw [wrap1 i oM]; try simp only [List.length_append,List.length_singleton])
     exact Rem.refl _
    ·dsimp only
     first
     | (have hA:=say_end hinw hz1; subst hA; have hd:=heard_deaf (c:=c) (part:=part) (x:=x) (ppm:=ppm) (says:=says) (lost:=lost) (deaf_of hz3); exact ⟨by omega,by rw [hd.1,← hinv.2.1],by rw [hd.2,← hinv.2.2]⟩)
     | (have hA:=say_end hinw hz1; subst hA; have hd:=heard_bad (c:=c) (part:=part) (x:=x) (ppm:=ppm) (says:=says) (lost:=lost) (hears_of hz3) (bad_of hz4); exact ⟨by omega,by rw [hd.1,← hinv.2.1],by rw [hd.2,← hinv.2.2]⟩)
     | (have hA:=say_end hinw hz1; subst hA; have hd:=heard_yes (c:=c) (part:=part) (x:=x) (ppm:=ppm) (says:=says) (lost:=lost) (hears_of hz3) (good_of' hz4); exact ⟨by omega,by rw [hd.1,← hinv.2.1]; rfl,by rw [hd.2,← hinv.2.2]⟩)
    ·dsimp only
     exact nD
   ·refine PW.k (PW.sg (PL.rw 5 [1,3,4,5,6,8,14,15,16,17,18,79] 3 (p:=(0≤a∧a<(says.length:Int))) oM (PL.gc (ds0:=[bytesD ((says.getD a.toNat default).bytes)]) (A:=[]) (fun _=>Fr.decodeX_pc ((says.getD a.toNat default).bytes) (say_len hB _)) (PL.n 6 [1,3,4,5,6,8,14,15,16,17,18,20,21] 4 (PW.seq (PW.w 7 [1,3,4,5,6,8,14,15,16,17,18,20,85,86,87,88,89] 4 (PL.gc (ds0:=[D.r (Config.d c),I part,I (i:Int),D.r [I ((frOf (decX ((says.getD a.toNat default).bytes))).kind),I ((frOf (decX ((says.getD a.toNat default).bytes))).part),I ((frOf (decX ((says.getD a.toNat default).bytes))).node),I ((frOf (decX ((says.getD a.toNat default).bytes))).wait),I ((frOf (decX ((says.getD a.toNat default).bytes))).mask),I ((frOf (decX ((says.getD a.toNat default).bytes))).link),D.v (.bool ((frOf (decX ((says.getD a.toNat default).bytes))).flag)),I ((frOf (decX ((says.getD a.toNat default).bytes))).cycle),I ((frOf (decX ((says.getD a.toNat default).bytes))).offset),sl' 1 (fun x=>[I x]) ((frOf (decX ((says.getD a.toNat default).bytes))).ages),I ((frOf (decX ((says.getD a.toNat default).bytes))).frm),I ((frOf (decX ((says.getD a.toNat default).bytes))).to),I ((frOf (decX ((says.getD a.toNat default).bytes))).seq),bytesD ((frOf (decX ((says.getD a.toNat default).bytes))).body)]]) (A:=[(85,false)]) (fun _=>drumlineref10_Fits_pc c part (i:Int) (frOf (decX ((says.getD a.toNat default).bytes))) (dec_ages _) hp0 hl0) ?_)))))))
    refine PL.n 2 [1,3,4,5,6,8,14,15,16,17,18,20,92] 4 (PW.cd (((noOf (errOf (decX ((says.getD a.toNat default).bytes)))) != (0:Int))||(!(fitS c part (i:Int) (frOf (decX ((says.getD a.toNat default).bytes)))))) ?_ ?_) <;> intro hz4 <;> try simp only [boolS] at hz4
    ·refine PW.a [1,3,4,5,6,8,14,15,16,17] 4 ?_
     refine PW.e (PW.b [1,3,4,5,6,8,14,15,16,17] 4 ?_)
     refine BackR.of (s1:={ tab:=[⟨1,[],I part⟩,⟨3,[],I ppm⟩,⟨4,[],sl' 3 Say.d says⟩,⟨5,[],sl' 1 (fun x=>[I x]) lost⟩,⟨6,[],D.p 0 0 0 0⟩,⟨8,[],D.p 1 0 0 0⟩,⟨14,[],D.h 2 xs.length⟩,⟨15,[],I (IntKind.i64.wrap ((m:Int)+1))⟩,⟨16,[],sl' 3 Slot.d (slotsOf c part)⟩,⟨17,[],I (IntKind.i64.wrap ((i:Int)+1))⟩],mem:=[Obj.var 30 (Config.d c),Obj.var 35 [D.v (.bool x.on),I x.start,sl' 1 (fun x=>[I x]) x.ages],Obj.row 48 16 xs.length (fun j=>Heard.d (xs.getD j default))] }) (i+1,xs,m+1) kR kR ?_ ?_ ?_
     ·dsimp only
      first|(rw [wrap1 i oM,wrap1 m oM])|(rw [wrap1 i oM]; try simp only [List.length_append,List.length_singleton])
      exact Rem.refl _
     ·dsimp only
      first
      | (have hA:=say_end hinw hz1; subst hA; have hd:=heard_deaf (c:=c) (part:=part) (x:=x) (ppm:=ppm) (says:=says) (lost:=lost) (deaf_of hz3); exact ⟨by omega,by rw [hd.1,← hinv.2.1],by rw [hd.2,← hinv.2.2]⟩)
      | (have hA:=say_end hinw hz1; subst hA; have hd:=heard_bad (c:=c) (part:=part) (x:=x) (ppm:=ppm) (says:=says) (lost:=lost) (hears_of hz3) (bad_of hz4); exact ⟨by omega,by rw [hd.1,← hinv.2.1],by rw [hd.2,← hinv.2.2]⟩)
      | (have hA:=say_end hinw hz1; subst hA; have hd:=heard_yes (c:=c) (part:=part) (x:=x) (ppm:=ppm) (says:=says) (lost:=lost) (hears_of hz3) (good_of' hz4); exact ⟨by omega,by rw [hd.1,← hinv.2.1]; rfl,by rw [hd.2,← hinv.2.2]⟩)
     ·dsimp only
      exact nD
    ·refine PW.k (PW.open [2] kR (PO.tk [0,1,2,3,4,5,6,7] 12 [1,3,4,5,6,8,14,15,16,17,95,96,97,102] 4 (p:=(0≤a∧a<(says.length:Int))) oM (fun _ _ h=>h) (PO.one (n:=3) 8 kR (PO1.build (cs:=[I (i:Int),I ((frOf (decX ((says.getD a.toNat default).bytes))).kind),I ((frOf (decX ((says.getD a.toNat default).bytes))).part),I ((frOf (decX ((says.getD a.toNat default).bytes))).node),I ((frOf (decX ((says.getD a.toNat default).bytes))).wait),I ((frOf (decX ((says.getD a.toNat default).bytes))).mask),I ((frOf (decX ((says.getD a.toNat default).bytes))).link),D.v (.bool ((frOf (decX ((says.getD a.toNat default).bytes))).flag)),I ((frOf (decX ((says.getD a.toNat default).bytes))).cycle),I ((frOf (decX ((says.getD a.toNat default).bytes))).offset),sl' 1 (fun x=>[I x]) ((frOf (decX ((says.getD a.toNat default).bytes))).ages),I ((frOf (decX ((says.getD a.toNat default).bytes))).frm),I ((frOf (decX ((says.getD a.toNat default).bytes))).to),I ((frOf (decX ((says.getD a.toNat default).bytes))).seq),bytesD ((frOf (decX ((says.getD a.toNat default).bytes))).body),I ((says.getD a.toNat default).at_)]) rfl rfl kR kR kR (PO.one (n:=2) 9 kR ?_)))))
     refine PO1.a [1,3,4,5,6,8,14,15,16,17,95,104] 5 (PO.one (n:=1) 10 kR (PO1.mm rfl [1,3,4,5,6,8,14,15,16,17,105] 5 (p:=((xs.length=xs.length∧1≤1)∧(xs.length+1)*160≤140737488355328∧xs.length+1≤9223372036854775807)) oM (PO.ap 2 Heard.d xs ((⟨(i:Int),(frOf (decX ((says.getD a.toNat default).bytes))),(says.getD a.toNat default).at_⟩:Heard)) ?_)))
     refine PO.a [11] 1 [1,3,4,5,6,8,14,15,16,17] 0 (PO.done kR ?_)
     show PW _ _ _ _ _
     refine PW.b [1,3,4,5,6,8,14,15,16,17] 5 ?_
     refine BackR.of (s1:={ tab:=[⟨1,[],I part⟩,⟨3,[],I ppm⟩,⟨4,[],sl' 3 Say.d says⟩,⟨5,[],sl' 1 (fun x=>[I x]) lost⟩,⟨6,[],D.p 0 0 0 0⟩,⟨8,[],D.p 1 0 0 0⟩,⟨14,[],D.h 2 (xs.length+1)⟩,⟨15,[],I (m:Int)⟩,⟨16,[],sl' 3 Slot.d (slotsOf c part)⟩,⟨17,[],I (IntKind.i64.wrap ((i:Int)+1))⟩],mem:=[Obj.var 30 (Config.d c),Obj.var 35 [D.v (.bool x.on),I x.start,sl' 1 (fun x=>[I x]) x.ages],Obj.row 48 16 (xs.length+1) (fun j=>Heard.d ((xs++[(⟨(i:Int),(frOf (decX ((says.getD a.toNat default).bytes))),(says.getD a.toNat default).at_⟩:Heard)]).getD j default))] }) (i+1,xs++[(⟨(i:Int),(frOf (decX ((says.getD a.toNat default).bytes))),(says.getD a.toNat default).at_⟩:Heard)],m) kR kR ?_ ?_ ?_
     ·dsimp only
      first|(rw [wrap1 i oM,wrap1 m oM])|(rw [wrap1 i oM]; try simp only [List.length_append,List.length_singleton])
      exact Rem.refl _
     ·dsimp only
      first
      | (have hA:=say_end hinw hz1; subst hA; have hd:=heard_deaf (c:=c) (part:=part) (x:=x) (ppm:=ppm) (says:=says) (lost:=lost) (deaf_of hz3); exact ⟨by omega,by rw [hd.1,← hinv.2.1],by rw [hd.2,← hinv.2.2]⟩)
      | (have hA:=say_end hinw hz1; subst hA; have hd:=heard_bad (c:=c) (part:=part) (x:=x) (ppm:=ppm) (says:=says) (lost:=lost) (hears_of hz3) (bad_of hz4); exact ⟨by omega,by rw [hd.1,← hinv.2.1],by rw [hd.2,← hinv.2.2]⟩)
      | (have hA:=say_end hinw hz1; subst hA; have hd:=heard_yes (c:=c) (part:=part) (x:=x) (ppm:=ppm) (says:=says) (lost:=lost) (hears_of hz3) (good_of' hz4); exact ⟨by omega,by rw [hd.1,← hinv.2.1]; rfl,by rw [hd.2,← hinv.2.2]⟩)
     ·dsimp only
      exact nD
 ·refine PW.e (PW.t [12,13] 3 (retQ_ret (d:=D.t [D.s xs.length 16 (fun j=>Heard.d (xs.getD j default)),I (m:Int)]) (ps:=[xs.length≤xs.length]) kR (show (xs.length≤xs.length) from by exact nD) ?_))
  left
  have e9:heardOf c part x ppm says lost=xs:=by unfold heardOf; rw [hinv.2.1,show i=(slotsOf c part).length by omega]
  have e8:badOf c part x ppm says lost=m:=by unfold badOf; rw [hinv.2.2,show i=(slotsOf c part).length by omega]
  rw [e9,e8]
  rfl
end Go.Proofs.YtdomlccfjnkbjaaGreatDoor.Pl
