/- Package wire's reader. -/
import Derived.Test.YtdomlccfjnkbjaaGreatDoorDpFr
import Derived.Test.YtdomlccfjnkbjaaGreatDoorPlArg
import Derived.Test.YtdomlccfjnkbjaaGreatDoorSmOpen
import Derived.Test.YtdomlccfjnkbjaaGreatDoorWrR
import Derived.Test.YtdomlccfjnkbjaaGreatDoorDpC
namespace Go.Proofs.YtdomlccfjnkbjaaGreatDoor.Pl
open Go.RowKit Go.Proofs.YtdomlccfjnkbjaaGreatDoor.Sm Go.Proofs.YtdomlccfjnkbjaaGreatDoor.Dp
open Go.Proofs.YtdomlccfjnkbjaaGreatDoor.Wr
set_option maxHeartbeats 4000000
set_option maxRecDepth 100000
set_option linter.unusedVariables false
set_option linter.unusedSimpArgs false
def wob (x:List UInt8) (p:Nat) (bad:Bool):Dp.Obj := .var 207 [bytesD (x.drop p),I (p:Int),.v (.bool bad)]
theorem PM.coarse {P:Program} {G:List (Nat×List D)} {f:FuncId} {ds:List D} {ob:Dp.Obj} {R R':D→Dp.Obj→Prop} (h:PM P G f ds ob R) (hR:∀ d m,R d m→∃ d',R' d' m∧∀ (w:World) (ok:Nat→Prop) (v:Value),RepC w ok d v→RepC w ok d' v):PM P G f ds ob R':=fun κ w x vs h1 h2 h3 h4 h5 h6=>(h κ w x vs h1 h2 h3 h4 h5 h6).mono (by
 rintro r w' ⟨v,d,m,rfl,k1,k2,k3⟩
 obtain ⟨d',q1,q2⟩:=hR d m k1
 exact ⟨v,d',m,rfl,q1,q2 _ _ _ k2,k3⟩)
theorem clone_pc (l:List UInt8) (hl:l.length≤1000000):PC Tryz.prog [] 119 [bytesD l] (· = bytesD l):=PC.made8 hl fun a n c w hr hn=>clone_calls a n c l w hr oM
theorem wnum_pc (l:List UInt8):PC Tryz.prog [] 190 [bytesD l] (· = I (numI l)):=PC.of8 fun a n c w hr=>Wr.number_calls a n c l _ w hr
theorem woff_pc (l:List UInt8):PC Tryz.prog [] 192 [bytesD l] (· = I (offI l)):=PC.of8 fun a n c w hr=>Wr.offset_calls a n c l _ w hr
theorem drop_D (x:List UInt8) (p n:Nat):D.s ((x.drop p).length-n) 1 (fun k=>(fun i=>u8d ((x.drop p).getD i default)) (n+k))=bytesD (x.drop (p+n)):=by
 unfold bytesD sl'
 congr 1
 ·simp only [List.length_drop]
  omega
 ·funext k
  dsimp only
  rw [List.getD_eq_getElem?_getD,List.getD_eq_getElem?_getD,List.getElem?_drop,List.getElem?_drop,Nat.add_assoc]
theorem take_D {x:List UInt8} {p n:Nat} (h:n≤(x.drop p).length) {w:World} {ok:Nat→Prop} {v:Value} (hr:RepC w ok (D.s n 1 (fun i=>u8d ((x.drop p).getD i default))) v):RepC w ok (bytesD ((x.take (p+n)).drop p)) v:=by
 rw [List.drop_take,Nat.add_sub_cancel_left]
 refine hr.same (by rw [List.length_take]; omega) fun i hi => ?_
 rw [List.getD_eq_getElem?_getD,List.getD_eq_getElem?_getD,List.getElem?_take,if_pos hi]
theorem wire_fits_pc (k:Int):PC Tryz.prog [] 198 [I k] (· = D.v (.bool (decide (1≤k∧k≤7)))):=by
 refine PC.of (N:=9) Tryz.func198 rfl rfl (Nat.le_of_ble_eq_true rfl) ?_
 refine PW.a [0] 0 (PW.t [2] 0 (rq (D.v (.bool ((decide (k≥(1:Int)))&&(decide (k≤(7:Int)))))) ?_))
 first|rfl|(refine congrArg (fun b=>D.v (.bool b)) ?_; rw [Bool.eq_iff_iff]; simp)
theorem next_pm0 (x:List UInt8) (p:Nat) (bad:Bool) (n:Int) (hp:p≤x.length) (hx:x.length≤1000000):PM Tryz.prog [] 193 [D.p 0 0 0 0,I n] (Obj.var 207 [bytesD (x.drop p),I (p:Int),D.v (.bool bad)]) (fun d m=>(okB x p bad n=false∧d=D.v (.slice none 0 0)∧m=wob x p true)∨(okB x p bad n=true∧d=D.s n.toNat 1 (fun i=>u8d ((x.drop p).getD i default))∧m=wob x (p+n.toNat) false)):=by
 refine PM.of (N:=52) Tryz.func193 rfl rfl (Nat.le_of_ble_eq_true rfl) ?_
 have hdl:(x.drop p).length≤1000000:=by rw [List.length_drop]; omega
 refine PW.a [0,1] 1 (PW.seq (PW.w 1 [0,1,6] 1 (PL.pn (A:=[]) (D.p 0 0 0 0) false (by first|exact .inl ⟨rfl,rfl⟩|exact .inr ⟨rfl,rfl⟩) rfl rfl kR (PL.n 6 [0,1,13] 1 (PW.cd (false||bad) ?_ ?_))))) <;> intro hz0 <;> try simp only [boolS] at hz0
 ·refine PW.t [4] 1 ?_
  refine retM_ret (d:=D.v (.slice none 0 0)) (ps:=[]) (ob:=Obj.var 207 [bytesD (x.drop p),I (p:Int),D.v (.bool bad)]) kR trivial kR kR ?_
  obtain rfl:bad=true:=by simpa using hz0
  exact .inl ⟨ok_bad _ _ _,rfl,rfl⟩
 ·refine PW.k (PW.q [0,1,24] 1 (PW.cd ((decide (n<(0:Int)))||(decide (n>((x.drop p).length:Int)))) ?_ ?_)) <;> intro hz1 <;> try simp only [boolS] at hz1
  ·refine PW.a [] 1 (PW.t [4] 1 ?_)
   refine retM_ret (d:=D.v (.slice none 0 0)) (ps:=[]) (ob:=Obj.var 207 [bytesD (x.drop p),I (p:Int),D.v (.bool true)]) kR trivial kR kR ?_
   obtain rfl:bad=false:=by simpa using hz0
   exact .inl ⟨by rw [List.length_drop] at hz1; rcases hz1 with h1|h1 <;> first|exact ok_neg _ _ _ h1|exact ok_less _ _ _ oM,rfl,rfl⟩
  ·refine PW.k (PW.sr [0,1,5] 1 (p:=(0≤n∧n≤((x.drop p).length:Int))) oM (PW.sr [0,1,5] 1 (p:=(0≤n∧n≤((x.drop p).length:Int))) oM (PW.a [5] 1 (PW.t [4] 1 ?_))))
   refine retM_ret (d:=D.s n.toNat 1 (fun i=>u8d ((x.drop p).getD i default))) (ps:=[]) (ob:=Obj.var 207 [D.s (((x.drop p).length)-n.toNat) 1 (fun k=>(fun i=>u8d ((x.drop p).getD i default)) (n.toNat+k)),I (IntKind.i64.wrap ((p:Int)+n)),D.v (.bool bad)]) kR trivial kR kR ?_
   obtain rfl:bad=false:=by simpa using hz0
   rw [List.length_drop] at hz1
   refine .inr ⟨ok_yes _ _ oM oM,rfl,?_⟩
   unfold wob
   rw [← drop_D,show IntKind.i64.wrap ((p:Int)+n)=((p+n.toNat:Nat):Int) by rw [Ev.wrap_i64 oM oM]; omega]
theorem next_pm (x:List UInt8) (p:Nat) (bad:Bool) (n:Int) (hp:p≤x.length) (hx:x.length≤1000000):PM Tryz.prog [] 193 [D.p 0 0 0 0,I n] (wob x p bad) (fun d m=>d=bytesD (gotL x p bad n)∧m=wob x (atN x p bad n) (badN x p bad n)):=PM.coarse (next_pm0 x p bad n hp hx) fun d m h=>by
 rcases h with ⟨h1,rfl,rfl⟩|⟨h1,rfl,rfl⟩
 ·obtain ⟨g1,g2,g3⟩:=got_no h1
  exact ⟨_,⟨rfl,by rw [g2,g3]⟩,fun w ok v hv=>by rw [g1]; cases hv; exact .s0 _ _ none 0 (fun _=>rfl) (Nat.zero_le _)⟩
 ·obtain ⟨g1,g2,g3⟩:=got_yes h1
  have h2:bad=false∧0≤n∧n≤(x.length:Int)-(p:Int):=of_decide_eq_true h1
  exact ⟨_,⟨rfl,by rw [g2,g3]⟩,fun w ok v hv=>by rw [g1]; exact take_D (by rw [List.length_drop]; omega) hv⟩
theorem digits_pm (x:List UInt8) (p:Nat) (bad:Bool) (n:Int) (hp:p≤x.length) (hx:x.length≤1000000):PM Tryz.prog [] 191 [D.p 0 0 0 0,I n] (Obj.var 207 [bytesD (x.drop p),I (p:Int),D.v (.bool bad)]) (fun d m=>d=bytesD (gotL x p bad (wid n))∧m=wob x (atN x p bad (wid n)) (badN x p bad (wid n))):=by
 refine PM.of (N:=13) Tryz.func191 rfl rfl (Nat.le_of_ble_eq_true rfl) ?_
 refine PW.a [0,1] 1 (PW.seq (PW.w 1 [0,1,5] 1 (PL.gc (A:=[]) (fun _=>wire_fits_pc n) (PL.n 1 [0,1,7] 1 (PW.cd (!(decide (1≤n∧n≤7))) ?_ ?_))))) <;> intro hz0 <;> try simp only [boolS] at hz0
 ·refine PW.w 1 [8] 1 (PL.cm (f:=193) (ds:=[D.p 0 0 0 0,I (-1)]) (ob:=Obj.var 207 [bytesD (x.drop p),I (p:Int),D.v (.bool bad)]) 0 (next_pm x p bad (-1) oM hx) ?_)
  rintro _ _ ⟨rfl,rfl⟩
  refine PL.n 1 [4] 1 (PW.ret ?_)
  refine retM_ret (d:=bytesD (gotL x p bad (-1))) (ps:=[]) (ob:=Obj.var 207 [bytesD (x.drop (atN x p bad (-1))),I ((atN x p bad (-1)):Int),D.v (.bool (badN x p bad (-1)))]) kR trivial kR kR ?_
  have hw:wid n = -1:=if_neg (by simpa using hz0)
  rw [hw]
  exact ⟨rfl,rfl⟩
 ·refine PW.k (PW.w 2 [10,11] 1 (PL.cm (f:=193) (ds:=[D.p 0 0 0 0,I n]) (ob:=Obj.var 207 [bytesD (x.drop p),I (p:Int),D.v (.bool bad)]) 0 (next_pm x p bad n oM hx) ?_))
  rintro _ _ ⟨rfl,rfl⟩
  refine PL.n 1 [4] 1 (PW.ret ?_)
  refine retM_ret (d:=bytesD (gotL x p bad n)) (ps:=[]) (ob:=Obj.var 207 [bytesD (x.drop (atN x p bad n)),I ((atN x p bad n):Int),D.v (.bool (badN x p bad n))]) kR trivial kR kR ?_
  have hw:wid n=n:=if_pos (by simpa using hz0)
  rw [hw]
  exact ⟨rfl,rfl⟩
theorem wrNumber_pm (x:List UInt8) (p:Nat) (bad:Bool) (n:Int) (hp:p≤x.length) (hx:x.length≤1000000):PM Tryz.prog [] 176 [D.p 0 0 0 0,I n] (Obj.var 207 [bytesD (x.drop p),I (p:Int),D.v (.bool bad)]) (fun d m=>d=I (numI (gotL x p bad (wid n)))∧m=wob x (atN x p bad (wid n)) (badN x p bad (wid n))):=by
 refine PM.of (N:=9) Tryz.func176 rfl rfl (Nat.le_of_ble_eq_true rfl) ?_
 refine PW.a [0,1] 1 (PW.w 2 [5,6] 1 (PL.cm (f:=191) (ds:=[D.p 0 0 0 0,I n]) (ob:=Obj.var 207 [bytesD (x.drop p),I (p:Int),D.v (.bool bad)]) 0 (digits_pm x p bad n oM hx) ?_))
 rintro _ _ ⟨rfl,rfl⟩
 refine PL.gc (A:=[]) (fun _=>wnum_pc (gotL x p bad (wid n))) (PL.n 1 [4] 1 (PW.ret ?_))
 refine retM_ret (d:=I (numI (gotL x p bad (wid n)))) (ps:=[]) (ob:=Obj.var 207 [bytesD (x.drop (atN x p bad (wid n))),I ((atN x p bad (wid n)):Int),D.v (.bool (badN x p bad (wid n)))]) kR trivial kR kR ?_
 exact ⟨rfl,rfl⟩
theorem wrOffset_pm (x:List UInt8) (p:Nat) (bad:Bool) (n:Int) (hp:p≤x.length) (hx:x.length≤1000000):PM Tryz.prog [] 177 [D.p 0 0 0 0,I n] (Obj.var 207 [bytesD (x.drop p),I (p:Int),D.v (.bool bad)]) (fun d m=>d=I (offI (gotL x p bad (wid n)))∧m=wob x (atN x p bad (wid n)) (badN x p bad (wid n))):=by
 refine PM.of (N:=9) Tryz.func177 rfl rfl (Nat.le_of_ble_eq_true rfl) ?_
 refine PW.a [0,1] 1 (PW.w 2 [5,6] 1 (PL.cm (f:=191) (ds:=[D.p 0 0 0 0,I n]) (ob:=Obj.var 207 [bytesD (x.drop p),I (p:Int),D.v (.bool bad)]) 0 (digits_pm x p bad n oM hx) ?_))
 rintro _ _ ⟨rfl,rfl⟩
 refine PL.gc (A:=[]) (fun _=>woff_pc (gotL x p bad (wid n))) (PL.n 1 [4] 1 (PW.ret ?_))
 refine retM_ret (d:=I (offI (gotL x p bad (wid n)))) (ps:=[]) (ob:=Obj.var 207 [bytesD (x.drop (atN x p bad (wid n))),I ((atN x p bad (wid n)):Int),D.v (.bool (badN x p bad (wid n)))]) kR trivial kR kR ?_
 exact ⟨rfl,rfl⟩
theorem wrTake_pm (x:List UInt8) (p:Nat) (bad:Bool) (n:Int) (hp:p≤x.length) (hx:x.length≤1000000):PM Tryz.prog [] 178 [D.p 0 0 0 0,I n] (Obj.var 207 [bytesD (x.drop p),I (p:Int),D.v (.bool bad)]) (fun d m=>d=bytesD (gotL x p bad n)∧m=wob x (atN x p bad n) (badN x p bad n)):=by
 refine PM.of (N:=9) Tryz.func178 rfl rfl (Nat.le_of_ble_eq_true rfl) ?_
 refine PW.a [0,1] 1 (PW.w 2 [5,6] 1 (PL.cm (f:=193) (ds:=[D.p 0 0 0 0,I n]) (ob:=Obj.var 207 [bytesD (x.drop p),I (p:Int),D.v (.bool bad)]) 0 (next_pm x p bad n oM hx) ?_))
 rintro _ _ ⟨rfl,rfl⟩
 refine PL.gc (A:=[]) (fun _=>clone_pc (gotL x p bad n) (by have:=got_le x p bad n; omega)) (PL.n 1 [4] 1 (PW.ret ?_))
 refine retM_ret (d:=bytesD (gotL x p bad n)) (ps:=[]) (ob:=Obj.var 207 [bytesD (x.drop (atN x p bad n)),I ((atN x p bad n):Int),D.v (.bool (badN x p bad n))]) kR trivial kR kR ?_
 exact ⟨rfl,rfl⟩
theorem wrAt_pc (x:List UInt8) (p:Nat) (bad:Bool):PC Tryz.prog [] 122 [D.q [bytesD (x.drop p),I (p:Int),D.v (.bool bad)] 0] (· = I (p:Int)):=by
 refine PC.of (N:=9) Tryz.func122 rfl rfl (Nat.le_of_ble_eq_true rfl) ?_
 refine PW.a [0] 0 (PW.seq (PW.w 1 [0,3] 0 (PL.pn (A:=[]) (D.q [bytesD (x.drop p),I (p:Int),D.v (.bool bad)] 0) false (by first|exact .inl ⟨rfl,rfl⟩|exact .inr ⟨rfl,rfl⟩) rfl rfl kR (PL.nl (PW.cd false (fun hz0=>by cases hz0) (fun hz0 => ?_))))))
 refine PW.k (PW.t [2] 0 (rq (I (p:Int)) ?_))
 rfl
theorem wrBad_pc (x:List UInt8) (p:Nat) (bad:Bool):PC Tryz.prog [] 179 [D.q [bytesD (x.drop p),I (p:Int),D.v (.bool bad)] 0] (· = D.v (.bool bad)):=by
 refine PC.of (N:=11) Tryz.func179 rfl rfl (Nat.le_of_ble_eq_true rfl) ?_
 refine PW.a [0] 0 (PW.w 1 [0,3] 0 (PL.pn (A:=[]) (D.q [bytesD (x.drop p),I (p:Int),D.v (.bool bad)] 0) true (by first|exact .inl ⟨rfl,rfl⟩|exact .inr ⟨rfl,rfl⟩) rfl rfl kR (PL.n 7 [2] 0 (PW.ret (rq (D.v (.bool (true&&bad))) ?_)))))
 rfl
def fr0:Dp.Obj := .var 25 [I 0,I 0,I 0,I 0,I 0,I 0,D.v (.bool false),I 0,I 0,D.v (.slice none 0 0),I 0,I 0,I 0,D.v (.slice none 0 0)]
theorem wrNew_pi (x:List UInt8) (hx:x.length≤1000000):PI Tryz.prog [] 120 [bytesD x] [fr0] (fun d m=>d=D.p 1 0 0 0∧m=[fr0,wob x 0 false]):=by
 refine PI.of (N:=7) Tryz.func120 rfl rfl (Nat.le_of_ble_eq_true rfl) ?_
 refine PW.a [0] 1 (PW.w 1 [3] 1 (PL.gc (A:=[]) (fun _=>clone_pc x hx) (PL.sl [4] 1 (PL.build (cs:=[bytesD x,I 0,D.v (.bool false)]) rfl kR kR kR (PL.n 2 [2] 2 (PW.ret (retI_r (d:=D.p 1 0 0 0) (ps:=[]) (mem:=[fr0,Obj.var 207 [bytesD x,I 0,D.v (.bool false)]]) trivial ?_)))))))
 exact ⟨rfl,rfl⟩
end Go.Proofs.YtdomlccfjnkbjaaGreatDoor.Pl
