/- A reader of fields: ages and bytes, and the kind. -/
import Derived.WalkKit
import Derived.LaidEql
import Derived.Stop.Asserts
import Derived.RowKitTokens
import Derived.Test.YtdomlccfjnkbjaaGreatDoorSmA
import Derived.Test.YtdomlccfjnkbjaaGreatDoorSmOpen
import Derived.Test.YtdomlccfjnkbjaaGreatDoorSmE
import Derived.Test.YtdomlccfjnkbjaaGreatDoorFrPlain
namespace Go.Proofs.YtdomlccfjnkbjaaGreatDoor.Fr
open Go.RowKit Go.Extern.Stop Go.Stop Go.Extern Go.Proofs.YtdomlccfjnkbjaaGreatDoor.Sm
set_option maxHeartbeats 400000
set_option maxRecDepth 100000
theorem isTypeOf (v:Value) (w:World):(Extern.ReflectliteType.typeOf #[.iface 251 v]).run Tryz.prog w = .ok (.iface 210 (.agg #[.pointer (some ⟨14,251,none⟩)])) w:=by kernel_rfl
noncomputable def cmpE:Array Value→Sem Value:=(Extern.find Tryz.f228).getD fun _=>pure undef
theorem isComparable (w:World):(cmpE #[.agg #[.pointer (some ⟨14,251,none⟩)]]).run Tryz.prog w = .ok (.bool true) w:=by kernel_rfl
theorem isMethodComparable (v:Value) (w:World):(Go.method 383 210 v "Comparable").run Tryz.prog w = .ok (228,v) w:=by kernel_rfl
theorem isComp:(Tryz.prog.info? 251).map (·.comparable)=some true:=by kernel_rfl
theorem isSize:(Tryz.prog.info? 271).map (·.size)=some 1:=by kernel_rfl
theorem noIsE (v:Value) (xT:TypeId) (w:World):(Instr.typeAssert (.iface 251 v) xT 212 true).run Tryz.prog w = .ok (.tuple #[.nilIface,.bool false]) w:=run_typeAssert_lacksB Tryz.underlying212 kR kR v xT w
theorem noUnwrapE (v:Value) (xT:TypeId) (w:World):(Instr.typeAssert (.iface 251 v) xT 215 true).run Tryz.prog w = .ok (.tuple #[.nilIface,.bool false]) w:=run_typeAssert_lacksB Tryz.underlying215 kR kR v xT w
theorem noUnwrapsE (v:Value) (xT:TypeId) (w:World):(Instr.typeAssert (.iface 251 v) xT 217 true).run Tryz.prog w = .ok (.tuple #[.nilIface,.bool false]) w:=run_typeAssert_lacksB Tryz.underlying217 kR kR v xT w
theorem noIsW (v:Value) (xT:TypeId) (w:World):(Instr.typeAssert (.iface 139 v) xT 212 true).run Tryz.prog w = .ok (.tuple #[.nilIface,.bool false]) w:=run_typeAssert_lacksB Tryz.underlying212 kR kR v xT w
theorem hasUnwrapW (v:Value) (xT:TypeId) (w:World):(Instr.typeAssert (.iface 139 v) xT 215 true).run Tryz.prog w = .ok (.tuple #[.iface 139 v,.bool true]) w:=run_typeAssert_hasB Tryz.underlying215 kR v xT w
theorem methodUnwrap (v:Value) (w:World):(Go.method 383 139 v "Unwrap").run Tryz.prog w = .ok (220,v) w:=by kernel_rfl
theorem is_wrap_same (pb:Nat) (b:Addr) (w:World) (h1:w.cell? ⟨pb,0,none⟩=some (.iface 251 (.pointer (some b)))) :
  Calls Tryz.prog 93 #[.iface 139 (.pointer (some ⟨pb,0,none⟩)),.iface 251 (.pointer (some b))] w fun e w'=>e = .returned (.bool true)∧w=w':=by
 obtain ⟨i,hi,hcmp⟩:=Option.map_eq_some_iff.1 isComp
 obtain ⟨j,hj,hjs⟩:=Option.map_eq_some_iff.1 isSize
 have h8:=@run_callFunc_extern Tryz.prog 124 _ Extern.ReflectliteType.typeOf Tryz.func124 kR kR kR kR
 have h32:=@run_callFunc_extern Tryz.prog 228 _ cmpE Tryz.func228 kR kR kR kR
 have tT:=isTypeOf
 have cT:=isComparable
 have mR:=isMethodComparable
 have nE:=noIsE
 have uE:=noUnwrapE
 have vE:=noUnwrapsE
 have nW:=noIsW
 have uW:=hasUnwrapW
 have mU:=methodUnwrap
 have heq:=run_eql_iface_ptr_same (P:=Tryz.prog) w b Tryz.underlying112 Tryz.underlying251 hi hcmp hj
 have hty:=run_eql_iface_types (P:=Tryz.prog) 139 251 (.pointer (some ⟨pb,0,none⟩)) (.pointer (some b)) Tryz.underlying112 (by decide) w
 go_enter Tryz.func93,Tryz.ntmps93
 go_wp2
 refine wp_loop_rounds 2 ?_
 rw [rounds_succ]
 go_wp2
 rw [rounds_succ]
 go_wp2
 go_ret
 exact ⟨rfl,rfl⟩
structure Sn where
 short:Addr
 sum:Addr
 kind:Addr
 long:Addr
 form:Addr
def Sn.of (S:Sn) (e:Int):Addr:=if e=2 then S.short else if e=4 then S.sum else if e=5 then S.kind else if e=3 then S.long else S.form
structure Sents (w:World) (B:Nat) (S:Sn):Prop where
 cShort:w.cell? ⟨0,0,none⟩=some (.iface 251 (.pointer (some S.short)))
 cSum:w.cell? ⟨1,0,none⟩=some (.iface 251 (.pointer (some S.sum)))
 cKind:w.cell? ⟨2,0,none⟩=some (.iface 251 (.pointer (some S.kind)))
 cLong:w.cell? ⟨3,0,none⟩=some (.iface 251 (.pointer (some S.long)))
 cForm:w.cell? ⟨13,0,none⟩=some (.iface 251 (.pointer (some S.form)))
 cType:w.cell? ⟨12,0,none⟩=some (.iface 210 (.agg #[.pointer (some ⟨14,112,none⟩)]))
 low:14≤B
 rows:∀ e,(S.of e).block<B∧∃ c t,w.heap[(S.of e).block]? = some (.cells c t (0,0))
 nd:[S.short,S.sum,S.kind,S.long,S.form].Nodup
theorem Sents.below {w w':World} {B:Nat} {S:Sn} (h:Sents w B S) (hb:Below B w w'):Sents w' B S:=by
 have hl:=h.low
 refine ⟨?_,?_,?_,?_,?_,?_,hl,fun e => ?_,h.nd⟩
 ·rw [hb.cell (Nat.lt_of_lt_of_le (by decide) hl)]; exact h.cShort
 ·rw [hb.cell (Nat.lt_of_lt_of_le (by decide) hl)]; exact h.cSum
 ·rw [hb.cell (Nat.lt_of_lt_of_le (by decide) hl)]; exact h.cKind
 ·rw [hb.cell (Nat.lt_of_lt_of_le (by decide) hl)]; exact h.cLong
 ·rw [hb.cell (Nat.lt_of_lt_of_le (by decide) hl)]; exact h.cForm
 ·rw [hb.cell (Nat.lt_of_lt_of_le (by decide) hl)]; exact h.cType
 ·obtain ⟨h1,c,t,h2⟩:=h.rows e
  exact ⟨h1,c,t,(hb.block _ h1).trans h2⟩
theorem Sents.more {w:World} {B B':Nat} {S:Sn} (h:Sents w B S) (hB:B≤B'):Sents w B' S :=
 ⟨h.cShort,h.cSum,h.cKind,h.cLong,h.cForm,h.cType,by have:=h.low; omega,fun e=>⟨by have:=(h.rows e).1; omega,(h.rows e).2⟩,h.nd⟩
theorem Sents.later {w w':World} {S:Sn} (h:Sents w w.heap.size S) (hb:Below w.heap.size w w'):Sents w' w'.heap.size S:=(h.below hb).more hb.size
theorem Sents.drewN {w:World} {B:Nat} {S:Sn} (h:Sents w B S) (k:Nat):Sents (w.drewN k) B S:=⟨h.cShort,h.cSum,h.cKind,h.cLong,h.cForm,h.cType,h.low,h.rows,h.nd⟩
def FaultV (w:World) (B:Nat) (S:Sn) (v:Value) (e:Int) (at_:Int):Prop :=
 ∃ b,v = .iface 139 (.pointer (some ⟨b,0,none⟩))∧b<B∧w.cell? ⟨b,0,none⟩=some (.iface 251 (.pointer (some (S.of e))))∧w.cell? ⟨b,1,none⟩=some (.int .i64 at_)∧(e=2∨e=3∨e=4∨e=5∨e=6)
theorem FaultV.below {w w':World} {B:Nat} {S:Sn} {v:Value} {e at_:Int} (h:FaultV w B S v e at_) (hb:Below B w w'):FaultV w' B S v e at_:=by
 obtain ⟨b,e1,e2,e3,e4,e5⟩:=h
 exact ⟨b,e1,e2,by rw [hb.cell e2]; exact e3,by rw [hb.cell e2]; exact e4,e5⟩
theorem FaultV.more {w:World} {B B':Nat} {S:Sn} {v:Value} {e at_:Int} (h:FaultV w B S v e at_) (hB:B≤B'):FaultV w B' S v e at_:=by
 obtain ⟨b,e1,e2,e3⟩:=h
 exact ⟨b,e1,by omega,e3⟩
def ErrV (w:World) (B:Nat) (S:Sn) (v:Value):Option (Int×Nat)→Prop
 | none=>v = .nilIface
 | some x=>FaultV w B S v x.1 x.2
theorem ErrV.below {w w':World} {B:Nat} {S:Sn} {v:Value} {x:Option (Int×Nat)} (h:ErrV w B S v x) (hb:Below B w w'):ErrV w' B S v x:=by
 cases x with
 | none=>exact h
 | some x=>exact FaultV.below h hb
theorem ErrV.more {w:World} {B B':Nat} {S:Sn} {v:Value} {x:Option (Int×Nat)} (h:ErrV w B S v x) (hB:B≤B'):ErrV w B' S v x:=by
 cases x with
 | none=>exact h
 | some x=>exact FaultV.more h hB
def noOf:Option (Int×Nat)→Int
 | none=>0
 | some x=>x.1
def atOf:Option (Int×Nat)→Nat
 | none=>0
 | some x=>x.2
theorem number_nil (w:World):Calls Tryz.prog 62 #[.nilIface] w fun r w'=>r = .returned (.int .i64 0)∧w=w':=by
 go_enter Tryz.func62,Tryz.ntmps62
 go_wp2
 go_ret
 exact ⟨rfl,rfl⟩
end Go.Proofs.YtdomlccfjnkbjaaGreatDoor.Fr
namespace Go.Proofs.YtdomlccfjnkbjaaGreatDoor.Fr
open Go.ChangeShapes Go.WideShapes Go.ChangeAt Go.RowKit Go.Proofs.YtdomlccfjnkbjaaGreatDoor.Sm Go.Proofs.YtdomlccfjnkbjaaGreatDoor.Wr
set_option maxHeartbeats 400000
set_option maxRecDepth 100000
structure Beside2 (g h:Nat) (w w':World):Prop where
 os:w'.os=w.os
 tape:w'.tape=w.tape
 output:w'.output=w.output
 size:w.heap.size≤w'.heap.size
 block:∀ k,k<w.heap.size→k≠g→k≠h→w'.heap[k]? = w.heap[k]?
section
variable {g h:Nat} {a b c w w':World}
theorem Beside2.refl (g h:Nat) (w:World):Beside2 g h w w:=⟨rfl,rfl,rfl,Nat.le_refl _,fun _ _ _ _=>rfl⟩
theorem Beside2.trans (x:Beside2 g h a b) (y:Beside2 g h b c):Beside2 g h a c :=
 ⟨y.os.trans x.os,y.tape.trans x.tape,y.output.trans x.output,Nat.le_trans x.size y.size,fun i hi hg hh=>(y.block i (Nat.lt_of_lt_of_le hi x.size) hg hh).trans (x.block i hi hg hh)⟩
theorem Beside2.of_beside (x:Beside g w w'):Beside2 g h w w':=⟨x.os,x.tape,x.output,x.size,fun k hk hg _=>x.block k hk hg⟩
theorem Beside2.of_below (x:Below w.heap.size w w'):Beside2 g h w w':=⟨x.os,x.tape,x.output,x.size,fun k hk _ _=>x.block k hk⟩
theorem Beside2.below {B:Nat} (x:Beside2 g h w w') (hg:B≤g) (hh:B≤h) (hs:B≤w.heap.size):Below B w w':=⟨x.os,x.tape,x.output,x.size,fun k hk=>x.block k oM oM oM⟩
theorem Beside2.set (x:Beside2 g h a w) (j:Nat) (u:Value):Beside2 g h a (w.setCell ⟨h,j,none⟩ u) :=
 ⟨x.os,x.tape,x.output,by simpa using x.size,fun k hk hg hh=>(Below.heap_setCell w ⟨h,j,none⟩ u k hh).trans (x.block k hk hg hh)⟩
theorem Beside2.alloc (x:Beside2 g h a w) (o:Obj):Beside2 g h a (w.alloc o):=x.trans (Beside2.of_below ((Below.refl _ _).alloc (Nat.le_refl _) o))
theorem Beside2.drewN (x:Beside2 g h a w) (n:Nat):Beside2 g h a (w.drewN n):=⟨x.os,x.tape,x.output,x.size,x.block⟩
end
def ErrF (w:World) (h:Nat) (S:Sn) (ev:Value):Option (Int×Nat)→Prop
 | none=>ev = .nilIface
 | some z=>∃ fb,h<fb∧ev = .iface 139 (.pointer (some ⟨fb,0,none⟩))∧Ob w fb 141 [.iface 251 (.pointer (some (S.of z.1))),.int .i64 (z.2:Int)]∧(z.1=2∨z.1=3∨z.1=4∨z.1=5∨z.1=6)
theorem ErrF.keep {w w':World} {h:Nat} {S:Sn} {ev:Value} {o:Option (Int×Nat)} (x:ErrF w h S ev o) (hk:∀ k,h<k→k<w.heap.size→w'.heap[k]? = w.heap[k]?):ErrF w' h S ev o:=by
 cases o with
 | none=>exact x
 | some z =>
  obtain ⟨fb,h1,h2,h3,h4⟩:=x
  exact ⟨fb,h1,h2,(hk fb h1 h3.lt).trans h3,h4⟩
structure FRm (w:World) (g h:Nat) (S:Sn) (x:List UInt8) (p:Nat) (bad:Bool) (o:Option (Int×Nat)):Prop where
 lt:g<h
 sents:Sents w g S
 rd:Rd w g x p bad
 ob:∃ ev,Ob w h 181 [.pointer (some ⟨g,0,none⟩),ev]∧ErrF w h S ev o
theorem FRm.size {w:World} {g h:Nat} {S:Sn} {x:List UInt8} {p:Nat} {bad:Bool} {o:Option (Int×Nat)} (r:FRm w g h S x p bad o):h<w.heap.size:=by
 obtain ⟨ev,h1,_⟩:=r.ob
 exact h1.lt
theorem FRm.below {w w':World} {g h B:Nat} {S:Sn} {x:List UInt8} {p:Nat} {bad:Bool} {o:Option (Int×Nat)} (r:FRm w g h S x p bad o) (hb:Below B w w') (hB:w.heap.size≤B):FRm w' g h S x p bad o:=by
 have hl:=r.lt
 have hs:=r.size
 obtain ⟨ev,h1,h2⟩:=r.ob
 exact ⟨hl,r.sents.below (hb.mono oM),r.rd.below hb oM,ev,h1.below hb oM,h2.keep fun k _ hk2=>hb.block k oM⟩
def first (o:Option (Int×Nat)) (z:Int×Nat):Option (Int×Nat):=match o with
 | none=>some z
 | some y=>some y
def upd (o:Option (Int×Nat)) (bad:Bool) (n lo hi:Int) (at_:Nat):Option (Int×Nat):=match o with
 | some z=>some z
 | none=>if bad=true then some (2,at_) else if n<lo∨hi<n then some (6,at_) else none
def valOf (o:Option (Int×Nat)) (n:Int):Int:=match o with
 | none=>n
 | some _=>0
end Go.Proofs.YtdomlccfjnkbjaaGreatDoor.Fr
namespace Go.Proofs.YtdomlccfjnkbjaaGreatDoor.Fr
open Go.ChangeShapes Go.WideShapes Go.ChangeAt Go.RowKit Go.Proofs.YtdomlccfjnkbjaaGreatDoor.Sm Go.Proofs.YtdomlccfjnkbjaaGreatDoor.Wr
set_option maxHeartbeats 400000
set_option maxRecDepth 100000
def runP {α : Type} (p:Par α) (d : α) (x:List UInt8) (st:Except (Int×Nat) Nat) : α × Except (Int×Nat) Nat:=match st with
 | .error z=>(d,.error z)
 | .ok pos=>match p x pos with
  | .error z=>(d,.error z)
  | .ok r=>(r.1,.ok r.2)
theorem runP_error {α : Type} {p:Par α} {d : α} {x:List UInt8} {pos:Nat} {z:Int×Nat} (h:p x pos = .error z):runP p d x (.ok pos)=(d,.error z):=by simp [runP,h]
theorem runP_ok {α : Type} {p:Par α} {d : α} {x:List UInt8} {pos:Nat} {r : α × Nat} (h:p x pos = .ok r):runP p d x (.ok pos)=(r.1,.ok r.2):=by simp [runP,h]
def FR (w:World) (g h:Nat) (S:Sn) (x:List UInt8):Except (Int×Nat) Nat→Prop
 | .ok pos=>FRm w g h S x pos false none
 | .error z=>∃ p b,FRm w g h S x p b (some z)
theorem FR.some_ {w:World} {g h:Nat} {S:Sn} {x:List UInt8} {st:Except (Int×Nat) Nat} (r:FR w g h S x st):∃ p b o,FRm w g h S x p b o:=by
 cases st with
 | ok pos=>exact ⟨_,_,_,r⟩
 | error z=>obtain ⟨p,b,r⟩:=r; exact ⟨_,_,_,r⟩
theorem FR.below {w w':World} {g h B:Nat} {S:Sn} {x:List UInt8} {st:Except (Int×Nat) Nat} (r:FR w g h S x st) (hb:Below B w w') (hB:w.heap.size≤B):FR w' g h S x st:=by
 cases st with
 | ok pos=>exact FRm.below r hb hB
 | error z=>obtain ⟨p,b,r⟩:=r; exact ⟨p,b,r.below hb hB⟩
theorem FR.size {w:World} {g h:Nat} {S:Sn} {x:List UInt8} {st:Except (Int×Nat) Nat} (r:FR w g h S x st):g<h∧h<w.heap.size:=by
 obtain ⟨p,b,o,r⟩:=r.some_
 exact ⟨r.lt,r.size⟩
theorem got_take {x:List UInt8} {p k:Nat}:(x.take (p+k)).drop p=(x.drop p).take k:=by rw [List.drop_take,Nat.add_sub_cancel_left]
def reps (x:List UInt8):Nat→Except (Int×Nat) Nat→List Int×Except (Int×Nat) Nat
 | 0,s=>([],s)
 | k+1,s=>((reps x k s).1++[(runP (numP 1 0 201) 0 x (reps x k s).2).1],(runP (numP 1 0 201) 0 x (reps x k s).2).2)
theorem bind_ok {α β : Type} {p:Par α} {q : α → Par β} {x:List UInt8} {pos:Nat} {r : α × Nat} (h:p x pos = .ok r):bind p q x pos=q r.1 x r.2:=by unfold bind; rw [h]
theorem bind_error {α β : Type} {p:Par α} {q : α → Par β} {x:List UInt8} {pos:Nat} {z:Int×Nat} (h:p x pos = .error z):bind p q x pos = .error z:=by unfold bind; rw [h]
theorem rep_snoc (x:List UInt8):∀ (n pos:Nat),repP (n+1) x pos=bind (repP n) (fun l=>bind (numP 1 0 201) fun a=>ret (l++[a])) x pos:=by
 intro n
 induction n with
 | zero =>
  intro pos
  rw [bind_ok (p:=repP 0) (r:=([],pos)) rfl]
  show bind (numP 1 0 201) (fun a=>bind (repP 0) fun l=>ret (a::l)) x pos=_
  cases h:numP 1 0 201 x pos with
  | error z=>rw [bind_error h,bind_error h]
  | ok r=>rw [bind_ok h,bind_ok h]; rfl
 | succ n ih =>
  intro pos
  show bind (numP 1 0 201) (fun a=>bind (repP (n+1)) fun l=>ret (a::l)) x pos=_
  have e0:repP (n+1) x pos=bind (numP 1 0 201) (fun a=>bind (repP n) fun l=>ret (a::l)) x pos:=rfl
  cases h:numP 1 0 201 x pos with
  | error z =>
   rw [bind_error h,bind_error (e0.trans (bind_error h))]
  | ok r =>
   rw [bind_ok h]
   rw [bind_ok h] at e0
   have ih':=ih r.2
   cases h2:repP n x r.2 with
   | error z =>
    rw [bind_error h2] at ih' e0
    rw [bind_error ih',bind_error e0]
   | ok s =>
    rw [bind_ok h2] at ih' e0
    have e0':repP (n+1) x pos = .ok (r.1::s.1,s.2):=e0
    rw [bind_ok e0']
    cases h3:numP 1 0 201 x s.2 with
    | error z =>
     rw [bind_error h3] at ih'
     rw [bind_error ih',bind_error h3]
    | ok q =>
     rw [bind_ok h3] at ih'
     have ih2:repP (n+1) x r.2 = .ok (s.1++[q.1],q.2):=ih'
     rw [bind_ok ih2,bind_ok h3]
     rfl
theorem reps_rep (x:List UInt8) (pos:Nat):∀ n,(match repP n x pos with | .ok r=>reps x n (.ok pos)=(r.1,.ok r.2) | .error z=>(reps x n (.ok pos)).2 = .error z):=by
 intro n
 induction n with
 | zero=>rfl
 | succ n ih =>
  rw [rep_snoc]
  cases h:repP n x pos with
  | error z =>
   rw [h] at ih
   rw [bind_error h]
   have ih':(reps x n (.ok pos)).2 = .error z:=ih
   show (runP (numP 1 0 201) 0 x (reps x n (.ok pos)).2).2 = .error z
   rw [ih']
   rfl
  | ok r =>
   rw [h] at ih
   have ih':reps x n (.ok pos)=(r.1,.ok r.2):=ih
   rw [bind_ok h]
   cases h3:numP 1 0 201 x r.2 with
   | error z =>
    rw [bind_error h3]
    show (runP (numP 1 0 201) 0 x (reps x n (.ok pos)).2).2 = .error z
    rw [ih',runP_error h3]
   | ok q =>
    rw [bind_ok h3]
    show ((reps x n (.ok pos)).1++[(runP (numP 1 0 201) 0 x (reps x n (.ok pos)).2).1],(runP (numP 1 0 201) 0 x (reps x n (.ok pos)).2).2)=_
    rw [ih',runP_ok h3]
theorem runP_wf {lo hi:Int} {k:Nat} {x:List UInt8} {st:Except (Int×Nat) Nat} (_:0≤lo) (hh:hi≤9223372036854775807):0≤(runP (numP k lo hi) 0 x st).1∧(runP (numP k lo hi) 0 x st).1≤9223372036854775807∧((runP (numP k lo hi) 0 x st).1≤hi∨(runP (numP k lo hi) 0 x st).1=0):=by
 cases st with
 | error z=>exact ⟨Int.le_refl _,show (0:Int)≤9223372036854775807 by decide,.inr rfl⟩
 | ok pos =>
  cases h:numP k lo hi x pos with
  | error z=>rw [runP_error h]; exact ⟨Int.le_refl _,show (0:Int)≤9223372036854775807 by decide,.inr rfl⟩
  | ok r =>
   rw [runP_ok h]
   unfold numP at h
   split at h
   ·cases h
   ·split at h
    ·rename_i hr
     injection h with h
     rw [← h]
     exact ⟨by have:=hr.1; show 0≤(_:Int); omega,by have:=hr.2; show (_:Int)≤_; omega,.inl hr.2⟩
    ·cases h
theorem reps_wf (x:List UInt8) (s:Except (Int×Nat) Nat):∀ n,∀ d ∈ (reps x n s).1, -9223372036854775808≤d∧d≤9223372036854775807:=by
 intro n
 induction n with
 | zero=>intro d hd; cases hd
 | succ n ih =>
  intro d hd
  have hd':d ∈ (reps x n s).1++[(runP (numP 1 0 201) 0 x (reps x n s).2).1]:=hd
  rcases List.mem_append.1 hd' with h|h
  ·exact ih d h
  ·obtain rfl:=List.mem_singleton.1 h
   have:=runP_wf (lo:=0) (hi:=201) (k:=1) (x:=x) (st:=(reps x n s).2) oM (by decide)
   omega
theorem reps_length (x:List UInt8) (s:Except (Int×Nat) Nat):∀ n,(reps x n s).1.length=n:=by
 intro n
 induction n with
 | zero=>rfl
 | succ n ih =>
  show ((reps x n s).1++[_]).length=_
  rw [List.length_append,ih]
  rfl
theorem FRm.grown {w w':World} {g h base:Nat} {S:Sn} {x:List UInt8} {p:Nat} {bad:Bool} {o:Option (Int×Nat)} (r:FRm w g h S x p bad o) {e:TypeId} {z n:Nat} {v:Value} {xs:List Value} (hown:w.ownsRow base e z v n xs) (hgr:w.grownBy w' v.ownBlock) (hB:h<base) (he:e≠141):FRm w' g h S x p bad o:=by
 have hl:=r.lt
 have hs:=r.size
 have hrow:∀ k,v.ownBlock=some k→base≤k:=fun k hk=>(hown.lt k hk).1
 have hb:Below (h+1) w w':=(Below.refl _ _).grown hgr oM (fun k hk=>by have:=hrow k hk; omega)
 obtain ⟨ev,h1,h2⟩:=r.ob
 refine ⟨hl,r.sents.below (hb.mono oM),r.rd.below hb oM,ev,h1.below hb oM,?_⟩
 cases o with
 | none=>exact h2
 | some z =>
  obtain ⟨fb,e1,e2,e3,e4⟩:=h2
  refine ⟨fb,e1,e2,?_,e4⟩
  refine (hgr.block fb e3.lt (fun ek => ?_)).trans e3
  rcases hown.2 with ⟨hv,_⟩|⟨k,cap,cur,hv,hk,hq,_⟩
  ·rw [hv] at ek; cases ek
  ·rw [hv] at ek
   have ek':k=fb:=by injection ek.symm
   subst ek'
   have:=hq.symm.trans e3
   injection this with this
   injection this with _ q2 _
   exact he q2
theorem FR.grown {w w':World} {g h base:Nat} {S:Sn} {x:List UInt8} {st:Except (Int×Nat) Nat} (r:FR w g h S x st) {e:TypeId} {z n:Nat} {v:Value} {xs:List Value} (hown:w.ownsRow base e z v n xs) (hgr:w.grownBy w' v.ownBlock) (hB:h<base) (he:e≠141):FR w' g h S x st:=by
 cases st with
 | ok pos=>exact FRm.grown r hown hgr hB he
 | error z=>obtain ⟨p,b,r⟩:=r; exact ⟨p,b,r.grown hown hgr hB he⟩
theorem Beside2.grown {g h:Nat} {a w w':World} {row:Option Nat} (x:Beside2 g h a w) (hgr:w.grownBy w' row) (hr:∀ k,row=some k→a.heap.size≤k):Beside2 g h a w' :=
 ⟨hgr.os.trans x.os,hgr.tape.trans x.tape,hgr.output.trans x.output,Nat.le_trans x.size hgr.size,fun k hk hg hh=>(hgr.block k (Nat.lt_of_lt_of_le hk x.size) (fun e=>by have:=hr k e.symm; omega)).trans (x.block k hk hg hh)⟩
theorem ages_reps (x:List UInt8) (st:Except (Int×Nat) Nat):(runP agesP [] x st).2=(reps x (runP (numP 1 1 6) 0 x st).1.toNat (runP (numP 1 1 6) 0 x st).2).2∧∀ pos,(runP agesP [] x st).2 = .ok pos→(reps x (runP (numP 1 1 6) 0 x st).1.toNat (runP (numP 1 1 6) 0 x st).2).1=(runP agesP [] x st).1:=by
 cases st with
 | error z=>exact ⟨rfl,fun _ h=>by cases h⟩
 | ok pos =>
  cases h:numP 1 1 6 x pos with
  | error z =>
   have e:agesP x pos = .error z:=bind_error h
   rw [runP_error h,runP_error e]
   exact ⟨rfl,fun _ h=>by cases h⟩
  | ok r =>
   have e:agesP x pos=repP r.1.toNat x r.2:=bind_ok h
   rw [runP_ok h]
   have k:=reps_rep x r.2 r.1.toNat
   cases h2:repP r.1.toNat x r.2 with
   | error z =>
    rw [h2] at k
    rw [runP_error (e.trans h2)]
    have k':(reps x r.1.toNat (.ok r.2)).2 = .error z:=k
    exact ⟨k'.symm,fun _ h=>by cases h⟩
   | ok q =>
    rw [h2] at k
    have k':reps x r.1.toNat (.ok r.2)=(q.1,.ok q.2):=k
    rw [runP_ok (e.trans h2),k']
    exact ⟨rfl,fun _ _=>rfl⟩
end Go.Proofs.YtdomlccfjnkbjaaGreatDoor.Fr
