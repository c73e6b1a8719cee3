/- errors.As of a fault of package plan, at a pointer to a fault's variable; plan.place. errors.As by its own text; reflectlite by the model's entries (after the kit's worked example). -/
import Derived.Test.YtgklghpkfmoogaaGreatDoorPlErr
namespace Go.Proofs.YtgklghpkfmoogaaGreatDoor.Pl
open Go.RowKit Go.Extern.Stop Go.Stop Go.Extern Go.Proofs.YtgklghpkfmoogaaGreatDoor.Sm Go.Proofs.YtgklghpkfmoogaaGreatDoor.Dp
set_option maxHeartbeats 400000
set_option maxRecDepth 100000
theorem as_nil (t:Value) (w:World) :
  Calls Tryz.prog 76 #[.nilIface,t] w fun e w'=>e = .returned (.bool false)∧w'=w:=by
 go_enter Tryz.func76,Tryz.ntmps76
 go_wp2
 go_ret
 exact ⟨rfl,rfl⟩
theorem as_valueOf27 (t:Addr) (w:World):(ReflectliteValue.unpack (.iface 131 (.pointer (some t)))).run Tryz.prog w
 = .ok (.agg #[.pointer (some ⟨9,131,none⟩),.pointer (some ⟨w.heap.size,0,none⟩),.int .u64 150]) (w.alloc (.cells #[.pointer (some t)] 131)):=by kernel_rfl
theorem as_type27 (a:Addr) (w:World):(ReflectliteValue.methodAny (ReflectliteValue.valueError "reflectlite.Value.Type" 0) (fun t _ _ _=>ReflectliteType.toType t) #[.agg #[.pointer (some ⟨9,131,none⟩),.pointer (some a),.int .u64 150]]).run Tryz.prog w
 = .ok (.iface 154 (.agg #[.pointer (some ⟨9,131,none⟩)])) w:=by kernel_rfl
theorem as_methodKind (h:Value) (w:World):(Go.method 304 154 (.agg #[h]) "Kind").run Tryz.prog w = .ok (126,h) w:=by kernel_rfl
theorem as_kind27 (w:World):((ReflectliteType.abiMethod fun t=>(fun a:Nat=>Value.int IntKind.u8 (a:Int)) <$> Rtype.kind t) #[.pointer (some ⟨9,131,none⟩)]).run Tryz.prog w = .ok (.int .u8 22) w:=by kernel_rfl
theorem as_kind25 (w:World):((ReflectliteType.abiMethod fun t=>(fun a:Nat=>Value.int IntKind.u8 (a:Int)) <$> Rtype.kind t) #[.pointer (some ⟨9,101,none⟩)]).run Tryz.prog w = .ok (.int .u8 22) w:=by kernel_rfl
theorem as_parts27 (a:Addr) (w:World):(ReflectliteValue.parts (.agg #[.pointer (some ⟨9,131,none⟩),.pointer (some a),.int .u64 150])).run Tryz.prog w = .ok (some (131,a,150)) w:=by kernel_rfl
theorem as_isNil27 (a p:Addr) (W:World) (ha:W.cell? a=some (.pointer (some p))) :
  (ReflectliteValue.method (ReflectliteValue.valueError "reflectlite.Value.IsNil" 0) ReflectliteValue.isNil #[.agg #[.pointer (some ⟨9,131,none⟩),.pointer (some a),.int .u64 150]]).run Tryz.prog W = .ok (.bool false) W:=by
 unfold ReflectliteValue.method
 show Sem.run _ (ReflectliteValue.parts (.agg #[.pointer (some ⟨9,131,none⟩),.pointer (some a),.int .u64 150]) >>= _) _=_
 simp only [Sem.run_bind,as_parts27,Result.andThen]
 simp [ReflectliteValue.isNil,loadVar,isAgg,underlying,Tryz.underlying131,ha,Result.andThen]
theorem as_methodElem (h:Value) (w:World):(Go.method 304 154 (.agg #[h]) "Elem").run Tryz.prog w = .ok (140,.agg #[h]) w:=by kernel_rfl
theorem as_methodImplements (h:Value) (w:World):(Go.method 304 154 (.agg #[h]) "Implements").run Tryz.prog w = .ok (141,.agg #[h]) w:=by kernel_rfl
theorem as_methodAssignableTo (h:Value) (w:World):(Go.method 304 154 (.agg #[h]) "AssignableTo").run Tryz.prog w = .ok (138,.agg #[h]) w:=by kernel_rfl
theorem as_elem27 (w:World):(ReflectliteType.method ReflectliteType.elem #[.agg #[.pointer (some ⟨9,131,none⟩)]]).run Tryz.prog w = .ok (.iface 154 (.agg #[.pointer (some ⟨9,101,none⟩)])) w:=by kernel_rfl
theorem as_implements25 (w:World):(ReflectliteType.relation "Implements" ReflectliteType.implements_ #[.agg #[.pointer (some ⟨9,101,none⟩)],.iface 154 (.agg #[.pointer (some ⟨9,76,none⟩)])]).run Tryz.prog w = .ok (.bool true) w:=by kernel_rfl
theorem as_typeOf25 (v:Value) (w:World):(ReflectliteType.typeOf #[.iface 101 v]).run Tryz.prog w = .ok (.iface 154 (.agg #[.pointer (some ⟨9,101,none⟩)])) w:=by kernel_rfl
theorem as_assignable25 (w:World):(ReflectliteType.relation "AssignableTo" ReflectliteType.assignableTo #[.agg #[.pointer (some ⟨9,101,none⟩)],.iface 154 (.agg #[.pointer (some ⟨9,101,none⟩)])]).run Tryz.prog w = .ok (.bool true) w:=by kernel_rfl
theorem as_valueOf25 (e:Addr) (w:World):(ReflectliteValue.unpack (.iface 101 (.pointer (some e)))).run Tryz.prog w
 = .ok (.agg #[.pointer (some ⟨9,101,none⟩),.pointer (some ⟨w.heap.size,0,none⟩),.int .u64 150]) (w.alloc (.cells #[.pointer (some e)] 101)):=by kernel_rfl
theorem as_elemOf27 (w:World):(Rtype.elem? 131).run Tryz.prog w = .ok (some 101) w:=by kernel_rfl
theorem as_mk25 (p:Addr) (w:World):(ReflectliteValue.mk 101 p ReflectliteValue.flagAddr).run Tryz.prog w = .ok (.agg #[.pointer (some ⟨9,101,none⟩),.pointer (some p),.int .u64 406]) w:=by kernel_rfl
theorem as_elemV27 (a p:Addr) (W:World) (ha:W.cell? a=some (.pointer (some p))) :
  (ReflectliteValue.method (ReflectliteValue.valueError "reflectlite.Value.Elem" 0) ReflectliteValue.elem #[.agg #[.pointer (some ⟨9,131,none⟩),.pointer (some a),.int .u64 150]]).run Tryz.prog W
   = .ok (.agg #[.pointer (some ⟨9,101,none⟩),.pointer (some p),.int .u64 406]) W:=by
 unfold ReflectliteValue.method
 show Sem.run _ (ReflectliteValue.parts (.agg #[.pointer (some ⟨9,131,none⟩),.pointer (some a),.int .u64 150]) >>= _) _=_
 simp only [Sem.run_bind,as_parts27,Result.andThen]
 simp [ReflectliteValue.elem,loadVar,isAgg,underlying,Tryz.underlying131,ha,Result.andThen,as_elemOf27,as_mk25]
theorem as_parts25a (a:Addr) (w:World):(ReflectliteValue.parts (.agg #[.pointer (some ⟨9,101,none⟩),.pointer (some a),.int .u64 406])).run Tryz.prog w = .ok (some (101,a,406)) w:=by kernel_rfl
theorem as_parts25 (a:Addr) (w:World):(ReflectliteValue.parts (.agg #[.pointer (some ⟨9,101,none⟩),.pointer (some a),.int .u64 150])).run Tryz.prog w = .ok (some (101,a,150)) w:=by kernel_rfl
theorem as_direct25 (w:World):(Rtype.directlyAssignable 101 101).run Tryz.prog w = .ok true w:=by kernel_rfl
theorem as_size25 (w:World):(sizeOf 101).run Tryz.prog w = .ok 1 w:=by kernel_rfl
theorem as_set25 (ta b e:Addr) (old:Value) (W:World) (hb:W.cell? b=some (.pointer (some e))) (ht:W.cell? ta=some old) (hf:W.frozen? ta=false) :
  (ReflectliteValue.set #[.agg #[.pointer (some ⟨9,101,none⟩),.pointer (some ta),.int .u64 406],.agg #[.pointer (some ⟨9,101,none⟩),.pointer (some b),.int .u64 150]]).run Tryz.prog W
   = .ok (.tuple #[]) (W.setCell ta (.pointer (some e))):=by
 unfold ReflectliteValue.set
 show Sem.run _ (ReflectliteValue.parts (.agg #[.pointer (some ⟨9,101,none⟩),.pointer (some ta),.int .u64 406]) >>= fun y=>ReflectliteValue.parts (.agg #[.pointer (some ⟨9,101,none⟩),.pointer (some b),.int .u64 150]) >>= _) _=_
 simp only [Sem.run_bind,as_parts25a,as_parts25,Result.andThen]
 simp [ReflectliteValue.flagAddr,loadVar,isAgg,underlying,Tryz.underlying101,hb,Result.andThen,as_direct25,storeVar,Value.cells,storeCells,Addr.add]
 rw [run_store Tryz.prog W ta _ _ (by rfl)]
 simp [ht,hf]
set_option maxHeartbeats 4000000 in
theorem as_hit (e t:Addr) (old:Value) (w:World) (hg:w.cell? ⟨8,0,none⟩=some (.iface 154 (.agg #[.pointer (some ⟨9,76,none⟩)]))) (ht0:w.cell? t=some old) (hf0:w.frozen? t=false) :
  Calls Tryz.prog 76 #[.iface 101 (.pointer (some e)),.iface 131 (.pointer (some t))] w fun ev w'=>ev = .returned (.bool true)∧w'=((((w.alloc (.cells #[.pointer (some t)] 131)).alloc (.cells #[.pointer (some ⟨9,131,none⟩),.pointer (some ⟨w.heap.size,0,none⟩),.int .u64 150] 135)).alloc (.cells #[.pointer (some ⟨9,131,none⟩),.pointer (some ⟨w.heap.size,0,none⟩),.int .u64 150] 135)).alloc (.cells #[.pointer (some e)] 101)).setCell t (.pointer (some e)):=by
 have h6:=@run_callFunc_extern Tryz.prog 94 _ (fun args=>ReflectliteValue.unpack (args.getD 0 (.tuple #[]))) Tryz.func94 kR kR kR kR
 have h7:=@run_callFunc_extern Tryz.prog 95 _ (ReflectliteValue.methodAny (ReflectliteValue.valueError "reflectlite.Value.Type" 0) (fun t _ _ _=>ReflectliteType.toType t)) Tryz.func95 kR kR kR kR
 have h8:=@run_callFunc_extern Tryz.prog 96 _ (ReflectliteValue.method (ReflectliteValue.valueError "reflectlite.Value.IsNil" 0) ReflectliteValue.isNil) Tryz.func96 kR kR kR kR
 have h27:=@run_callFunc_extern Tryz.prog 126 _ (ReflectliteType.abiMethod fun t=>do pure (.int .u8 (← Rtype.kind t))) Tryz.func126 kR kR kR kR
 have h37:=@run_callFunc_extern Tryz.prog 140 _ (ReflectliteType.method ReflectliteType.elem) Tryz.func140 kR kR kR kR
 have h38:=@run_callFunc_extern Tryz.prog 141 _ (ReflectliteType.relation "Implements" ReflectliteType.implements_) Tryz.func141 kR kR kR kR
 have h10:=@run_callFunc_extern Tryz.prog 98 _ ReflectliteType.typeOf Tryz.func98 kR kR kR kR
 have h35:=@run_callFunc_extern Tryz.prog 138 _ (ReflectliteType.relation "AssignableTo" ReflectliteType.assignableTo) Tryz.func138 kR kR kR kR
 have h11:=@run_callFunc_extern Tryz.prog 108 _ (ReflectliteValue.method (ReflectliteValue.valueError "reflectlite.Value.Elem" 0) ReflectliteValue.elem) Tryz.func108 kR kR kR kR
 have h12:=@run_callFunc_extern Tryz.prog 109 _ ReflectliteValue.set Tryz.func109 kR kR kR kR
 have tO:=as_typeOf25
 have mA:=as_methodAssignableTo
 have a25:=as_assignable25
 have v25:=as_valueOf25
 have f6:=as_valueOf27
 have f7:=as_type27
 have mK:=as_methodKind
 have mE:=as_methodElem
 have mI:=as_methodImplements
 have k27:=as_kind27
 have k25:=as_kind25
 have e27:=as_elem27
 have i25:=as_implements25
 have n8:=as_isNil27 ⟨w.heap.size,0,none⟩ t ((w.alloc (.cells #[.pointer (some t)] 131)).alloc (.cells #[.pointer (some ⟨9,131,none⟩),.pointer (some ⟨w.heap.size,0,none⟩),.int .u64 150] 135)) (by simp)
 have hlt:8<w.heap.size:=by
  rcases Nat.lt_or_ge 8 w.heap.size with h|h
  ·exact h
  ·simp [World.cell?,Array.getElem?_eq_none h] at hg
 have hg2:((w.alloc (.cells #[.pointer (some t)] 131)).alloc (.cells #[.pointer (some ⟨9,131,none⟩),.pointer (some ⟨w.heap.size,0,none⟩),.int .u64 150] 135)).cell? ⟨8,0,none⟩=some (.iface 154 (.agg #[.pointer (some ⟨9,76,none⟩)])):=by
  rw [World.cell?_alloc_lt _ _ ⟨8,0,none⟩ (by simp; omega),World.cell?_alloc_lt _ _ ⟨8,0,none⟩ hlt]; exact hg
 have htl:t.block<w.heap.size:=by
  rcases Nat.lt_or_ge t.block w.heap.size with h|h
  ·exact h
  ·simp [World.cell?,Array.getElem?_eq_none h] at ht0
 have el:=as_elemV27 ⟨w.heap.size,0,none⟩ t (((w.alloc (.cells #[.pointer (some t)] 131)).alloc (.cells #[.pointer (some ⟨9,131,none⟩),.pointer (some ⟨w.heap.size,0,none⟩),.int .u64 150] 135)).alloc (.cells #[.pointer (some ⟨9,131,none⟩),.pointer (some ⟨w.heap.size,0,none⟩),.int .u64 150] 135)) (by rw [World.cell?_alloc_lt _ _ ⟨w.heap.size,0,none⟩ (by simp; omega)]; simp)
 have st:=as_set25 t ⟨w.heap.size+1+1+1,0,none⟩ e old ((((w.alloc (.cells #[.pointer (some t)] 131)).alloc (.cells #[.pointer (some ⟨9,131,none⟩),.pointer (some ⟨w.heap.size,0,none⟩),.int .u64 150] 135)).alloc (.cells #[.pointer (some ⟨9,131,none⟩),.pointer (some ⟨w.heap.size,0,none⟩),.int .u64 150] 135)).alloc (.cells #[.pointer (some e)] 101))
  (by rw [World.cell?_alloc_at _ _ _ _ (by simp)]; rfl)
  (by rw [World.cell?_alloc_lt _ _ t (by simp; omega),World.cell?_alloc_lt _ _ t (by simp; omega),World.cell?_alloc_lt _ _ t (by simp; omega),World.cell?_alloc_lt _ _ t htl]; exact ht0)
  (by rw [World.frozen?_alloc_old _ _ t (by simp; omega),World.frozen?_alloc_old _ _ t (by simp; omega),World.frozen?_alloc_old _ _ t (by simp; omega),World.frozen?_alloc_old _ _ t (Nat.ne_of_lt htl)]; exact hf0)
 go_enter Tryz.func76,Tryz.ntmps76
 go_wp2
 refine wp_loop_rounds 1 ?_
 rw [rounds_succ]
 go_wp2
 go_ret
 exact ⟨rfl,rfl⟩
theorem place_nil (w:World):Calls Tryz.prog 73 #[.nilIface] w fun r w'=>r = .returned (.int .i64 0)∧Below w.heap.size w w':=by
 go_enter Tryz.func73,Tryz.ntmps73
 go_wp2_with (go_at_call 76; refine (as_nil _ _).mono ?_; rintro e w' ⟨rfl,rfl⟩)
 go_ret
 exact ⟨rfl,(Below.refl _ _).alloc (Nat.le_refl _) _⟩
theorem place_fault (b off:Nat) (at_:Int) (w:World) (hT:w.cell? ⟨8,0,none⟩=some (.iface 154 (.agg #[.pointer (some ⟨9,76,none⟩)]))) (hlow:8<w.heap.size) (hb:b<w.heap.size) (h1:w.cell? ⟨b,off+1,none⟩=some (.int .i64 at_)) :
  Calls Tryz.prog 73 #[.iface 101 (.pointer (some ⟨b,off,none⟩))] w fun r w'=>r = .returned (.int .i64 at_)∧Below w.heap.size w w':=by
 have hT1:(w.alloc (.cells #[.pointer none] 101)).cell? ⟨8,0,none⟩=some (.iface 154 (.agg #[.pointer (some ⟨9,76,none⟩)])):=by
  rw [World.cell?_alloc_lt _ _ ⟨8,0,none⟩ hlow]; exact hT
 have ht:(w.alloc (.cells #[.pointer none] 101)).cell? ⟨w.heap.size,0,none⟩=some (.pointer none):=by simp
 have hf:(w.alloc (.cells #[.pointer none] 101)).frozen? ⟨w.heap.size,0,none⟩=false:=frozen_of_row _ _ _ _ _ (heap_alloc_new w _)
 have R:=hid (as_hit ⟨b,off,none⟩ ⟨w.heap.size,0,none⟩ (.pointer none) (w.alloc (.cells #[.pointer none] 101)) hT1 ht hf)
 clear hT hT1 ht hf
 go_enter Tryz.func73,Tryz.ntmps73
 go_wp2_with (go_at_call 76; refine stop ?_)
 unfold Stop
 refine (R.out).mono ?_
 rintro e w' ⟨rfl,hw⟩
 have hb1:Below w.heap.size w w':=by
  rw [hw]
  refine Below.setCell ?_ (p:=⟨w.heap.size,0,none⟩) (Nat.le_refl _) _
  have s1:w.heap.size≤(w.alloc (.cells #[.pointer none] 101)).heap.size:=by simp
  exact ((((((Below.refl _ _).alloc (Nat.le_refl _) _).alloc (by simp) _).alloc (by simp; omega) _).alloc (by simp; omega) _).alloc (by simp; omega) _)
 have hc:w'.cell? ⟨w.heap.size,0,none⟩=some (.pointer (some ⟨b,off,none⟩)):=by
  rw [hw]
  refine World.cell?_setCell_same _ _ _ (u := .pointer none) ?_
  refine (Below.cell (B:=(w.alloc (.cells #[.pointer none] 101)).heap.size) (((((Below.refl _ _).alloc (Nat.le_refl _) _).alloc (by simp) _).alloc (by simp) _).alloc (by simp) _) (by simp)).trans ?_
  simp
 have hd:w'.cell? ⟨b,off+1,none⟩=some (.int .i64 at_):=by
  rw [hb1.cell hb]; exact h1
 clear hw R
 go_wp2
 go_ret
 exact ⟨rfl,hb1⟩
theorem plan_place_nil_pc:PC Tryz.prog [] 73 [D.v .nilIface] (· = I 0):=by
 intro κ w vs h1 h2 h3 h4
 match vs,h3 with
 | [v0],_ =>
  have r0:=h4 0 _ v0 rfl rfl
  cases r0 with
  | v _ =>
   refine (place_nil w).mono ?_
   rintro r w' ⟨rfl,hb⟩
   exact ⟨_,_,rfl,rfl,.v _,hb⟩
theorem plan_place_fault_pc (e:Nat→Addr) (k:Nat) (at_:Int):PC Tryz.prog (errG2 e) 73 [D.i 101 (D.q [sentD e k,I at_] 0)] (· = I at_):=by
 intro κ w vs h1 h2 h3 h4
 match vs,h3 with
 | [v0],_ =>
  have r0:=h4 0 _ v0 rfl rfl
  obtain ⟨ty,tok,_⟩:=h2 _ (errG2_type e)
  have hT:w.cell? ⟨8,0,none⟩=some (.iface 154 (.agg #[.pointer (some ⟨9,76,none⟩)])):=by
   generalize hp:(⟨8,0,none⟩:Addr)=p at ty
   cases ty with
   | q vals hb hv hd =>
    have c0:=hv 0 (by simp)
    have d0:=hd 0 _ rfl
    generalize hx:vals 0=x0 at c0 d0
    cases d0 with
    | v _=>exact c0
  cases r0 with
  | i r0=>cases r0 with
   | q vals hb hv hd =>
    have c0:=hv 1 (by simp)
    have d0:=hd 1 _ rfl
    generalize hx:vals 1=x0 at c0 d0
    cases d0 with
    | v _ =>
     refine (place_fault _ _ at_ w hT (h1 _ tok) (h1 _ hb) c0).mono ?_
     rintro r w' ⟨rfl,hb⟩
     exact ⟨_,_,rfl,rfl,.v _,hb⟩
end Go.Proofs.YtgklghpkfmoogaaGreatDoor.Pl
