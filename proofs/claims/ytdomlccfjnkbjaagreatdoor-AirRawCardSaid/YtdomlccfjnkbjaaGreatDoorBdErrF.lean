/- Errors of package bounds: what errors.Is and errors.As answer of its faults; number and place. errors.Is and errors.As by their own texts; reflectlite by the model's entries (as in package plan). -/
import Derived.Test.YtdomlccfjnkbjaaGreatDoorPlAs
namespace Go.Proofs.YtdomlccfjnkbjaaGreatDoor.BdF
open Go.RowKit Go.Extern.Stop Go.Stop Go.Extern Go.Proofs.YtdomlccfjnkbjaaGreatDoor.Sm Go.Proofs.YtdomlccfjnkbjaaGreatDoor.Dp Go.Proofs.YtdomlccfjnkbjaaGreatDoor.Pl
set_option maxHeartbeats 400000
set_option maxRecDepth 100000
theorem as_valueOf27 (t:Addr) (w:World):(ReflectliteValue.unpack (.iface 225 (.pointer (some t)))).run Tryz.prog w
 = .ok (.agg #[.pointer (some ⟨14,225,none⟩),.pointer (some ⟨w.heap.size,0,none⟩),.int .u64 150]) (w.alloc (.cells #[.pointer (some t)] 225)):=by kernel_rfl
theorem as_type27 (a:Addr) (w:World):(ReflectliteValue.methodAny (ReflectliteValue.valueError "reflectlite.Value.Type" 0) (fun t _ _ _=>ReflectliteType.toType t) #[.agg #[.pointer (some ⟨14,225,none⟩),.pointer (some a),.int .u64 150]]).run Tryz.prog w
 = .ok (.iface 210 (.agg #[.pointer (some ⟨14,225,none⟩)])) w:=by kernel_rfl
theorem as_methodKind (h:Value) (w:World):(Go.method 383 210 (.agg #[h]) "Kind").run Tryz.prog w = .ok (216,h) w:=by kernel_rfl
theorem as_kind27 (w:World):((ReflectliteType.abiMethod fun t=>(fun a:Nat=>Value.int IntKind.u8 (a:Int)) <$> Rtype.kind t) #[.pointer (some ⟨14,225,none⟩)]).run Tryz.prog w = .ok (.int .u8 22) w:=by kernel_rfl
theorem as_kind25 (w:World):((ReflectliteType.abiMethod fun t=>(fun a:Nat=>Value.int IntKind.u8 (a:Int)) <$> Rtype.kind t) #[.pointer (some ⟨14,157,none⟩)]).run Tryz.prog w = .ok (.int .u8 22) w:=by kernel_rfl
theorem as_parts27 (a:Addr) (w:World):(ReflectliteValue.parts (.agg #[.pointer (some ⟨14,225,none⟩),.pointer (some a),.int .u64 150])).run Tryz.prog w = .ok (some (225,a,150)) w:=by kernel_rfl
theorem as_isNil27 (a p:Addr) (W:World) (ha:W.cell? a=some (.pointer (some p))) :
  (ReflectliteValue.method (ReflectliteValue.valueError "reflectlite.Value.IsNil" 0) ReflectliteValue.isNil #[.agg #[.pointer (some ⟨14,225,none⟩),.pointer (some a),.int .u64 150]]).run Tryz.prog W = .ok (.bool false) W:=by
 unfold ReflectliteValue.method
 show Sem.run _ (ReflectliteValue.parts (.agg #[.pointer (some ⟨14,225,none⟩),.pointer (some a),.int .u64 150]) >>= _) _=_
 simp only [Sem.run_bind,as_parts27,Result.andThen]
 simp [ReflectliteValue.isNil,loadVar,isAgg,underlying,Tryz.underlying225,ha,Result.andThen]
theorem as_methodElem (h:Value) (w:World):(Go.method 383 210 (.agg #[h]) "Elem").run Tryz.prog w = .ok (229,.agg #[h]) w:=by kernel_rfl
theorem as_methodImplements (h:Value) (w:World):(Go.method 383 210 (.agg #[h]) "Implements").run Tryz.prog w = .ok (230,.agg #[h]) w:=by kernel_rfl
theorem as_methodAssignableTo (h:Value) (w:World):(Go.method 383 210 (.agg #[h]) "AssignableTo").run Tryz.prog w = .ok (227,.agg #[h]) w:=by kernel_rfl
theorem as_elem27 (w:World):(ReflectliteType.method ReflectliteType.elem #[.agg #[.pointer (some ⟨14,225,none⟩)]]).run Tryz.prog w = .ok (.iface 210 (.agg #[.pointer (some ⟨14,157,none⟩)])) w:=by kernel_rfl
theorem as_implements25 (w:World):(ReflectliteType.relation "Implements" ReflectliteType.implements_ #[.agg #[.pointer (some ⟨14,157,none⟩)],.iface 210 (.agg #[.pointer (some ⟨14,112,none⟩)])]).run Tryz.prog w = .ok (.bool true) w:=by kernel_rfl
theorem as_typeOf25 (v:Value) (w:World):(ReflectliteType.typeOf #[.iface 157 v]).run Tryz.prog w = .ok (.iface 210 (.agg #[.pointer (some ⟨14,157,none⟩)])) w:=by kernel_rfl
theorem as_assignable25 (w:World):(ReflectliteType.relation "AssignableTo" ReflectliteType.assignableTo #[.agg #[.pointer (some ⟨14,157,none⟩)],.iface 210 (.agg #[.pointer (some ⟨14,157,none⟩)])]).run Tryz.prog w = .ok (.bool true) w:=by kernel_rfl
theorem as_valueOf25 (e:Addr) (w:World):(ReflectliteValue.unpack (.iface 157 (.pointer (some e)))).run Tryz.prog w
 = .ok (.agg #[.pointer (some ⟨14,157,none⟩),.pointer (some ⟨w.heap.size,0,none⟩),.int .u64 150]) (w.alloc (.cells #[.pointer (some e)] 157)):=by kernel_rfl
theorem as_elemOf27 (w:World):(Rtype.elem? 225).run Tryz.prog w = .ok (some 157) w:=by kernel_rfl
theorem as_mk25 (p:Addr) (w:World):(ReflectliteValue.mk 157 p ReflectliteValue.flagAddr).run Tryz.prog w = .ok (.agg #[.pointer (some ⟨14,157,none⟩),.pointer (some p),.int .u64 406]) w:=by kernel_rfl
theorem as_elemV27 (a p:Addr) (W:World) (ha:W.cell? a=some (.pointer (some p))) :
  (ReflectliteValue.method (ReflectliteValue.valueError "reflectlite.Value.Elem" 0) ReflectliteValue.elem #[.agg #[.pointer (some ⟨14,225,none⟩),.pointer (some a),.int .u64 150]]).run Tryz.prog W
   = .ok (.agg #[.pointer (some ⟨14,157,none⟩),.pointer (some p),.int .u64 406]) W:=by
 unfold ReflectliteValue.method
 show Sem.run _ (ReflectliteValue.parts (.agg #[.pointer (some ⟨14,225,none⟩),.pointer (some a),.int .u64 150]) >>= _) _=_
 simp only [Sem.run_bind,as_parts27,Result.andThen]
 simp [ReflectliteValue.elem,loadVar,isAgg,underlying,Tryz.underlying225,ha,Result.andThen,as_elemOf27,as_mk25]
theorem as_parts25a (a:Addr) (w:World):(ReflectliteValue.parts (.agg #[.pointer (some ⟨14,157,none⟩),.pointer (some a),.int .u64 406])).run Tryz.prog w = .ok (some (157,a,406)) w:=by kernel_rfl
theorem as_parts25 (a:Addr) (w:World):(ReflectliteValue.parts (.agg #[.pointer (some ⟨14,157,none⟩),.pointer (some a),.int .u64 150])).run Tryz.prog w = .ok (some (157,a,150)) w:=by kernel_rfl
theorem as_direct25 (w:World):(Rtype.directlyAssignable 157 157).run Tryz.prog w = .ok true w:=by kernel_rfl
theorem as_set25 (ta b e:Addr) (old:Value) (W:World) (hb:W.cell? b=some (.pointer (some e))) (ht:W.cell? ta=some old) (hf:W.frozen? ta=false) :
  (ReflectliteValue.set #[.agg #[.pointer (some ⟨14,157,none⟩),.pointer (some ta),.int .u64 406],.agg #[.pointer (some ⟨14,157,none⟩),.pointer (some b),.int .u64 150]]).run Tryz.prog W
   = .ok (.tuple #[]) (W.setCell ta (.pointer (some e))):=by
 unfold ReflectliteValue.set
 show Sem.run _ (ReflectliteValue.parts (.agg #[.pointer (some ⟨14,157,none⟩),.pointer (some ta),.int .u64 406]) >>= fun y=>ReflectliteValue.parts (.agg #[.pointer (some ⟨14,157,none⟩),.pointer (some b),.int .u64 150]) >>= _) _=_
 simp only [Sem.run_bind,as_parts25a,as_parts25,Result.andThen]
 simp [ReflectliteValue.flagAddr,loadVar,isAgg,underlying,Tryz.underlying157,hb,Result.andThen,as_direct25,storeVar,Value.cells,storeCells,Addr.add]
 rw [run_store Tryz.prog W ta _ _ (by rfl)]
 simp [ht,hf]
set_option maxHeartbeats 4000000 in
theorem as_hit (e t:Addr) (old:Value) (w:World) (hg:w.cell? ⟨12,0,none⟩=some (.iface 210 (.agg #[.pointer (some ⟨14,112,none⟩)]))) (ht0:w.cell? t=some old) (hf0:w.frozen? t=false) :
  Calls Tryz.prog 165 #[.iface 157 (.pointer (some e)),.iface 225 (.pointer (some t))] w fun ev w'=>ev = .returned (.bool true)∧w'=((((w.alloc (.cells #[.pointer (some t)] 225)).alloc (.cells #[.pointer (some ⟨14,225,none⟩),.pointer (some ⟨w.heap.size,0,none⟩),.int .u64 150] 237)).alloc (.cells #[.pointer (some ⟨14,225,none⟩),.pointer (some ⟨w.heap.size,0,none⟩),.int .u64 150] 237)).alloc (.cells #[.pointer (some e)] 157)).setCell t (.pointer (some e)):=by
 have h6:=@run_callFunc_extern Tryz.prog 181 _ (fun args=>ReflectliteValue.unpack (args.getD 0 (.tuple #[]))) Tryz.func181 kR kR kR kR
 have h7:=@run_callFunc_extern Tryz.prog 182 _ (ReflectliteValue.methodAny (ReflectliteValue.valueError "reflectlite.Value.Type" 0) (fun t _ _ _=>ReflectliteType.toType t)) Tryz.func182 kR kR kR kR
 have h8:=@run_callFunc_extern Tryz.prog 183 _ (ReflectliteValue.method (ReflectliteValue.valueError "reflectlite.Value.IsNil" 0) ReflectliteValue.isNil) Tryz.func183 kR kR kR kR
 have h27:=@run_callFunc_extern Tryz.prog 216 _ (ReflectliteType.abiMethod fun t=>do pure (.int .u8 (← Rtype.kind t))) Tryz.func216 kR kR kR kR
 have h37:=@run_callFunc_extern Tryz.prog 229 _ (ReflectliteType.method ReflectliteType.elem) Tryz.func229 kR kR kR kR
 have h38:=@run_callFunc_extern Tryz.prog 230 _ (ReflectliteType.relation "Implements" ReflectliteType.implements_) Tryz.func230 kR kR kR kR
 have h10:=@run_callFunc_extern Tryz.prog 124 _ ReflectliteType.typeOf Tryz.func124 kR kR kR kR
 have h35:=@run_callFunc_extern Tryz.prog 227 _ (ReflectliteType.relation "AssignableTo" ReflectliteType.assignableTo) Tryz.func227 kR kR kR kR
 have h11:=@run_callFunc_extern Tryz.prog 194 _ (ReflectliteValue.method (ReflectliteValue.valueError "reflectlite.Value.Elem" 0) ReflectliteValue.elem) Tryz.func194 kR kR kR kR
 have h12:=@run_callFunc_extern Tryz.prog 195 _ ReflectliteValue.set Tryz.func195 kR kR kR kR
 have tO:=as_typeOf25
 have mA:=as_methodAssignableTo
 have a25:=as_assignable25
 have v25:=as_valueOf25
 have f6:=as_valueOf27
 have f7:=as_type27
 have mK:=as_methodKind
 have mE:=as_methodElem
 have mI:=as_methodImplements
 have k27:=as_kind27
 have k25:=as_kind25
 have e27:=as_elem27
 have i25:=as_implements25
 have n8:=as_isNil27 ⟨w.heap.size,0,none⟩ t ((w.alloc (.cells #[.pointer (some t)] 225)).alloc (.cells #[.pointer (some ⟨14,225,none⟩),.pointer (some ⟨w.heap.size,0,none⟩),.int .u64 150] 237)) (by simp)
 have hlt:12<w.heap.size:=by
  rcases Nat.lt_or_ge 12 w.heap.size with h|h
  ·exact h
  ·simp [World.cell?,Array.getElem?_eq_none h] at hg
 have hg2:((w.alloc (.cells #[.pointer (some t)] 225)).alloc (.cells #[.pointer (some ⟨14,225,none⟩),.pointer (some ⟨w.heap.size,0,none⟩),.int .u64 150] 237)).cell? ⟨12,0,none⟩=some (.iface 210 (.agg #[.pointer (some ⟨14,112,none⟩)])):=by
  rw [World.cell?_alloc_lt _ _ ⟨12,0,none⟩ (by simp; omega),World.cell?_alloc_lt _ _ ⟨12,0,none⟩ hlt]; exact hg
 have htl:t.block<w.heap.size:=by
  rcases Nat.lt_or_ge t.block w.heap.size with h|h
  ·exact h
  ·simp [World.cell?,Array.getElem?_eq_none h] at ht0
 have el:=as_elemV27 ⟨w.heap.size,0,none⟩ t (((w.alloc (.cells #[.pointer (some t)] 225)).alloc (.cells #[.pointer (some ⟨14,225,none⟩),.pointer (some ⟨w.heap.size,0,none⟩),.int .u64 150] 237)).alloc (.cells #[.pointer (some ⟨14,225,none⟩),.pointer (some ⟨w.heap.size,0,none⟩),.int .u64 150] 237)) (by rw [World.cell?_alloc_lt _ _ ⟨w.heap.size,0,none⟩ (by simp; omega)]; simp)
 have st:=as_set25 t ⟨w.heap.size+1+1+1,0,none⟩ e old ((((w.alloc (.cells #[.pointer (some t)] 225)).alloc (.cells #[.pointer (some ⟨14,225,none⟩),.pointer (some ⟨w.heap.size,0,none⟩),.int .u64 150] 237)).alloc (.cells #[.pointer (some ⟨14,225,none⟩),.pointer (some ⟨w.heap.size,0,none⟩),.int .u64 150] 237)).alloc (.cells #[.pointer (some e)] 157))
  (by rw [World.cell?_alloc_at _ _ _ _ (by simp)]; rfl)
  (by rw [World.cell?_alloc_lt _ _ t (by simp; omega),World.cell?_alloc_lt _ _ t (by simp; omega),World.cell?_alloc_lt _ _ t (by simp; omega),World.cell?_alloc_lt _ _ t htl]; exact ht0)
  (by rw [World.frozen?_alloc_old _ _ t (by simp; omega),World.frozen?_alloc_old _ _ t (by simp; omega),World.frozen?_alloc_old _ _ t (by simp; omega),World.frozen?_alloc_old _ _ t (Nat.ne_of_lt htl)]; exact hf0)
 go_enter Tryz.func165,Tryz.ntmps165
 go_wp2
 refine wp_loop_rounds 1 ?_
 rw [rounds_succ]
 go_wp2
 go_ret
 exact ⟨rfl,rfl⟩
theorem place_nil (w:World):Calls Tryz.prog 138 #[.nilIface] w fun r w'=>r = .returned (.int .i64 0)∧Below w.heap.size w w':=by
 go_enter Tryz.func138,Tryz.ntmps138
 go_wp2_with (go_at_call 165; refine (as_nil _ _).mono ?_; rintro e w' ⟨rfl,rfl⟩)
 go_ret
 exact ⟨rfl,(Below.refl _ _).alloc (Nat.le_refl _) _⟩
theorem place_fault (b off:Nat) (at_:Int) (w:World) (hT:w.cell? ⟨12,0,none⟩=some (.iface 210 (.agg #[.pointer (some ⟨14,112,none⟩)]))) (hlow:12<w.heap.size) (hb:b<w.heap.size) (h1:w.cell? ⟨b,off+1,none⟩=some (.int .i64 at_)) :
  Calls Tryz.prog 138 #[.iface 157 (.pointer (some ⟨b,off,none⟩))] w fun r w'=>r = .returned (.int .i64 at_)∧Below w.heap.size w w':=by
 have hT1:(w.alloc (.cells #[.pointer none] 157)).cell? ⟨12,0,none⟩=some (.iface 210 (.agg #[.pointer (some ⟨14,112,none⟩)])):=by
  rw [World.cell?_alloc_lt _ _ ⟨12,0,none⟩ hlow]; exact hT
 have ht:(w.alloc (.cells #[.pointer none] 157)).cell? ⟨w.heap.size,0,none⟩=some (.pointer none):=by simp
 have hf:(w.alloc (.cells #[.pointer none] 157)).frozen? ⟨w.heap.size,0,none⟩=false:=frozen_of_row _ _ _ _ _ (heap_alloc_new w _)
 have R:=hid (as_hit ⟨b,off,none⟩ ⟨w.heap.size,0,none⟩ (.pointer none) (w.alloc (.cells #[.pointer none] 157)) hT1 ht hf)
 clear hT hT1 ht hf
 go_enter Tryz.func138,Tryz.ntmps138
 go_wp2_with (go_at_call 165; refine stop ?_)
 unfold Stop
 refine (R.out).mono ?_
 rintro e w' ⟨rfl,hw⟩
 have hb1:Below w.heap.size w w':=by
  rw [hw]
  refine Below.setCell ?_ (p:=⟨w.heap.size,0,none⟩) (Nat.le_refl _) _
  have s1:w.heap.size≤(w.alloc (.cells #[.pointer none] 157)).heap.size:=by simp
  exact ((((((Below.refl _ _).alloc (Nat.le_refl _) _).alloc (by simp) _).alloc (by simp; omega) _).alloc (by simp; omega) _).alloc (by simp; omega) _)
 have hc:w'.cell? ⟨w.heap.size,0,none⟩=some (.pointer (some ⟨b,off,none⟩)):=by
  rw [hw]
  refine World.cell?_setCell_same _ _ _ (u := .pointer none) ?_
  refine (Below.cell (B:=(w.alloc (.cells #[.pointer none] 157)).heap.size) (((((Below.refl _ _).alloc (Nat.le_refl _) _).alloc (by simp) _).alloc (by simp) _).alloc (by simp) _) (by simp)).trans ?_
  simp
 have hd:w'.cell? ⟨b,off+1,none⟩=some (.int .i64 at_):=by
  rw [hb1.cell hb]; exact h1
 clear hw R
 go_wp2
 go_ret
 exact ⟨rfl,hb1⟩
theorem noIsW (v:Value) (xT:TypeId) (w:World):(Instr.typeAssert (.iface 157 v) xT 212 true).run Tryz.prog w = .ok (.tuple #[.nilIface,.bool false]) w:=run_typeAssert_lacksB Tryz.underlying212 kR kR v xT w
theorem hasUnwrapW (v:Value) (xT:TypeId) (w:World):(Instr.typeAssert (.iface 157 v) xT 215 true).run Tryz.prog w = .ok (.tuple #[.iface 157 v,.bool true]) w:=run_typeAssert_hasB Tryz.underlying215 kR v xT w
theorem methodUnwrap (v:Value) (w:World):(Go.method 383 157 v "Unwrap").run Tryz.prog w = .ok (222,v) w:=by kernel_rfl
theorem is_wrap_same (pb off:Nat) (b:Addr) (w:World) (h1:w.cell? ⟨pb,off,none⟩=some (.iface 251 (.pointer (some b)))) :
  Calls Tryz.prog 93 #[.iface 157 (.pointer (some ⟨pb,off,none⟩)),.iface 251 (.pointer (some b))] w fun e w'=>e = .returned (.bool true)∧w=w':=by
 obtain ⟨i,hi,hcmp⟩:=Option.map_eq_some_iff.1 isComp
 obtain ⟨j,hj,hjs⟩:=Option.map_eq_some_iff.1 isSize
 have h8:=@run_callFunc_extern Tryz.prog 124 _ Extern.ReflectliteType.typeOf Tryz.func124 kR kR kR kR
 have h32:=@run_callFunc_extern Tryz.prog 228 _ cmpE Tryz.func228 kR kR kR kR
 have tT:=isTypeOf
 have cT:=isComparable
 have mR:=isMethodComparable
 have nE:=noIsE
 have uE:=noUnwrapE
 have vE:=noUnwrapsE
 have nW:=noIsW
 have uW:=hasUnwrapW
 have mU:=methodUnwrap
 have heq:=run_eql_iface_ptr_same (P:=Tryz.prog) w b Tryz.underlying112 Tryz.underlying251 hi hcmp hj
 have hty:=run_eql_iface_types (P:=Tryz.prog) 157 251 (.pointer (some ⟨pb,off,none⟩)) (.pointer (some b)) Tryz.underlying112 (by decide) w
 go_enter Tryz.func93,Tryz.ntmps93
 go_wp2
 refine wp_loop_rounds 2 ?_
 rw [rounds_succ]
 go_wp2
 rw [rounds_succ]
 go_wp2
 go_ret
 exact ⟨rfl,rfl⟩
end Go.Proofs.YtdomlccfjnkbjaaGreatDoor.BdF
