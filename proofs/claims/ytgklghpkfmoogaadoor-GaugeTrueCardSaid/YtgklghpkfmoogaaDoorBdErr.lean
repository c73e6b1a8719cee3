/- Errors of package bounds: errors.As at a pointer to a structure's variable; number. -/
import Derived.Test.YtgklghpkfmoogaaDoorBdErrF
import Derived.Test.YtgklghpkfmoogaaDoorBdNil
namespace Go.Proofs.YtgklghpkfmoogaaDoor.BdS
open Go.RowKit Go.Extern.Stop Go.Stop Go.Extern Go.Proofs.YtgklghpkfmoogaaDoor.Sm Go.Proofs.YtgklghpkfmoogaaDoor.Dp Go.Proofs.YtgklghpkfmoogaaDoor.Pl
set_option maxHeartbeats 400000
set_option maxRecDepth 100000
theorem as_methodKind (h:Value) (w:World):(Go.method 261 113 (.agg #[h]) "Kind").run Tryd.prog w = .ok (71,h) w:=by kernel_rfl
theorem as_kind25 (w:World):((ReflectliteType.abiMethod fun t=>(fun a:Nat=>Value.int IntKind.u8 (a:Int)) <$> Rtype.kind t) #[.pointer (some ⟨9,62,none⟩)]).run Tryd.prog w = .ok (.int .u8 22) w:=by kernel_rfl
theorem as_methodElem (h:Value) (w:World):(Go.method 261 113 (.agg #[h]) "Elem").run Tryd.prog w = .ok (85,.agg #[h]) w:=by kernel_rfl
theorem as_methodImplements (h:Value) (w:World):(Go.method 261 113 (.agg #[h]) "Implements").run Tryd.prog w = .ok (86,.agg #[h]) w:=by kernel_rfl
theorem as_methodAssignableTo (h:Value) (w:World):(Go.method 261 113 (.agg #[h]) "AssignableTo").run Tryd.prog w = .ok (83,.agg #[h]) w:=by kernel_rfl
theorem as_implements25 (w:World):(ReflectliteType.relation "Implements" ReflectliteType.implements_ #[.agg #[.pointer (some ⟨9,62,none⟩)],.iface 113 (.agg #[.pointer (some ⟨9,53,none⟩)])]).run Tryd.prog w = .ok (.bool true) w:=by kernel_rfl
theorem as_typeOf25 (v:Value) (w:World):(ReflectliteType.typeOf #[.iface 62 v]).run Tryd.prog w = .ok (.iface 113 (.agg #[.pointer (some ⟨9,62,none⟩)])) w:=by kernel_rfl
theorem as_assignable25 (w:World):(ReflectliteType.relation "AssignableTo" ReflectliteType.assignableTo #[.agg #[.pointer (some ⟨9,62,none⟩)],.iface 113 (.agg #[.pointer (some ⟨9,62,none⟩)])]).run Tryd.prog w = .ok (.bool true) w:=by kernel_rfl
theorem as_valueOf25 (e:Addr) (w:World):(ReflectliteValue.unpack (.iface 62 (.pointer (some e)))).run Tryd.prog w
 = .ok (.agg #[.pointer (some ⟨9,62,none⟩),.pointer (some ⟨w.heap.size,0,none⟩),.int .u64 150]) (w.alloc (.cells #[.pointer (some e)] 62)):=by kernel_rfl
theorem as_mk25 (p:Addr) (w:World):(ReflectliteValue.mk 62 p ReflectliteValue.flagAddr).run Tryd.prog w = .ok (.agg #[.pointer (some ⟨9,62,none⟩),.pointer (some p),.int .u64 406]) w:=by kernel_rfl
theorem as_parts25a (a:Addr) (w:World):(ReflectliteValue.parts (.agg #[.pointer (some ⟨9,62,none⟩),.pointer (some a),.int .u64 406])).run Tryd.prog w = .ok (some (62,a,406)) w:=by kernel_rfl
theorem as_parts25 (a:Addr) (w:World):(ReflectliteValue.parts (.agg #[.pointer (some ⟨9,62,none⟩),.pointer (some a),.int .u64 150])).run Tryd.prog w = .ok (some (62,a,150)) w:=by kernel_rfl
theorem as_direct25 (w:World):(Rtype.directlyAssignable 62 62).run Tryd.prog w = .ok true w:=by kernel_rfl
theorem as_size25 (w:World):(sizeOf 62).run Tryd.prog w = .ok 1 w:=by kernel_rfl
theorem as_set25 (ta b e:Addr) (old:Value) (W:World) (hb:W.cell? b=some (.pointer (some e))) (ht:W.cell? ta=some old) (hf:W.frozen? ta=false) :
  (ReflectliteValue.set #[.agg #[.pointer (some ⟨9,62,none⟩),.pointer (some ta),.int .u64 406],.agg #[.pointer (some ⟨9,62,none⟩),.pointer (some b),.int .u64 150]]).run Tryd.prog W
   = .ok (.tuple #[]) (W.setCell ta (.pointer (some e))):=by
 unfold ReflectliteValue.set
 show Sem.run _ (ReflectliteValue.parts (.agg #[.pointer (some ⟨9,62,none⟩),.pointer (some ta),.int .u64 406]) >>= fun y=>ReflectliteValue.parts (.agg #[.pointer (some ⟨9,62,none⟩),.pointer (some b),.int .u64 150]) >>= _) _=_
 simp only [Sem.run_bind,as_parts25a,as_parts25,Result.andThen]
 simp [ReflectliteValue.flagAddr,loadVar,isAgg,underlying,Tryd.underlying62,hb,Result.andThen,as_direct25,storeVar,Value.cells,storeCells,Addr.add]
 rw [run_store Tryd.prog W ta _ _ (by rfl)]
 simp [ht,hf]
theorem assign_fault (w:World):(ReflectliteType.relation "AssignableTo" ReflectliteType.assignableTo #[.agg #[.pointer (some ⟨9,61,none⟩)],.iface 113 (.agg #[.pointer (some ⟨9,62,none⟩)])]).run Tryd.prog w = .ok (.bool false) w:=by kernel_rfl
theorem assign_err (w:World):(ReflectliteType.relation "AssignableTo" ReflectliteType.assignableTo #[.agg #[.pointer (some ⟨9,128,none⟩)],.iface 113 (.agg #[.pointer (some ⟨9,62,none⟩)])]).run Tryd.prog w = .ok (.bool false) w:=by kernel_rfl
theorem noAsF (v:Value) (xT:TypeId) (w:World):(Instr.typeAssert (.iface 61 v) xT 125 true).run Tryd.prog w = .ok (.tuple #[.nilIface,.bool false]) w:=run_typeAssert_lacksB Tryd.underlying125 kR kR v xT w
theorem noAsE (v:Value) (xT:TypeId) (w:World):(Instr.typeAssert (.iface 128 v) xT 125 true).run Tryd.prog w = .ok (.tuple #[.nilIface,.bool false]) w:=run_typeAssert_lacksB Tryd.underlying125 kR kR v xT w
end Go.Proofs.YtgklghpkfmoogaaDoor.BdS
