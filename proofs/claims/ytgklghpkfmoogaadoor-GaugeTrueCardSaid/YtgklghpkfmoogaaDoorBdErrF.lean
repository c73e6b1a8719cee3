/- Errors of package bounds: what errors.Is and errors.As answer of its faults; number and place. errors.Is and errors.As by their own texts; reflectlite by the model's entries (as in package plan). -/
import Derived.Test.YtgklghpkfmoogaaDoorPlAs
namespace Go.Proofs.YtgklghpkfmoogaaDoor.BdF
open Go.RowKit Go.Extern.Stop Go.Stop Go.Extern Go.Proofs.YtgklghpkfmoogaaDoor.Sm Go.Proofs.YtgklghpkfmoogaaDoor.Dp Go.Proofs.YtgklghpkfmoogaaDoor.Pl
set_option maxHeartbeats 400000
set_option maxRecDepth 100000
theorem as_methodKind (h:Value) (w:World):(Go.method 261 113 (.agg #[h]) "Kind").run Tryd.prog w = .ok (71,h) w:=by kernel_rfl
theorem as_kind25 (w:World):((ReflectliteType.abiMethod fun t=>(fun a:Nat=>Value.int IntKind.u8 (a:Int)) <$> Rtype.kind t) #[.pointer (some ⟨9,61,none⟩)]).run Tryd.prog w = .ok (.int .u8 22) w:=by kernel_rfl
theorem as_methodElem (h:Value) (w:World):(Go.method 261 113 (.agg #[h]) "Elem").run Tryd.prog w = .ok (85,.agg #[h]) w:=by kernel_rfl
theorem as_methodImplements (h:Value) (w:World):(Go.method 261 113 (.agg #[h]) "Implements").run Tryd.prog w = .ok (86,.agg #[h]) w:=by kernel_rfl
theorem as_methodAssignableTo (h:Value) (w:World):(Go.method 261 113 (.agg #[h]) "AssignableTo").run Tryd.prog w = .ok (83,.agg #[h]) w:=by kernel_rfl
theorem as_implements25 (w:World):(ReflectliteType.relation "Implements" ReflectliteType.implements_ #[.agg #[.pointer (some ⟨9,61,none⟩)],.iface 113 (.agg #[.pointer (some ⟨9,53,none⟩)])]).run Tryd.prog w = .ok (.bool true) w:=by kernel_rfl
theorem as_typeOf25 (v:Value) (w:World):(ReflectliteType.typeOf #[.iface 61 v]).run Tryd.prog w = .ok (.iface 113 (.agg #[.pointer (some ⟨9,61,none⟩)])) w:=by kernel_rfl
theorem as_assignable25 (w:World):(ReflectliteType.relation "AssignableTo" ReflectliteType.assignableTo #[.agg #[.pointer (some ⟨9,61,none⟩)],.iface 113 (.agg #[.pointer (some ⟨9,61,none⟩)])]).run Tryd.prog w = .ok (.bool true) w:=by kernel_rfl
theorem as_valueOf25 (e:Addr) (w:World):(ReflectliteValue.unpack (.iface 61 (.pointer (some e)))).run Tryd.prog w
 = .ok (.agg #[.pointer (some ⟨9,61,none⟩),.pointer (some ⟨w.heap.size,0,none⟩),.int .u64 150]) (w.alloc (.cells #[.pointer (some e)] 61)):=by kernel_rfl
theorem as_mk25 (p:Addr) (w:World):(ReflectliteValue.mk 61 p ReflectliteValue.flagAddr).run Tryd.prog w = .ok (.agg #[.pointer (some ⟨9,61,none⟩),.pointer (some p),.int .u64 406]) w:=by kernel_rfl
theorem as_parts25a (a:Addr) (w:World):(ReflectliteValue.parts (.agg #[.pointer (some ⟨9,61,none⟩),.pointer (some a),.int .u64 406])).run Tryd.prog w = .ok (some (61,a,406)) w:=by kernel_rfl
theorem as_parts25 (a:Addr) (w:World):(ReflectliteValue.parts (.agg #[.pointer (some ⟨9,61,none⟩),.pointer (some a),.int .u64 150])).run Tryd.prog w = .ok (some (61,a,150)) w:=by kernel_rfl
theorem as_direct25 (w:World):(Rtype.directlyAssignable 61 61).run Tryd.prog w = .ok true w:=by kernel_rfl
theorem as_size25 (w:World):(sizeOf 61).run Tryd.prog w = .ok 1 w:=by kernel_rfl
theorem as_set25 (ta b e:Addr) (old:Value) (W:World) (hb:W.cell? b=some (.pointer (some e))) (ht:W.cell? ta=some old) (hf:W.frozen? ta=false) :
  (ReflectliteValue.set #[.agg #[.pointer (some ⟨9,61,none⟩),.pointer (some ta),.int .u64 406],.agg #[.pointer (some ⟨9,61,none⟩),.pointer (some b),.int .u64 150]]).run Tryd.prog W
   = .ok (.tuple #[]) (W.setCell ta (.pointer (some e))):=by
 unfold ReflectliteValue.set
 show Sem.run _ (ReflectliteValue.parts (.agg #[.pointer (some ⟨9,61,none⟩),.pointer (some ta),.int .u64 406]) >>= fun y=>ReflectliteValue.parts (.agg #[.pointer (some ⟨9,61,none⟩),.pointer (some b),.int .u64 150]) >>= _) _=_
 simp only [Sem.run_bind,as_parts25a,as_parts25,Result.andThen]
 simp [ReflectliteValue.flagAddr,loadVar,isAgg,underlying,Tryd.underlying61,hb,Result.andThen,as_direct25,storeVar,Value.cells,storeCells,Addr.add]
 rw [run_store Tryd.prog W ta _ _ (by rfl)]
 simp [ht,hf]
theorem noIsW (v:Value) (xT:TypeId) (w:World):(Instr.typeAssert (.iface 61 v) xT 115 true).run Tryd.prog w = .ok (.tuple #[.nilIface,.bool false]) w:=run_typeAssert_lacksB Tryd.underlying115 kR kR v xT w
theorem hasUnwrapW (v:Value) (xT:TypeId) (w:World):(Instr.typeAssert (.iface 61 v) xT 118 true).run Tryd.prog w = .ok (.tuple #[.iface 61 v,.bool true]) w:=run_typeAssert_hasB Tryd.underlying118 kR v xT w
theorem methodUnwrap (v:Value) (w:World):(Go.method 261 61 v "Unwrap").run Tryd.prog w = .ok (75,v) w:=by kernel_rfl
theorem is_wrap_same (pb off:Nat) (b:Addr) (w:World) (h1:w.cell? ⟨pb,off,none⟩=some (.iface 128 (.pointer (some b)))) :
  Calls Tryd.prog 42 #[.iface 61 (.pointer (some ⟨pb,off,none⟩)),.iface 128 (.pointer (some b))] w fun e w'=>e = .returned (.bool true)∧w=w':=by
 obtain ⟨i,hi,hcmp⟩:=Option.map_eq_some_iff.1 isComp
 obtain ⟨j,hj,hjs⟩:=Option.map_eq_some_iff.1 isSize
 have h8:=@run_callFunc_extern Tryd.prog 47 _ Extern.ReflectliteType.typeOf Tryd.func47 kR kR kR kR
 have h32:=@run_callFunc_extern Tryd.prog 84 _ cmpE Tryd.func84 kR kR kR kR
 have tT:=isTypeOf
 have cT:=isComparable
 have mR:=isMethodComparable
 have nE:=noIsE
 have uE:=noUnwrapE
 have vE:=noUnwrapsE
 have nW:=noIsW
 have uW:=hasUnwrapW
 have mU:=methodUnwrap
 have heq:=run_eql_iface_ptr_same (P:=Tryd.prog) w b Tryd.underlying53 Tryd.underlying128 hi hcmp hj
 have hty:=run_eql_iface_types (P:=Tryd.prog) 61 128 (.pointer (some ⟨pb,off,none⟩)) (.pointer (some b)) Tryd.underlying53 (by decide) w
 go_enter Tryd.func42,Tryd.ntmps42
 go_wp2
 refine wp_loop_rounds 2 ?_
 rw [rounds_succ]
 go_wp2
 rw [rounds_succ]
 go_wp2
 go_ret
 exact ⟨rfl,rfl⟩
end Go.Proofs.YtgklghpkfmoogaaDoor.BdF
