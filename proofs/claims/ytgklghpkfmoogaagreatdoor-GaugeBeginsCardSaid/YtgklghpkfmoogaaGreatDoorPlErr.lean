/- Errors of package plan: what errors.Is answers of a fault that wraps one of the package's own errors. errors.Is by its own text; reflectlite by the model's entries. -/
import Derived.Test.YtgklghpkfmoogaaGreatDoorSmA
import Derived.Test.YtgklghpkfmoogaaGreatDoorPlA
import Derived.WalkKit
import Derived.LaidEql
import Derived.Stop.Asserts
import Derived.RowKitTokens
namespace Go.Proofs.YtgklghpkfmoogaaGreatDoor.Pl
open Go.RowKit Go.Extern.Stop Go.Stop Go.Extern Go.Proofs.YtgklghpkfmoogaaGreatDoor.Sm Go.Proofs.YtgklghpkfmoogaaGreatDoor.Dp
set_option maxHeartbeats 400000
set_option maxRecDepth 100000
theorem isTypeOf (v:Value) (w:World):(Extern.ReflectliteType.typeOf #[.iface 171 v]).run Tryz.prog w = .ok (.iface 154 (.agg #[.pointer (some ⟨9,171,none⟩)])) w:=by kernel_rfl
noncomputable def cmpE:Array Value→Sem Value:=(Extern.find Tryz.f139).getD fun _=>pure undef
theorem isComparable (w:World):(cmpE #[.agg #[.pointer (some ⟨9,171,none⟩)]]).run Tryz.prog w = .ok (.bool true) w:=by kernel_rfl
theorem isMethodComparable (v:Value) (w:World):(Go.method 304 154 v "Comparable").run Tryz.prog w = .ok (139,v) w:=by kernel_rfl
theorem isComp:(Tryz.prog.info? 171).map (·.comparable)=some true:=by kernel_rfl
theorem isSize:(Tryz.prog.info? 192).map (·.size)=some 1:=by kernel_rfl
theorem noIsE (v:Value) (xT:TypeId) (w:World):(Instr.typeAssert (.iface 171 v) xT 166 true).run Tryz.prog w = .ok (.tuple #[.nilIface,.bool false]) w:=run_typeAssert_lacksB Tryz.underlying166 kR kR v xT w
theorem noUnwrapE (v:Value) (xT:TypeId) (w:World):(Instr.typeAssert (.iface 171 v) xT 161 true).run Tryz.prog w = .ok (.tuple #[.nilIface,.bool false]) w:=run_typeAssert_lacksB Tryz.underlying161 kR kR v xT w
theorem noUnwrapsE (v:Value) (xT:TypeId) (w:World):(Instr.typeAssert (.iface 171 v) xT 163 true).run Tryz.prog w = .ok (.tuple #[.nilIface,.bool false]) w:=run_typeAssert_lacksB Tryz.underlying163 kR kR v xT w
theorem noIsW (v:Value) (xT:TypeId) (w:World):(Instr.typeAssert (.iface 101 v) xT 166 true).run Tryz.prog w = .ok (.tuple #[.nilIface,.bool false]) w:=run_typeAssert_lacksB Tryz.underlying166 kR kR v xT w
theorem hasUnwrapW (v:Value) (xT:TypeId) (w:World):(Instr.typeAssert (.iface 101 v) xT 161 true).run Tryz.prog w = .ok (.tuple #[.iface 101 v,.bool true]) w:=run_typeAssert_hasB Tryz.underlying161 kR v xT w
theorem methodUnwrap (v:Value) (w:World):(Go.method 304 101 v "Unwrap").run Tryz.prog w = .ok (133,v) w:=by kernel_rfl
theorem is_wrap_same (pb off:Nat) (b:Addr) (w:World) (h1:w.cell? ⟨pb,off,none⟩=some (.iface 171 (.pointer (some b)))) :
  Calls Tryz.prog 77 #[.iface 101 (.pointer (some ⟨pb,off,none⟩)),.iface 171 (.pointer (some b))] w fun e w'=>e = .returned (.bool true)∧w=w':=by
 obtain ⟨i,hi,hcmp⟩:=Option.map_eq_some_iff.1 isComp
 obtain ⟨j,hj,hjs⟩:=Option.map_eq_some_iff.1 isSize
 have h8:=@run_callFunc_extern Tryz.prog 98 _ Extern.ReflectliteType.typeOf Tryz.func98 kR kR kR kR
 have h32:=@run_callFunc_extern Tryz.prog 139 _ cmpE Tryz.func139 kR kR kR kR
 have tT:=isTypeOf
 have cT:=isComparable
 have mR:=isMethodComparable
 have nE:=noIsE
 have uE:=noUnwrapE
 have vE:=noUnwrapsE
 have nW:=noIsW
 have uW:=hasUnwrapW
 have mU:=methodUnwrap
 have heq:=run_eql_iface_ptr_same (P:=Tryz.prog) w b Tryz.underlying76 Tryz.underlying171 hi hcmp hj
 have hty:=run_eql_iface_types (P:=Tryz.prog) 101 171 (.pointer (some ⟨pb,off,none⟩)) (.pointer (some b)) Tryz.underlying76 (by decide) w
 go_enter Tryz.func77,Tryz.ntmps77
 go_wp2
 refine wp_loop_rounds 2 ?_
 rw [rounds_succ]
 go_wp2
 rw [rounds_succ]
 go_wp2
 go_ret
 exact ⟨rfl,rfl⟩
theorem is_wrap_other (pb off:Nat) (b a:Addr) (w:World) (h1:w.cell? ⟨pb,off,none⟩=some (.iface 171 (.pointer (some a)))) (hne:a≠b) (ha:∃ ca ta,w.heap[a.block]? = some (.cells ca ta (0,0))) (hb:∃ cb tb,w.heap[b.block]? = some (.cells cb tb (0,0))) :
  Calls Tryz.prog 77 #[.iface 101 (.pointer (some ⟨pb,off,none⟩)),.iface 171 (.pointer (some b))] w fun e w'=>e = .returned (.bool false)∧w=w':=by
 obtain ⟨ca,ta,ha⟩:=ha
 obtain ⟨cb,tb,hb⟩:=hb
 obtain ⟨i,hi,hcmp⟩:=Option.map_eq_some_iff.1 isComp
 obtain ⟨j,hj,hjs⟩:=Option.map_eq_some_iff.1 isSize
 have h8:=@run_callFunc_extern Tryz.prog 98 _ Extern.ReflectliteType.typeOf Tryz.func98 kR kR kR kR
 have h32:=@run_callFunc_extern Tryz.prog 139 _ cmpE Tryz.func139 kR kR kR kR
 have tT:=isTypeOf
 have cT:=isComparable
 have mR:=isMethodComparable
 have nE:=noIsE
 have uE:=noUnwrapE
 have vE:=noUnwrapsE
 have nW:=noIsW
 have uW:=hasUnwrapW
 have mU:=methodUnwrap
 have heq:=run_eql_iface_ptr_other (P:=Tryz.prog) w Tryz.underlying76 Tryz.underlying171 hi hcmp hj (by rw [hjs]; decide) hne ha hb
 have hty:=run_eql_iface_types (P:=Tryz.prog) 101 171 (.pointer (some ⟨pb,off,none⟩)) (.pointer (some b)) Tryz.underlying76 (by decide) w
 clear ha hb
 go_enter Tryz.func77,Tryz.ntmps77
 go_wp2
 refine wp_loop_rounds 2 ?_
 rw [rounds_succ]
 go_wp2
 rw [rounds_succ]
 go_wp2
 go_ret
 exact ⟨rfl,rfl⟩
def errG2 (e:Nat→Addr):List (Nat×List D):=(errG e++[(8,[D.v (.iface 154 (.agg #[.pointer (some ⟨9,76,none⟩)]))])])++(List.range 7).map fun k=>((e k).block,[D.any])
theorem errG2_mem (e:Nat→Addr) (k:Nat) (hk:k<7):((e k).block,[D.any]) ∈ errG2 e:=List.mem_append_right _ (List.mem_map.2 ⟨k,List.mem_range.2 hk,rfl⟩)
theorem errG_sub (e:Nat→Addr):∀ x ∈ errG e,x ∈ errG2 e:=fun _ hx=>List.mem_append_left _ (List.mem_append_left _ hx)
theorem errG2_type (e:Nat→Addr):(8,[D.v (.iface 154 (.agg #[.pointer (some ⟨9,76,none⟩)]))]) ∈ errG2 e:=List.mem_append_left _ (List.mem_append_right _ (.head _))
theorem errors_Is_pc (e:Nat→Addr) (k k':Nat) (at_:Int) (hk:k<7) (hk':k'<7):PC Tryz.prog (errG2 e) 77 [D.i 101 (D.q [sentD e k,I at_] 0),sentD e k'] (· = D.v (.bool (decide (e k=e k')))):=by
 intro κ w vs h1 h2 h3 h4
 match vs,h3 with
 | [v0,v1],_ =>
  have r0:=h4 0 _ v0 rfl rfl
  have r1:=h4 1 _ v1 rfl rfl
  cases r1 with
  | v _ =>
   cases r0 with
   | i r0=>cases r0 with
    | q vals hb hv hd =>
     have c0:=hv 0 (by simp)
     have d0:=hd 0 _ rfl
     generalize hx:vals 0=x0 at c0 d0
     cases d0 with
     | v _ =>
      by_cases hee:e k=e k'
      ·refine (is_wrap_same _ _ (e k') w (by rw [← hee]; exact c0)).mono ?_
       rintro r w' ⟨rfl,rfl⟩
       exact ⟨_,_,rfl,rfl,by rw [decide_eq_true hee]; exact .v _,Below.refl _ _⟩
      ·refine (is_wrap_other _ _ (e k') (e k) w c0 hee ((h2 _ (errG2_mem e k hk)).2.2 rfl) ((h2 _ (errG2_mem e k' hk')).2.2 rfl)).mono ?_
       rintro r w' ⟨rfl,rfl⟩
       exact ⟨_,_,rfl,rfl,by rw [decide_eq_false hee]; exact .v _,Below.refl _ _⟩
end Go.Proofs.YtgklghpkfmoogaaGreatDoor.Pl
