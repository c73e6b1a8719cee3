/- Errors of package plan: what errors.Is answers of a fault that wraps one of the package's own errors. errors.Is by its own text; reflectlite by the model's entries. -/
import Derived.Test.YtgklghpkfmoogaaDoorSmA
import Derived.Test.YtgklghpkfmoogaaDoorPlA
import Derived.WalkKit
import Derived.LaidEql
import Derived.Stop.Asserts
import Derived.RowKitTokens
namespace Go.Proofs.YtgklghpkfmoogaaDoor.Pl
open Go.RowKit Go.Extern.Stop Go.Stop Go.Extern Go.Proofs.YtgklghpkfmoogaaDoor.Sm Go.Proofs.YtgklghpkfmoogaaDoor.Dp
set_option maxHeartbeats 400000
set_option maxRecDepth 100000
theorem isTypeOf (v:Value) (w:World):(Extern.ReflectliteType.typeOf #[.iface 128 v]).run Tryd.prog w = .ok (.iface 113 (.agg #[.pointer (some ⟨9,128,none⟩)])) w:=by kernel_rfl
noncomputable def cmpE:Array Value→Sem Value:=(Extern.find Tryd.f84).getD fun _=>pure undef
theorem isComparable (w:World):(cmpE #[.agg #[.pointer (some ⟨9,128,none⟩)]]).run Tryd.prog w = .ok (.bool true) w:=by kernel_rfl
theorem isMethodComparable (v:Value) (w:World):(Go.method 261 113 v "Comparable").run Tryd.prog w = .ok (84,v) w:=by kernel_rfl
theorem isComp:(Tryd.prog.info? 128).map (·.comparable)=some true:=by kernel_rfl
theorem isSize:(Tryd.prog.info? 150).map (·.size)=some 1:=by kernel_rfl
theorem noIsE (v:Value) (xT:TypeId) (w:World):(Instr.typeAssert (.iface 128 v) xT 115 true).run Tryd.prog w = .ok (.tuple #[.nilIface,.bool false]) w:=run_typeAssert_lacksB Tryd.underlying115 kR kR v xT w
theorem noUnwrapE (v:Value) (xT:TypeId) (w:World):(Instr.typeAssert (.iface 128 v) xT 118 true).run Tryd.prog w = .ok (.tuple #[.nilIface,.bool false]) w:=run_typeAssert_lacksB Tryd.underlying118 kR kR v xT w
theorem noUnwrapsE (v:Value) (xT:TypeId) (w:World):(Instr.typeAssert (.iface 128 v) xT 120 true).run Tryd.prog w = .ok (.tuple #[.nilIface,.bool false]) w:=run_typeAssert_lacksB Tryd.underlying120 kR kR v xT w
theorem noIsW (v:Value) (xT:TypeId) (w:World):(Instr.typeAssert (.iface 76 v) xT 115 true).run Tryd.prog w = .ok (.tuple #[.nilIface,.bool false]) w:=run_typeAssert_lacksB Tryd.underlying115 kR kR v xT w
theorem hasUnwrapW (v:Value) (xT:TypeId) (w:World):(Instr.typeAssert (.iface 76 v) xT 118 true).run Tryd.prog w = .ok (.tuple #[.iface 76 v,.bool true]) w:=run_typeAssert_hasB Tryd.underlying118 kR v xT w
theorem methodUnwrap (v:Value) (w:World):(Go.method 261 76 v "Unwrap").run Tryd.prog w = .ok (78,v) w:=by kernel_rfl
theorem is_wrap_same (pb off:Nat) (b:Addr) (w:World) (h1:w.cell? ⟨pb,off,none⟩=some (.iface 128 (.pointer (some b)))) :
  Calls Tryd.prog 42 #[.iface 76 (.pointer (some ⟨pb,off,none⟩)),.iface 128 (.pointer (some b))] w fun e w'=>e = .returned (.bool true)∧w=w':=by
 obtain ⟨i,hi,hcmp⟩:=Option.map_eq_some_iff.1 isComp
 obtain ⟨j,hj,hjs⟩:=Option.map_eq_some_iff.1 isSize
 have h8:=@run_callFunc_extern Tryd.prog 47 _ Extern.ReflectliteType.typeOf Tryd.func47 kR kR kR kR
 have h32:=@run_callFunc_extern Tryd.prog 84 _ cmpE Tryd.func84 kR kR kR kR
 have tT:=isTypeOf
 have cT:=isComparable
 have mR:=isMethodComparable
 have nE:=noIsE
 have uE:=noUnwrapE
 have vE:=noUnwrapsE
 have nW:=noIsW
 have uW:=hasUnwrapW
 have mU:=methodUnwrap
 have heq:=run_eql_iface_ptr_same (P:=Tryd.prog) w b Tryd.underlying53 Tryd.underlying128 hi hcmp hj
 have hty:=run_eql_iface_types (P:=Tryd.prog) 76 128 (.pointer (some ⟨pb,off,none⟩)) (.pointer (some b)) Tryd.underlying53 (by decide) w
 go_enter Tryd.func42,Tryd.ntmps42
 go_wp2
 refine wp_loop_rounds 2 ?_
 rw [rounds_succ]
 go_wp2
 rw [rounds_succ]
 go_wp2
 go_ret
 exact ⟨rfl,rfl⟩
theorem is_wrap_other (pb off:Nat) (b a:Addr) (w:World) (h1:w.cell? ⟨pb,off,none⟩=some (.iface 128 (.pointer (some a)))) (hne:a≠b) (ha:∃ ca ta,w.heap[a.block]? = some (.cells ca ta (0,0))) (hb:∃ cb tb,w.heap[b.block]? = some (.cells cb tb (0,0))) :
  Calls Tryd.prog 42 #[.iface 76 (.pointer (some ⟨pb,off,none⟩)),.iface 128 (.pointer (some b))] w fun e w'=>e = .returned (.bool false)∧w=w':=by
 obtain ⟨ca,ta,ha⟩:=ha
 obtain ⟨cb,tb,hb⟩:=hb
 obtain ⟨i,hi,hcmp⟩:=Option.map_eq_some_iff.1 isComp
 obtain ⟨j,hj,hjs⟩:=Option.map_eq_some_iff.1 isSize
 have h8:=@run_callFunc_extern Tryd.prog 47 _ Extern.ReflectliteType.typeOf Tryd.func47 kR kR kR kR
 have h32:=@run_callFunc_extern Tryd.prog 84 _ cmpE Tryd.func84 kR kR kR kR
 have tT:=isTypeOf
 have cT:=isComparable
 have mR:=isMethodComparable
 have nE:=noIsE
 have uE:=noUnwrapE
 have vE:=noUnwrapsE
 have nW:=noIsW
 have uW:=hasUnwrapW
 have mU:=methodUnwrap
 have heq:=run_eql_iface_ptr_other (P:=Tryd.prog) w Tryd.underlying53 Tryd.underlying128 hi hcmp hj (by rw [hjs]; decide) hne ha hb
 have hty:=run_eql_iface_types (P:=Tryd.prog) 76 128 (.pointer (some ⟨pb,off,none⟩)) (.pointer (some b)) Tryd.underlying53 (by decide) w
 clear ha hb
 go_enter Tryd.func42,Tryd.ntmps42
 go_wp2
 refine wp_loop_rounds 2 ?_
 rw [rounds_succ]
 go_wp2
 rw [rounds_succ]
 go_wp2
 go_ret
 exact ⟨rfl,rfl⟩
def errG2 (e:Nat→Addr):List (Nat×List D):=(errG e++[(8,[D.v (.iface 113 (.agg #[.pointer (some ⟨9,53,none⟩)]))])])++(List.range 7).map fun k=>((e k).block,[D.any])
theorem errG2_mem (e:Nat→Addr) (k:Nat) (hk:k<7):((e k).block,[D.any]) ∈ errG2 e:=List.mem_append_right _ (List.mem_map.2 ⟨k,List.mem_range.2 hk,rfl⟩)
theorem errG_sub (e:Nat→Addr):∀ x ∈ errG e,x ∈ errG2 e:=fun _ hx=>List.mem_append_left _ (List.mem_append_left _ hx)
theorem errG2_type (e:Nat→Addr):(8,[D.v (.iface 113 (.agg #[.pointer (some ⟨9,53,none⟩)]))]) ∈ errG2 e:=List.mem_append_left _ (List.mem_append_right _ (.head _))
theorem errors_Is_pc (e:Nat→Addr) (k k':Nat) (at_:Int) (hk:k<7) (hk':k'<7):PC Tryd.prog (errG2 e) 42 [D.i 76 (D.q [sentD e k,I at_] 0),sentD e k'] (· = D.v (.bool (decide (e k=e k')))):=by
 intro κ w vs h1 h2 h3 h4
 match vs,h3 with
 | [v0,v1],_ =>
  have r0:=h4 0 _ v0 rfl rfl
  have r1:=h4 1 _ v1 rfl rfl
  cases r1 with
  | v _ =>
   cases r0 with
   | i r0=>cases r0 with
    | q vals hb hv hd =>
     have c0:=hv 0 (by simp)
     have d0:=hd 0 _ rfl
     generalize hx:vals 0=x0 at c0 d0
     cases d0 with
     | v _ =>
      by_cases hee:e k=e k'
      ·refine (is_wrap_same _ _ (e k') w (by rw [← hee]; exact c0)).mono ?_
       rintro r w' ⟨rfl,rfl⟩
       exact ⟨_,_,rfl,rfl,by rw [decide_eq_true hee]; exact .v _,Below.refl _ _⟩
      ·refine (is_wrap_other _ _ (e k') (e k) w c0 hee ((h2 _ (errG2_mem e k hk)).2.2 rfl) ((h2 _ (errG2_mem e k' hk')).2.2 rfl)).mono ?_
       rintro r w' ⟨rfl,rfl⟩
       exact ⟨_,_,rfl,rfl,by rw [decide_eq_false hee]; exact .v _,Below.refl _ _⟩
end Go.Proofs.YtgklghpkfmoogaaDoor.Pl
