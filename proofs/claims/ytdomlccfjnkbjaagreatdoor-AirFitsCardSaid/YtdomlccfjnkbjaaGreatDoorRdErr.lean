/- Errors of package frame: what errors.Is answers of a fault that wraps one of the package's own errors. errors.Is by its own text; reflectlite by the model's entries. -/
import Derived.WalkKit
import Derived.LaidEql
import Derived.Stop.Asserts
import Derived.RowKitTokens
import Derived.Test.YtdomlccfjnkbjaaGreatDoorSmA
import Derived.Test.YtdomlccfjnkbjaaGreatDoorAiLaid
namespace Go.Proofs.YtdomlccfjnkbjaaGreatDoor.Pl
open Go.RowKit Go.Extern.Stop Go.Stop Go.Extern Go.Proofs.YtdomlccfjnkbjaaGreatDoor.Sm Go.Proofs.YtdomlccfjnkbjaaGreatDoor.Dp
set_option maxHeartbeats 400000
set_option maxRecDepth 100000
theorem noIsF (v:Value) (xT:TypeId) (w:World):(Instr.typeAssert (.iface 139 v) xT 212 true).run Tryz.prog w = .ok (.tuple #[.nilIface,.bool false]) w:=run_typeAssert_lacksB Tryz.underlying212 kR kR v xT w
theorem hasUnwrapF (v:Value) (xT:TypeId) (w:World):(Instr.typeAssert (.iface 139 v) xT 215 true).run Tryz.prog w = .ok (.tuple #[.iface 139 v,.bool true]) w:=run_typeAssert_hasB Tryz.underlying215 kR v xT w
theorem methodUnwrapF (v:Value) (w:World):(Go.method 383 139 v "Unwrap").run Tryz.prog w = .ok (220,v) w:=by kernel_rfl
theorem is_fr_same (pb off:Nat) (b:Addr) (w:World) (h1:w.cell? ⟨pb,off,none⟩=some (.iface 251 (.pointer (some b)))) :
  Calls Tryz.prog 93 #[.iface 139 (.pointer (some ⟨pb,off,none⟩)),.iface 251 (.pointer (some b))] w fun e w'=>e = .returned (.bool true)∧w=w':=by
 obtain ⟨i,hi,hcmp⟩:=Option.map_eq_some_iff.1 isComp
 obtain ⟨j,hj,hjs⟩:=Option.map_eq_some_iff.1 isSize
 have h8:=@run_callFunc_extern Tryz.prog 124 _ Extern.ReflectliteType.typeOf Tryz.func124 kR kR kR kR
 have h32:=@run_callFunc_extern Tryz.prog 228 _ cmpE Tryz.func228 kR kR kR kR
 have tT:=isTypeOf
 have cT:=isComparable
 have mR:=isMethodComparable
 have nE:=noIsE
 have uE:=noUnwrapE
 have vE:=noUnwrapsE
 have nW:=noIsF
 have uW:=hasUnwrapF
 have mU:=methodUnwrapF
 have heq:=run_eql_iface_ptr_same (P:=Tryz.prog) w b Tryz.underlying112 Tryz.underlying251 hi hcmp hj
 have hty:=run_eql_iface_types (P:=Tryz.prog) 139 251 (.pointer (some ⟨pb,off,none⟩)) (.pointer (some b)) Tryz.underlying112 (by decide) w
 go_enter Tryz.func93,Tryz.ntmps93
 go_wp2
 refine wp_loop_rounds 2 ?_
 rw [rounds_succ]
 go_wp2
 rw [rounds_succ]
 go_wp2
 go_ret
 exact ⟨rfl,rfl⟩
theorem is_fr_other (pb off:Nat) (b a:Addr) (w:World) (h1:w.cell? ⟨pb,off,none⟩=some (.iface 251 (.pointer (some a)))) (hne:a≠b) (ha:∃ ca ta,w.heap[a.block]? = some (.cells ca ta (0,0))) (hb:∃ cb tb,w.heap[b.block]? = some (.cells cb tb (0,0))) :
  Calls Tryz.prog 93 #[.iface 139 (.pointer (some ⟨pb,off,none⟩)),.iface 251 (.pointer (some b))] w fun e w'=>e = .returned (.bool false)∧w=w':=by
 obtain ⟨ca,ta,ha⟩:=ha
 obtain ⟨cb,tb,hb⟩:=hb
 obtain ⟨i,hi,hcmp⟩:=Option.map_eq_some_iff.1 isComp
 obtain ⟨j,hj,hjs⟩:=Option.map_eq_some_iff.1 isSize
 have h8:=@run_callFunc_extern Tryz.prog 124 _ Extern.ReflectliteType.typeOf Tryz.func124 kR kR kR kR
 have h32:=@run_callFunc_extern Tryz.prog 228 _ cmpE Tryz.func228 kR kR kR kR
 have tT:=isTypeOf
 have cT:=isComparable
 have mR:=isMethodComparable
 have nE:=noIsE
 have uE:=noUnwrapE
 have vE:=noUnwrapsE
 have nW:=noIsF
 have uW:=hasUnwrapF
 have mU:=methodUnwrapF
 have heq:=run_eql_iface_ptr_other (P:=Tryz.prog) w Tryz.underlying112 Tryz.underlying251 hi hcmp hj (by rw [hjs]; decide) hne ha hb
 have hty:=run_eql_iface_types (P:=Tryz.prog) 139 251 (.pointer (some ⟨pb,off,none⟩)) (.pointer (some b)) Tryz.underlying112 (by decide) w
 clear ha hb
 go_enter Tryz.func93,Tryz.ntmps93
 go_wp2
 refine wp_loop_rounds 2 ?_
 rw [rounds_succ]
 go_wp2
 rw [rounds_succ]
 go_wp2
 go_ret
 exact ⟨rfl,rfl⟩
theorem fr_Is_pc (e:Nat→Addr) (z:Bool) (k k':Nat) (at_:Int) (hz:z=true) (hk:8≤k∧k<13) (hk':8≤k'∧k'<13):PC Tryz.prog (errG4 e) 93 [D.e z 139 (D.q [sentD e k,I at_] 0),sentD e k'] (· = D.v (.bool (decide (e k=e k')))):=by
 subst hz
 obtain ⟨j,rfl⟩:∃ j,k=8+j:=⟨k-8,by omega⟩
 obtain ⟨j',rfl⟩:∃ j,k'=8+j:=⟨k'-8,by omega⟩
 intro κ w vs h1 h2 h3 h4
 match vs,h3 with
 | [v0,v1],_ =>
  have r0:=h4 0 _ v0 rfl rfl
  have r1:=h4 1 _ v1 rfl rfl
  cases r1 with
  | v _ =>
   cases r0 with
   | e1 r0=>cases r0 with
    | q vals hb hv hd =>
     have c0:=hv 0 (by simp)
     have d0:=hd 0 _ rfl
     generalize hx:vals 0=x0 at c0 d0
     cases d0 with
     | v _ =>
      by_cases hee:e (8+j)=e (8+j')
      ·refine (is_fr_same _ _ (e (8+j')) w (by rw [← hee]; exact c0)).mono ?_
       rintro r w' ⟨rfl,rfl⟩
       exact ⟨_,_,rfl,rfl,by rw [decide_eq_true hee]; exact .v _,Below.refl _ _⟩
      ·refine (is_fr_other _ _ (e (8+j')) (e (8+j)) w c0 hee ((h2 _ (errG4_mem e j oM)).2.2 rfl) ((h2 _ (errG4_mem e j' oM)).2.2 rfl)).mono ?_
       rintro r w' ⟨rfl,rfl⟩
       exact ⟨_,_,rfl,rfl,by rw [decide_eq_false hee]; exact .v _,Below.refl _ _⟩
end Go.Proofs.YtdomlccfjnkbjaaGreatDoor.Pl
