/- Two slots compared with == and !=. -/
import Derived.Test.YtaoobnikeicceaaGreatDoorPlEq
import Derived.Test.YtaoobnikeicceaaGreatDoorTbDef
import Derived.Laws.StructEq
import Derived.ChangeKeysEq
namespace Go.Proofs.YtaoobnikeicceaaGreatDoor.Pl
open Go.RowKit Go.Proofs.YtaoobnikeicceaaGreatDoor.Sm Go.Proofs.YtaoobnikeicceaaGreatDoor.Dp
open Go.Proofs.YtaoobnikeicceaaGreatDoor.Ev (Obl opnds dstB PT nx pt_put undef_bool pickB isRow_false seenL seenR seen_all resRun)
set_option maxHeartbeats 1000000
set_option maxRecDepth 100000
set_option linter.unusedVariables false
set_option linter.unusedSimpArgs false
def Slot.eqB (p q : Slot) : Bool := (p.kind == q.kind) && ((p.node == q.node) && ((p.at_ == q.at_)))
theorem Slot.eqB_self (p : Slot) : p.eqB p = true := by simp [Slot.eqB]
def Slot.v (p : Slot) : Value := .agg #[.int .i64 p.kind, .int .i64 p.node, .int .i64 p.at_]
theorem fieldsSlot : (Tryz.prog.fieldsOf 37).toList.map (fun f => (f.name != "_", f.type, f.offset)) = [(true, 3, 0), (true, 3, 1), (true, 3, 2)] := by kernel_rfl
theorem undSlot : Tryz.prog.underlying 37 = some (.struct (Tryz.prog.fieldsOf 37)) := by kernel_rfl
theorem heldSlot : Tryz.prog.stoodInHeld 37 = false := by kernel_rfl
theorem guardSlot : Tryz.prog.eqGuardType Tryz.prog.depth 37 = false := by kernel_rfl
theorem slot_equal (w : World) (p q : Slot) : (Op.equalIn 10000 37 p.v q.v).run Tryz.prog w = .ok (p.eqB q) w := by
  unfold Slot.v
  rw [run_equalIn_struct w 9999 _ _ _ undSlot heldSlot, eqInts w _ _ _ [(0, p.kind, q.kind), (1, p.node, q.node), (2, p.at_, q.at_)] fieldsSlot (by simp)]
  simp [Slot.eqB]
section
variable {κ : Nat → Prop} {B : Base} {N : Nat} {ρ : Own} {s s' : St} {a : Act} {w : World} {ops : Array Oper} {rest : List Oper} {o : Oper} {Q : Exit → St → Prop} {A : List (Nat × Bool)}
theorem rep_slot {v : Value} {p : Slot} (h : RepO w (okW κ w ρ) ρ (.r (Slot.d p)) v) : v = p.v := by
  obtain ⟨us, rfl, hl, hd⟩ := repO_r h
  match us, hl with
  | [u0, u1, u2], _ =>
    have h0 := hd 0 _ _ rfl rfl
    have h1 := hd 1 _ _ rfl rfl
    have h2 := hd 2 _ _ rfl rfl
    cases h0 with
      | c h0 => cases h0; cases h1 with
        | c h1 => cases h1; cases h2 with
          | c h2 => cases h2; rfl
theorem eqS_run (hI : Inv κ B ρ s N a w) {p q : Slot} {bop : BinOp} {r : Bool} {x y : Operand} {ty : TypeId} (hb : (bop = .eql ∧ r = p.eqB q) ∨ (bop = .neq ∧ r = !p.eqB q)) (hop : o.op = .binOp bop 37 x y ty) (hx : s.look A x = some (.r (Slot.d p))) (hy : s.look A y = some (.r (Slot.d q))) (hpt : PT a A) : ∃ v, (execOp a.eval o).run Tryz.prog w = .ok (.value v) w ∧ RepO w (okW κ w ρ) ρ (.v (.bool r)) v := by
  have ex := rep_slot (look_rep hI hx hpt)
  have ey := rep_slot (look_rep hI hy hpt)
  refine ⟨.bool r, ?_, .one (.c (.v _))⟩
  unfold execOp
  simp only [hop, Sem.run_bind, ex, ey]
  have hg : (eqGuard bop 37 x y p.v q.v).run Tryz.prog w = .ok () w := run_eqGuard_agg w bop _ x y _ _ guardSlot
  rw [hg, Result.andThen_ok]
  rcases hb with ⟨rfl, rfl⟩ | ⟨rfl, rfl⟩
  · have h2 : (binOp .eql 37 p.v q.v).run Tryz.prog w = .ok (.bool (p.eqB q)) w := by
      unfold Slot.v; rw [run_eql_struct]; exact (congrArg (fun r => Result.andThen r _) (slot_equal w p q)).trans rfl
    rw [h2, Result.andThen_ok, Sem.run_pure]
  · have h2 : (binOp .neq 37 p.v q.v).run Tryz.prog w = .ok (.bool (!p.eqB q)) w := by
      unfold Slot.v; rw [run_neq_struct]; exact (congrArg (fun r => Result.andThen r _) (slot_equal w p q)).trans rfl
    rw [h2, Result.andThen_ok, Sem.run_pure]
theorem PL.eqS (p q : Slot) (r : Bool) {bop : BinOp} {x y : Operand} {ty : TypeId} (hop : o.op = .binOp bop 37 x y ty) (hb : (bop = .eql ∧ r = p.eqB q) ∨ (bop = .neq ∧ r = !p.eqB q)) (hA : gpath ops s o = some A) (hd : dstB N A o.dst = true) (hx : s.look A x = some (.r (Slot.d p))) (hy : s.look A y = some (.r (Slot.d q))) (k : PL Tryz.prog N ops rest Q (s.put o.dst A (.v (.bool r)))) : PL Tryz.prog N ops (o :: rest) Q s := fun κ B ρ a w0 w hI hb0 =>
  val_step hI hA hd _ (fun hpt => eqS_run hI hb hop hx hy hpt) fun a' hI' => k κ B ρ a' w0 w hI' hb0
theorem PO1.eqS {hs : List Nat} {n i : Nat} {listed : Array Bool} (p q : Slot) (r : Bool) {bop : BinOp} {x y : Operand} {ty : TypeId} (ho : ops[i]? = some o) (hop : o.op = .binOp bop 37 x y ty) (hb : (bop = .eql ∧ r = p.eqB q) ∨ (bop = .neq ∧ r = !p.eqB q)) (hA : gpath ops s o = some A) (hd : dstB N A o.dst = true) (hx : s.look A x = some (.r (Slot.d p))) (hy : s.look A y = some (.r (Slot.d q))) (h : PO Tryz.prog N ops hs n (listed.setIfInBounds i true) Q (s.put o.dst A (.v (.bool r)))) : PO1 Tryz.prog N ops hs n listed Q s i := fun κ B ρ a w0 w hI hb0 => by
  refine wpOp_of ho (val_step hI hA hd _ (fun hpt => eqS_run hI hb hop hx hy hpt) fun a' hI' => ?_)
  exact ⟨Agree.refl _ _ _, h κ B ρ a' w0 w hI' hb0⟩
end
end Go.Proofs.YtaoobnikeicceaaGreatDoor.Pl
