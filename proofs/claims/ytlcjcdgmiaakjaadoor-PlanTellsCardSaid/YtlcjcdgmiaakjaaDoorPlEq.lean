/- Two ports compared with == and !=. -/
import Derived.Test.YtlcjcdgmiaakjaaDoorPlSort
import Derived.Test.YtlcjcdgmiaakjaaDoorDpStr
import Derived.Laws.StructEq
import Derived.ChangeKeysEq
namespace Go.Proofs.YtlcjcdgmiaakjaaDoor.Pl
open Go.RowKit Go.Proofs.YtlcjcdgmiaakjaaDoor.Sm Go.Proofs.YtlcjcdgmiaakjaaDoor.Dp
open Go.Proofs.YtlcjcdgmiaakjaaDoor.Ev (Obl opnds dstB PT nx pt_put undef_bool pickB isRow_false seenL seenR seen_all resRun)
set_option maxHeartbeats 1000000
set_option maxRecDepth 100000
set_option linter.unusedVariables false
set_option linter.unusedSimpArgs false
def Port.eqB (p q : Port) : Bool := (p.node == q.node) && ((p.link == q.link) && ((p.gate == q.gate) && (p.side == q.side)))
theorem Port.eqB_self (p : Port) : p.eqB p = true := by simp [Port.eqB]
theorem Port.eqB_true (p q : Port) : p.eqB q = true ↔ p = q := by
  obtain ⟨a, b, c, d⟩ := p
  obtain ⟨a', b', c', d'⟩ := q
  simp [Port.eqB]
def Port.v (p : Port) : Value := .agg #[.int .i64 p.node, .int .i64 p.link, .int .i64 p.gate, .int .i64 p.side]
theorem fieldsPort : (Tryd.prog.fieldsOf 35).toList.map (fun f => (f.name != "_", f.type, f.offset)) = [(true, 3, 0), (true, 3, 1), (true, 3, 2), (true, 3, 3)] := by kernel_rfl
theorem undPort : Tryd.prog.underlying 35 = some (.struct (Tryd.prog.fieldsOf 35)) := by kernel_rfl
theorem heldPort : Tryd.prog.stoodInHeld 35 = false := by kernel_rfl
theorem guardPort : Tryd.prog.eqGuardType Tryd.prog.depth 35 = false := by kernel_rfl
theorem partInt (w : World) (vs : Array Value) (i : Nat) (v : Value) (h : vs[i]? = some v) : (part 3 vs i).run Tryd.prog w = .ok v w :=
  run_part_plain w (by kernel_rfl) h
theorem eqInts (w : World) (xs ys : Array Value) : ∀ (fs : List Field) (l : List (Nat × Int × Int)), fs.map (fun f => (f.name != "_", f.type, f.offset)) = l.map (fun x => (true, 3, x.1)) → (∀ x ∈ l, xs[x.1]? = some (.int .i64 x.2.1) ∧ ys[x.1]? = some (.int .i64 x.2.2)) → (Op.eqFields 9999 xs ys fs).run Tryd.prog w = .ok (l.all fun x => x.2.1 == x.2.2) w
  | [], [], _, _ => rfl
  | [], _ :: _, h, _ => by simp at h
  | _ :: _, [], h, _ => by simp at h
  | f :: fs, x :: l, h, hv => by
    simp only [List.map_cons, List.cons.injEq, Prod.mk.injEq, bne_iff_ne, ne_eq] at h
    obtain ⟨⟨h1, h2, h3⟩, h4⟩ := h
    obtain ⟨k1, k2⟩ := hv x (List.mem_cons_self ..)
    have e : (Op.equalIn 9999 3 (.int .i64 x.2.1) (.int .i64 x.2.2)).run Tryd.prog w = .ok (x.2.1 == x.2.2) w := run_equalIn_int w 9998 3 .i64 .i64 _ _ Tryd.underlying3
    have ih := eqInts w xs ys fs l h4 fun y hy => hv y (List.mem_cons_of_mem _ hy)
    simp only [Op.eqFields, ne_eq, h1, not_false_eq_true, if_true, h2, h3, Sem.run_bind, partInt w xs _ _ k1, partInt w ys _ _ k2, e, Result.andThen_ok, Sem.run_ite]
    by_cases hx : x.2.1 = x.2.2
    · simp [hx, ih]
    · simp [hx]
theorem port_equal (w : World) (p q : Port) : (Op.equalIn 10000 35 p.v q.v).run Tryd.prog w = .ok (p.eqB q) w := by
  unfold Port.v
  rw [run_equalIn_struct w 9999 _ _ _ undPort heldPort, eqInts w _ _ _ [(0, p.node, q.node), (1, p.link, q.link), (2, p.gate, q.gate), (3, p.side, q.side)] fieldsPort (by simp)]
  simp [Port.eqB]
section
variable {κ : Nat → Prop} {B : Base} {N : Nat} {ρ : Own} {s s' : St} {a : Act} {w : World} {ops : Array Oper} {rest : List Oper} {o : Oper} {Q : Exit → St → Prop} {A : List (Nat × Bool)}
theorem rep_port {v : Value} {p : Port} (h : RepO w (okW κ w ρ) ρ (.r (Port.d p)) v) : v = p.v := by
  obtain ⟨us, rfl, hl, hd⟩ := repO_r h
  match us, hl with
  | [u0, u1, u2, u3], _ =>
    have h0 := hd 0 _ _ rfl rfl
    have h1 := hd 1 _ _ rfl rfl
    have h2 := hd 2 _ _ rfl rfl
    have h3 := hd 3 _ _ rfl rfl
    cases h0 with
    | c h0 => cases h0; cases h1 with
      | c h1 => cases h1; cases h2 with
        | c h2 => cases h2; cases h3 with
          | c h3 => cases h3; rfl
theorem eqP_run (hI : Inv κ B ρ s N a w) {p q : Port} {bop : BinOp} {r : Bool} {x y : Operand} {ty : TypeId} (hb : (bop = .eql ∧ r = p.eqB q) ∨ (bop = .neq ∧ r = !p.eqB q)) (hop : o.op = .binOp bop 35 x y ty) (hx : s.look A x = some (.r (Port.d p))) (hy : s.look A y = some (.r (Port.d q))) (hpt : PT a A) : ∃ v, (execOp a.eval o).run Tryd.prog w = .ok (.value v) w ∧ RepO w (okW κ w ρ) ρ (.v (.bool r)) v := by
  have ex := rep_port (look_rep hI hx hpt)
  have ey := rep_port (look_rep hI hy hpt)
  refine ⟨.bool r, ?_, .one (.c (.v _))⟩
  unfold execOp
  simp only [hop, Sem.run_bind, ex, ey]
  have hg : (eqGuard bop 35 x y p.v q.v).run Tryd.prog w = .ok () w := run_eqGuard_agg w bop _ x y _ _ guardPort
  rw [hg, Result.andThen_ok]
  rcases hb with ⟨rfl, rfl⟩ | ⟨rfl, rfl⟩
  · have h2 : (binOp .eql 35 p.v q.v).run Tryd.prog w = .ok (.bool (p.eqB q)) w := by
      unfold Port.v; rw [run_eql_struct]; exact (congrArg (fun r => Result.andThen r _) (port_equal w p q)).trans rfl
    rw [h2, Result.andThen_ok, Sem.run_pure]
  · have h2 : (binOp .neq 35 p.v q.v).run Tryd.prog w = .ok (.bool (!p.eqB q)) w := by
      unfold Port.v; rw [run_neq_struct]; exact (congrArg (fun r => Result.andThen r _) (port_equal w p q)).trans rfl
    rw [h2, Result.andThen_ok, Sem.run_pure]
theorem PL.eqP (p q : Port) (r : Bool) {bop : BinOp} {x y : Operand} {ty : TypeId} (hop : o.op = .binOp bop 35 x y ty) (hb : (bop = .eql ∧ r = p.eqB q) ∨ (bop = .neq ∧ r = !p.eqB q)) (hA : gpath ops s o = some A) (hd : dstB N A o.dst = true) (hx : s.look A x = some (.r (Port.d p))) (hy : s.look A y = some (.r (Port.d q))) (k : PL Tryd.prog N ops rest Q (s.put o.dst A (.v (.bool r)))) : PL Tryd.prog N ops (o :: rest) Q s := fun κ B ρ a w0 w hI hb0 =>
  val_step hI hA hd _ (fun hpt => eqP_run hI hb hop hx hy hpt) fun a' hI' => k κ B ρ a' w0 w hI' hb0
theorem PO1.eqP {hs : List Nat} {n i : Nat} {listed : Array Bool} (p q : Port) (r : Bool) {bop : BinOp} {x y : Operand} {ty : TypeId} (ho : ops[i]? = some o) (hop : o.op = .binOp bop 35 x y ty) (hb : (bop = .eql ∧ r = p.eqB q) ∨ (bop = .neq ∧ r = !p.eqB q)) (hA : gpath ops s o = some A) (hd : dstB N A o.dst = true) (hx : s.look A x = some (.r (Port.d p))) (hy : s.look A y = some (.r (Port.d q))) (h : PO Tryd.prog N ops hs n (listed.setIfInBounds i true) Q (s.put o.dst A (.v (.bool r)))) : PO1 Tryd.prog N ops hs n listed Q s i := fun κ B ρ a w0 w hI hb0 => by
  refine wpOp_of ho (val_step hI hA hd _ (fun hpt => eqP_run hI hb hop hx hy hpt) fun a' hI' => ?_)
  exact ⟨Agree.refl _ _ _, h κ B ρ a' w0 w hI' hb0⟩
end
end Go.Proofs.YtlcjcdgmiaakjaaDoor.Pl
