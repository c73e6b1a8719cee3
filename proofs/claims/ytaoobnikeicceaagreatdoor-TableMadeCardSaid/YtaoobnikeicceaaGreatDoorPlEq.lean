/- Two ports compared with == and !=. -/
import Derived.Test.YtaoobnikeicceaaGreatDoorPlS
import Derived.Test.YtaoobnikeicceaaGreatDoorDpC
import Derived.Laws.StructEq
import Derived.ChangeKeysEq
namespace Go.Proofs.YtaoobnikeicceaaGreatDoor.Pl
open Go.RowKit Go.Proofs.YtaoobnikeicceaaGreatDoor.Sm Go.Proofs.YtaoobnikeicceaaGreatDoor.Dp
open Go.Proofs.YtaoobnikeicceaaGreatDoor.Ev (Obl opnds dstB PT nx pt_put undef_bool pickB isRow_false seenL seenR seen_all resRun)
set_option maxHeartbeats 1000000
set_option maxRecDepth 100000
set_option linter.unusedVariables false
set_option linter.unusedSimpArgs false
def Port.eqB (p q : Port) : Bool := (p.node == q.node) && ((p.link == q.link) && ((p.gate == q.gate) && (p.side == q.side)))
theorem Port.eqB_self (p : Port) : p.eqB p = true := by simp [Port.eqB]
def Port.v (p : Port) : Value := .agg #[.int .i64 p.node, .int .i64 p.link, .int .i64 p.gate, .int .i64 p.side]
theorem partInt (w : World) (vs : Array Value) (i : Nat) (v : Value) (h : vs[i]? = some v) : (part 3 vs i).run Tryz.prog w = .ok v w :=
  run_part_plain w (by kernel_rfl) h
theorem eqInts (w : World) (xs ys : Array Value) : ∀ (fs : List Field) (l : List (Nat × Int × Int)), fs.map (fun f => (f.name != "_", f.type, f.offset)) = l.map (fun x => (true, 3, x.1)) → (∀ x ∈ l, xs[x.1]? = some (.int .i64 x.2.1) ∧ ys[x.1]? = some (.int .i64 x.2.2)) → (Op.eqFields 9999 xs ys fs).run Tryz.prog w = .ok (l.all fun x => x.2.1 == x.2.2) w
  | [], [], _, _ => rfl
  | [], _ :: _, h, _ => by simp at h
  | _ :: _, [], h, _ => by simp at h
  | f :: fs, x :: l, h, hv => by
    simp only [List.map_cons, List.cons.injEq, Prod.mk.injEq, bne_iff_ne, ne_eq] at h
    obtain ⟨⟨h1, h2, h3⟩, h4⟩ := h
    obtain ⟨k1, k2⟩ := hv x (List.mem_cons_self ..)
    have e : (Op.equalIn 9999 3 (.int .i64 x.2.1) (.int .i64 x.2.2)).run Tryz.prog w = .ok (x.2.1 == x.2.2) w := run_equalIn_int w 9998 3 .i64 .i64 _ _ Tryz.underlying3
    have ih := eqInts w xs ys fs l h4 fun y hy => hv y (List.mem_cons_of_mem _ hy)
    simp only [Op.eqFields, ne_eq, h1, not_false_eq_true, if_true, h2, h3, Sem.run_bind, partInt w xs _ _ k1, partInt w ys _ _ k2, e, Result.andThen_ok, Sem.run_ite]
    by_cases hx : x.2.1 = x.2.2
    · simp [hx, ih]
    · simp [hx]
section
variable {κ : Nat → Prop} {B : Base} {N : Nat} {ρ : Own} {s s' : St} {a : Act} {w : World} {ops : Array Oper} {rest : List Oper} {o : Oper} {Q : Exit → St → Prop} {A : List (Nat × Bool)}
end
end Go.Proofs.YtaoobnikeicceaaGreatDoor.Pl
