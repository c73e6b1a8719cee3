/- Deep reckoning, more rules: quotients and remainders by a letter. No function of the program in it. -/
import Derived.Test.YtleflkgdbagmnaaDoorDpInl
namespace Go.Proofs.YtleflkgdbagmnaaDoor.Dp
open Go.RowKit Go.Proofs.YtleflkgdbagmnaaDoor.Sm
open Go.Proofs.YtleflkgdbagmnaaDoor.Ev (Obl opnds dstB PT nx pt_put undef_bool pickB isRow_false seenL seenR seen_all resRun)
set_option maxHeartbeats 1000000
set_option linter.unusedVariables false
section
variable {κ : Nat → Prop} {B : Base} {N : Nat} {ρ : Own} {s s' : St} {a : Act} {w : World} {ops : Array Oper} {rest : List Oper} {o : Oper} {Q : Exit → St → Prop} {A : List (Nat × Bool)} {P : Program}
theorem div_run (hI : Inv κ B ρ s N a w) {bop : BinOp} {k : IntKind} {m n r : Int} {x y : Operand} {t ty : TypeId} (hb : (bop = .quo ∧ r = k.wrap (m.tdiv n)) ∨ (bop = .rem ∧ r = m.tmod n)) (hop : o.op = .binOp bop t x y ty) (hx : s.look A x = some (.v (.int k m))) (hy : s.look A y = some (.v (.int k n))) (hn : n ≠ 0) (hpt : PT a A) : ∃ v, (execOp a.eval o).run P w = .ok (.value v) w ∧ RepO w (okW κ w ρ) ρ (.v (.int k r)) v := by
  have ex := repO_v (look_rep hI hx hpt)
  have ey := repO_v (look_rep hI hy hpt)
  refine ⟨.int k r, ?_, .one (.c (.v _))⟩
  unfold execOp
  simp only [hop, Sem.run_bind, ex, ey]
  rcases hb with ⟨rfl, rfl⟩ | ⟨rfl, rfl⟩
  · have hg : (eqGuard .quo t x y (.int k m) (.int k n)).run P w = .ok () w := rfl
    have h2 : (binOp .quo t (.int k m) (.int k n)).run P w = .ok (.int k (k.wrap (m.tdiv n))) w := by
      simp only [binOp, ne_eq, not_true_eq_false, if_false, Op.intDiv, hn]
      rfl
    rw [hg, Result.andThen_ok, h2, Result.andThen_ok, Sem.run_pure]
  · have hg : (eqGuard .rem t x y (.int k m) (.int k n)).run P w = .ok () w := rfl
    have h2 : (binOp .rem t (.int k m) (.int k n)).run P w = .ok (.int k (m.tmod n)) w := by
      simp only [binOp, ne_eq, not_true_eq_false, if_false, Op.intDiv, hn]
      rfl
    rw [hg, Result.andThen_ok, h2, Result.andThen_ok, Sem.run_pure]
theorem PL.div {bop : BinOp} {k : IntKind} (m n r : Int) {x y : Operand} {t ty : TypeId} (hop : o.op = .binOp bop t x y ty) (hb : (bop = .quo ∧ r = k.wrap (m.tdiv n)) ∨ (bop = .rem ∧ r = m.tmod n)) (hA : gpath ops s o = some A) (hcl : closedB s A = true) (hd : dstB N A o.dst = true) (hx : s.look A x = some (.v (.int k m))) (hy : s.look A y = some (.v (.int k n))) (hn : pathP s A → n ≠ 0) (h : PL P N ops rest Q (s.put o.dst A (.v (.int k r)))) : PL P N ops (o :: rest) Q s := fun κ B ρ a w0 w hI hb0 =>
  val_step hI hA hd _ (fun hpt => div_run hI hb hop hx hy (hn (path_of hI (closedB_of hcl) hpt)) hpt) fun a' hI' => h κ B ρ a' w0 w hI' hb0
theorem PO1.div {hs : List Nat} {u i : Nat} {listed : Array Bool} {bop : BinOp} {k : IntKind} (m n r : Int) {x y : Operand} {t ty : TypeId} (ho : ops[i]? = some o) (hop : o.op = .binOp bop t x y ty) (hb : (bop = .quo ∧ r = k.wrap (m.tdiv n)) ∨ (bop = .rem ∧ r = m.tmod n)) (hA : gpath ops s o = some A) (hcl : closedB s A = true) (hd : dstB N A o.dst = true) (hx : s.look A x = some (.v (.int k m))) (hy : s.look A y = some (.v (.int k n))) (hn : pathP s A → n ≠ 0) (h : PO P N ops hs u (listed.setIfInBounds i true) Q (s.put o.dst A (.v (.int k r)))) : PO1 P N ops hs u listed Q s i := fun κ B ρ a w0 w hI hb0 => by
  refine wpOp_of ho (val_step hI hA hd _ (fun hpt => div_run hI hb hop hx hy (hn (path_of hI (closedB_of hcl) hpt)) hpt) fun a' hI' => ?_)
  exact ⟨Agree.refl _ _ _, h κ B ρ a' w0 w hI' hb0⟩
/-! ### a nil slice in a struct is a list of nothing -/
/-! ### ways that meet again -/
def JoinR {α : Type} (st : α → St) (I : α → Prop) (ds : List Nat) (m : Nat) (s' : St) : Prop := ∃ x' s1, s'.sel ds m = s1 ∧ s1.underB m = true ∧ Rem s1 (st x') ∧ I x'
theorem JoinR.of {α : Type} {st : α → St} {I : α → Prop} {ds : List Nat} {m : Nat} {s1 : St} (x' : α) (h : s'.sel ds m = s1) (hu : s1.underB m = true) (hs : Rem s1 (st x')) (hI : I x') : JoinR st I ds m s' := ⟨x', s1, h, hu, hs, hI⟩
theorem PW.join {α : Type} {x y : Code} (st : α → St) (I : α → Prop) (ds : List Nat) (m : Nat) (hy : ∀ z, I z → PW P N y Q (st z)) (hx : PW P N x (thenD (JoinR st I ds m) Q) s) : PW P N (.seq x y) Q s := by
  refine PW.seq (PW.mono hx fun e s1 h => ?_)
  cases e with
  | normal =>
    obtain ⟨z, s2, h1, h2, h3, h4⟩ := h
    exact PW.sel ds m h1 h2 (PW.rem h3 (hy z h4))
  | _ => exact h
/-! ### what a variable holds, forgotten -/
theorem PI.more {G : List (Nat × List D)} {f : FuncId} {ds : List D} {mem : List Obj} {R : D → List Obj → Prop} (h : PI P [] f ds mem R) : PI P G f ds mem R := fun κ w ρ vs h1 h2 _ h4 h5 => h κ w ρ vs h1 h2 (fun x hx => (nomatch hx)) h4 h5
/-! ### what is lent to be read alone, with a result of several plain values -/
def vsOnly : List D → Bool
  | [] => true
  | .v _ :: r => vsOnly r
  | _ => false
def D.plain : D → Bool
  | .v _ => true
  | .t cs => vsOnly cs
  | .r cs => vsOnly cs
  | _ => false
theorem vsOnly_get : ∀ {cs : List D}, vsOnly cs = true → ∀ (j : Nat) (d : D), cs[j]? = some d → ∃ x, d = .v x
  | [], _, j, d, h => by simp at h
  | c :: r, hv, j, d, h => by
    cases c with
    | v x =>
      cases j with
      | zero => simp at h; exact ⟨x, h.symm⟩
      | succ j => exact vsOnly_get (cs := r) hv j d (by simpa using h)
    | _ => cases hv
theorem RepC.plain {w w' : World} {ok ok' : Nat → Prop} {d : D} {v : Value} (h : RepC w ok d v) (hp : d.plain = true) : RepC w' ok' d v := by
  cases h with
  | v => exact .v _
  | r hl hd =>
    refine .r hl fun j d v h1 h2 => ?_
    obtain ⟨x, rfl⟩ := vsOnly_get hp j d h1
    have := hd j _ v h1 h2
    cases this
    exact .v _
  | t hl hd =>
    refine .t hl fun j d v h1 h2 => ?_
    obtain ⟨x, rfl⟩ := vsOnly_get hp j d h1
    have := hd j _ v h1 h2
    cases this
    exact .v _
  | _ => cases hp
theorem borrowT_core {G : List (Nat × List D)} {f : FuncId} {ds ds0 : List D} {ps : List Prop} (hI : Inv κ B ρ s N a w) (hp : PT a A) (hc : callD P s A o = some (f, ds0)) (hcl : closeA { s with fx := 0 } ds0 = some (ds, ps)) (hps : andL ps) (hG : s.gl = G) {R : D → Prop} (hpc : PC P G f ds R) (hR : ∀ d, R d → d.plain = true) :
    ∃ vs : List Value, (execOp a.eval o).run P w = .ok (.enter f vs.toArray) w ∧ Calls P f vs.toArray w fun e w' => ∃ v d, e = .returned v ∧ R d ∧ (∀ w ok, RepC w ok d v) ∧ Below w.heap.size w w' := by
  obtain ⟨vs, h1, h2, h3⟩ := run_call hI hp hc
  have hW := hI.wide
  obtain ⟨q1, q2⟩ := closeA_rep hW hcl h2 (fun j d u k1 k2 => (h3 j d u k1 k2).keep fun g hg => ⟨⟨trivial, hg.1.2⟩, hg.2⟩) (andL_all hps)
  refine ⟨vs, h1, (hpc (okA (fun _ => True) ⟨0, []⟩ w) w vs (fun g hg => hg.1.2) (fun y hy => (hI.gl y (by rw [hG]; exact hy)).mono fun g hg => ⟨⟨⟨trivial, hg.1.2⟩, fun ⟨i, x, h, _⟩ => by simp at h⟩, rfl⟩) q1 q2).mono ?_⟩
  rintro e w' ⟨v, d, rfl, hr, hrep, hb⟩
  exact ⟨v, d, rfl, hr, fun _ _ => hrep.plain (hR d hr), hb⟩
theorem PL.borrowT {G : List (Nat × List D)} {f : FuncId} {ds ds0 : List D} {ps : List Prop} (hA : gpath ops s o = some []) (hd : dstB N [] o.dst = true) (hc : callD P s [] o = some (f, ds0)) (hcl : closeA { s with fx := 0 } ds0 = some (ds, ps)) (hps : andL ps) (hG : s.gl = G) {R : D → Prop} (hpc : PC P G f ds R) (hR : ∀ d, R d → d.plain = true) (k : ∀ d, R d → PL P N ops rest Q (s.put o.dst [] d)) : PL P N ops (o :: rest) Q s := fun κ B ρ a w0 w hI hb0 => by
  obtain ⟨vs, h1, h2⟩ := borrowT_core hI pt_nil hc hcl hps hG hpc hR
  refine BigFrame.wpList_want (gpath_nil hI hA) fun K hK => ?_
  unfold Oper.wp
  rw [h1, Oper.upon_enter]
  refine h2.mono ?_
  rintro e w' ⟨v, d, rfl, hr, hrep, hb⟩
  exact hK _ _ (k _ hr κ B ρ _ w0 w' (inv_put (hI.later hb) hd (fun _ => .one (.c (hrep _ _))) fun h => absurd pt_nil h) (hb0.trans (BelB.of_below hb hI.big)))
end
end Go.Proofs.YtleflkgdbagmnaaDoor.Dp
