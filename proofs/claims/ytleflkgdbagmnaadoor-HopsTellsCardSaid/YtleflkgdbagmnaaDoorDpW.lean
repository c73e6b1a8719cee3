/- Deep reckoning, the same rules in few words: states are not written out, the kernel reckons them. No function of the program in it. -/
import Derived.Test.YtleflkgdbagmnaaDoorDpInl
import Derived.Test.YtleflkgdbagmnaaDoorDpDiv
namespace Go.Proofs.YtleflkgdbagmnaaDoor.Dp
open Go.RowKit Go.Proofs.YtleflkgdbagmnaaDoor.Sm
open Go.Proofs.YtleflkgdbagmnaaDoor.Ev (Obl opnds dstB PT nx pt_put undef_bool pickB isRow_false seenL seenR seen_all resRun takesB after)
set_option maxHeartbeats 1000000
set_option linter.unusedVariables false
section
variable {P : Program} {N : Nat} {ops : Array Oper} {l rest : List Oper} {o : Oper} {Q Q' : Exit → St → Prop} {s s' : St} {c x y : Code} {hs : List Nat} {i id b : Nat} {listed : Array Bool} {G : List (Nat × List D)} {f : FuncId} {ds0 : List D} {d : D} {A : List (Nat × Bool)} {p : Prop}
/-- a row's first n operations. -/
theorem PL.rw (n : Nat) (ds : List Nat) (m : Nat) (hp : p) (h : PL P N ops (l.drop n) Q ((res P N ops (l.take n) s).sel ds m)) (hk : ((steps P default N ops (l.take n) s).isSome, ((res P N ops (l.take n) s).sel ds m).underB m, seenL (obs P N ops (l.take n) s), need P N ops (l.take n) s) = (true, true, seenR (obs P N ops (l.take n) s), p) := by kernel_rfl) : PL P N ops l Q s := by
  simp only [Prod.mk.injEq] at hk
  exact PL.row n ds m hk.1 rfl hk.2.1 hk.2.2.1 hk.2.2.2 hp h
/-- a whole region, and what follows. -/
theorem PW.sr (ds : List Nat) (m : Nat) (hp : p) (h : PW P N y Q ((res P N ops ops.toList s).sel ds m)) (hk : ((steps P default N ops ops.toList s).isSome, ((res P N ops ops.toList s).sel ds m).underB m, seenL (obs P N ops ops.toList s), need P N ops ops.toList s) = (true, true, seenR (obs P N ops ops.toList s), p) := by kernel_rfl) : PW P N (.seq (.region id ops false) y) Q s := by
  simp only [Prod.mk.injEq] at hk
  have e : ops.toList.take ops.toList.length = ops.toList := List.take_length
  refine PW.seq (PW.region (PL.row ops.toList.length ds m (s' := (res P N ops ops.toList s).sel ds m) (p := p) ?_ ?_ hk.2.1 ?_ ?_ hp ?_))
  · rw [e]; exact hk.1
  · rw [e]
  · rw [e]; exact hk.2.2.1
  · rw [e]; exact hk.2.2.2
  · rw [List.drop_length]
    exact PL.nil h
/-- a whole region, the last one. -/
theorem PW.rr (ds : List Nat) (m : Nat) (hp : p) (h : Q .normal ((res P N ops ops.toList s).sel ds m)) (hk : ((steps P default N ops ops.toList s).isSome, ((res P N ops ops.toList s).sel ds m).underB m, seenL (obs P N ops ops.toList s), need P N ops ops.toList s) = (true, true, seenR (obs P N ops ops.toList s), p) := by kernel_rfl) : PW P N (.region id ops false) Q s := by
  simp only [Prod.mk.injEq] at hk
  have e : ops.toList.take ops.toList.length = ops.toList := List.take_length
  refine PW.region (PL.row ops.toList.length ds m (s' := (res P N ops ops.toList s).sel ds m) (p := p) ?_ ?_ hk.2.1 ?_ ?_ hp ?_)
  · rw [e]; exact hk.1
  · rw [e]
  · rw [e]; exact hk.2.2.1
  · rw [e]; exact hk.2.2.2
  · rw [List.drop_length]
    exact PL.nil h
/-- a region in parts, and what follows. -/
theorem PW.sg (h : PL P N ops ops.toList (thenD (PW P N y Q) Q) s) : PW P N (.seq (.region id ops false) y) Q s := PW.seq (PW.region h)
theorem PL.nl (h : PW P N y Q s) : PL P N ops [] (thenD (PW P N y Q) Q) s := PL.nil h
theorem PW.cd (z : Bool) {q : Operand} (ht : z = true → PW P N x Q s) (hf : z = false → PW P N y Q s) (h : s.look [] q = some (.v (.bool z)) := by kernel_rfl) : PW P N (.cond q x y) Q s := PW.cond h ht hf
theorem PL.gc (hpc : pathP s A → PC P G f ds0 (· = d)) (k : PL P N ops rest Q (s.put o.dst A d)) (hk : (gpath ops s o, closedB s A, dstB N A o.dst, callD P s A o, shuts ds0, s.gl) = (some A, true, true, some (f, ds0), true, G) := by kernel_rfl) : PL P N ops (o :: rest) Q s := by
  simp only [Prod.mk.injEq] at hk
  exact PL.gcall hk.1 hk.2.1 hk.2.2.1 hk.2.2.2.1 hk.2.2.2.2.1 hk.2.2.2.2.2 d hpc k
theorem PO1.gc (o : Oper) (hpc : pathP s A → PC P G f ds0 (· = d)) {n : Nat} (k : PO P N ops hs n (listed.setIfInBounds i true) Q (s.put o.dst A d)) (ho : ops[i]? = some o) (hk : (gpath ops s o, closedB s A, dstB N A o.dst, callD P s A o, shuts ds0, s.gl) = (some A, true, true, some (f, ds0), true, G) := by kernel_rfl) : PO1 P N ops hs n listed Q s i := by
  simp only [Prod.mk.injEq] at hk
  exact PO1.gcall ho hk.1 hk.2.1 hk.2.2.1 hk.2.2.2.1 hk.2.2.2.2.1 hk.2.2.2.2.2 d hpc k
theorem PL.sl (ds : List Nat) (m : Nat) (h : PL P N ops l Q (s.sel ds m)) (hk : (s.sel ds m).underB m = true := by kernel_rfl) : PL P N ops l Q s := PL.sel ds m rfl hk h
theorem PO.tk (l : List Nat) (m : Nat) (dl : List Nat) (n : Nat) (hp : p) (hnp : NoPanic Q) (h : PO P N ops hs n (after l listed) Q ((ires P N ops hs l s).sel dl s.mem.length)) (hk : (Region.noSelect ops, m, takesB ops l listed, (isteps P default N ops hs l s).isSome, ((ires P N ops hs l s).sel dl s.mem.length).underB s.mem.length, seenL (iobs P N ops hs l s), ineed P N ops hs l s) = (true, n + l.length, true, true, true, seenR (iobs P N ops hs l s), p) := by kernel_rfl) : PO P N ops hs m listed Q s := by
  simp only [Prod.mk.injEq] at hk
  exact PO.takes l m dl s.mem.length hk.1 hnp hk.2.1 hk.2.2.1 hk.2.2.2.1 rfl hk.2.2.2.2.1 rfl hk.2.2.2.2.2.1 hk.2.2.2.2.2.2 hp h
noncomputable def mres (P : Program) (s : St) (o : Oper) : St := ((memD P default s o).getD (s, [], [])).1
theorem PO1.mm {o : Oper} (ho : ops[i]? = some o) (dl : List Nat) (mm : Nat) (hp : p) {n : Nat} (h : PO P N ops hs n (listed.setIfInBounds i true) Q ((mres P s o).sel dl mm)) (hk : (gpath ops s o, dstB N [] o.dst, (touch s o).all (fun b => hs.contains b), (memD P default s o).isSome, ((mres P s o).sel dl mm).underB mm, (mres P s o).mem.length, seenL ((memD P default s o).getD (s, [], [])).2.1, andL ((memD P default s o).getD (s, [], [])).2.2) = (some [], true, true, true, true, mm, seenR ((memD P default s o).getD (s, [], [])).2.1, p) := by kernel_rfl) : PO1 P N ops hs n listed Q s i := by
  simp only [Prod.mk.injEq] at hk
  exact PO1.mem dl mm ho hk.1 hk.2.1 hk.2.2.1 hk.2.2.2.1 rfl hk.2.2.2.2.1 hk.2.2.2.2.2.1 hk.2.2.2.2.2.2.1 hk.2.2.2.2.2.2.2 hp h
/-- a row's elements, told otherwise. -/
theorem PL.rm (b : Nat) {t : TypeId} {z n : Nat} (f0 f1 : Nat → List D) (hf : ∀ i, i < n → f0 i = f1 i) (h : PL P N ops l Q (s.setMem b (.row t z n f1))) (hk : s.mem[b]? = some (.row t z n f0) := by kernel_rfl) : PL P N ops l Q s := PL.remem hk hf h
theorem PO.rm (b : Nat) {t : TypeId} {z n : Nat} (f0 f1 : Nat → List D) (hf : ∀ i, i < n → f0 i = f1 i) {k : Nat} (h : PO P N ops hs k listed Q (s.setMem b (.row t z n f1))) (hk : s.mem[b]? = some (.row t z n f0) := by kernel_rfl) : PO P N ops hs k listed Q s := fun κ B ρ a w0 w hI hb => h κ B ρ a w0 w (hI.remem hk hf) hb
theorem PW.lp {α : Type} (st : α → St) (I : α → Prop) (μ : α → Nat) (ds : List Nat) (m : Nat) (x0 : α) (hI0 : I x0) (round : ∀ x, I x → PW P N c (thenD (BackR st I μ ds m (μ x)) Q) (st x)) (hk : (s.sel ds m, (s.sel ds m).underB m) = (st x0, true) := by kernel_rfl) : PW P N (.loop c) Q s := by
  simp only [Prod.mk.injEq] at hk
  exact PW.loopR st I μ ds m x0 rfl hk.2 (hk.1 ▸ Rem.refl _) hI0 round
theorem BackR.k {α : Type} {st : α → St} {I : α → Prop} {μ : α → Nat} {ds : List Nat} {m n : Nat} (x' : α) (hI : I x') (hμ : μ x' < n) (hk : (s'.sel ds m, (s'.sel ds m).underB m) = (st x', true) := by kernel_rfl) : BackR st I μ ds m n s' := by
  simp only [Prod.mk.injEq] at hk
  exact BackR.of x' rfl hk.2 (hk.1 ▸ Rem.refl _) hI hμ
theorem PL.fz (b : Nat) {t : TypeId} (cs : List D) (h : PL P N ops l Q (s.frz b cs)) (hk : (s.mem[b]?, cs.all D.shut, decide (s.fx ≤ b)) = (some (.var t cs), true, true) := by kernel_rfl) : PL P N ops l Q s := by
  simp only [Prod.mk.injEq, decide_eq_true_eq] at hk
  exact PL.frz b hk.1 hk.2.1 hk.2.2 rfl h
/-- a function value that captured what nobody writes. -/
theorem PL.mk {cap : Array Operand} (cs : List D) (h : PL P N ops rest Q (s.put o.dst [] (.c f cs))) (hk : (o.op, gpath ops s o, dstB N [] o.dst, looksA s [] cap.toList, cs.all D.shut) = (.makeFunc (.func f) #[] cap, some [], true, some cs, true) := by kernel_rfl) : PL P N ops (o :: rest) Q s := fun κ B ρ a w0 w hI hb0 => by
  simp only [Prod.mk.injEq] at hk
  obtain ⟨hop, hA, hd, hl, hsh⟩ := hk
  refine val_step hI hA hd (.c f cs) (fun hp => ?_) fun a' hI' => h κ B ρ a' w0 w hI' hb0
  obtain ⟨q1, q2⟩ := looksA_rep hI hp hl
  refine ⟨.func (.func f) #[] (cap.toList.map a.eval).toArray, ?_, ?_⟩
  · unfold execOp
    simp only [hop, Instr.makeFunc, Sem.run_bind, Sem.run_pure, Result.andThen_ok]
    have e : cap.map a.eval = (cap.toList.map a.eval).toArray := by rw [← Array.toList_map]
    rw [e, show (#[] : Array Operand).map a.eval = #[] from Array.map_empty]
  · refine .one (.c (.c q1 fun j d v h1 h2 => ?_))
    have hds := List.all_eq_true.1 hsh d (List.mem_of_getElem? h1)
    exact shut_rep (by cases d <;> first | rfl | cases hds) (q2 j d v h1 h2)
/-- a call that is lent what it reads. -/
theorem PL.bo {ds : List D} {ps : List Prop} (hps : andL ps) (hpc : PC P G f ds (· = d)) (k : PL P N ops rest Q (s.put o.dst [] d)) (hk : (gpath ops s o, dstB N [] o.dst, (callD P s [] o).bind (fun x => (closeA { s with fx := 0 } x.2).map fun y => (x.1, y)), s.gl, d.plain) = (some [], true, some (f, ds, ps), G, true) := by kernel_rfl) : PL P N ops (o :: rest) Q s := by
  simp only [Prod.mk.injEq] at hk
  obtain ⟨hA, hd, hc, hG, hpl⟩ := hk
  obtain ⟨⟨f', ds0⟩, h1, h2⟩ := Option.bind_eq_some_iff.1 hc
  obtain ⟨y, h3, h4⟩ := Option.map_eq_some_iff.1 h2
  simp only [Prod.mk.injEq] at h4
  obtain ⟨rfl, rfl⟩ := h4
  refine PL.borrowT hA hd h1 h3 hps hG hpc (fun d' h => by subst h; exact hpl) ?_
  rintro _ rfl
  exact k
theorem PO1.borrowT {ds ds0 : List D} {ps : List Prop} {n : Nat} (ho : ops[i]? = some o) (hA : gpath ops s o = some []) (hd : dstB N [] o.dst = true) (hc : callD P s [] o = some (f, ds0)) (hcl : closeA { s with fx := 0 } ds0 = some (ds, ps)) (hps : andL ps) (hG : s.gl = G) {R : D → Prop} (hpc : PC P G f ds R) (hR : ∀ d, R d → d.plain = true) (k : ∀ d, R d → PO P N ops hs n (listed.setIfInBounds i true) Q (s.put o.dst [] d)) : PO1 P N ops hs n listed Q s i := fun κ B ρ a w0 w hI hb0 => by
  obtain ⟨vs, h1, h2⟩ := borrowT_core hI pt_nil hc hcl hps hG hpc hR
  refine wpOp_of ho (BigFrame.wpList_want (gpath_nil hI hA) fun K hK => ?_)
  unfold Oper.wp
  rw [h1, Oper.upon_enter]
  refine h2.mono ?_
  rintro e w' ⟨v, d, rfl, hr, hrep, hb⟩
  have hT : ([] : List Nat).all (fun b => hs.contains b) = true := rfl
  have hfr : Fr [] ρ w ρ w' := Fr.later _ hb
  exact hK _ _ ⟨hfr.agree hT hb.size, wpAnyH_monoS (hfr.agrees hT hb.size) _ _ _ _ (k _ hr κ B ρ _ w0 w' (inv_put (hI.later hb) hd (fun _ => .one (.c (hrep _ _))) fun h => absurd pt_nil h) (hb0.trans (BelB.of_below hb hI.big)))⟩
theorem PO1.bo (o : Oper) {ds : List D} {ps : List Prop} {n : Nat} (hps : andL ps) (hpc : PC P G f ds (· = d)) (k : PO P N ops hs n (listed.setIfInBounds i true) Q (s.put o.dst [] d)) (ho : ops[i]? = some o) (hk : (gpath ops s o, dstB N [] o.dst, (callD P s [] o).bind (fun x => (closeA { s with fx := 0 } x.2).map fun y => (x.1, y)), s.gl, d.plain) = (some [], true, some (f, ds, ps), G, true) := by kernel_rfl) : PO1 P N ops hs n listed Q s i := by
  simp only [Prod.mk.injEq] at hk
  obtain ⟨hA, hd, hc, hG, hpl⟩ := hk
  obtain ⟨⟨f', ds0⟩, h1, h2⟩ := Option.bind_eq_some_iff.1 hc
  obtain ⟨y, h3, h4⟩ := Option.map_eq_some_iff.1 h2
  simp only [Prod.mk.injEq] at h4
  obtain ⟨rfl, rfl⟩ := h4
  refine PO1.borrowT ho hA hd h1 h3 hps hG hpc (fun d' h => by subst h; exact hpl) ?_
  rintro _ rfl
  exact k
theorem PL.ci {ds : List D} {mem : List Obj} {R : D → List Obj → Prop} (hpi : PI P G f ds mem R) (k : ∀ d mem', R d mem' → PL P N ops rest Q ({ s with mem := mem' }.put o.dst [] d)) (hk : (gpath ops s o, dstB N [] o.dst, callD P s [] o, s.mem, s.gl) = (some [], true, some (f, ds), mem, G) := by kernel_rfl) : PL P N ops (o :: rest) Q s := by
  simp only [Prod.mk.injEq] at hk
  exact PL.callI hk.1 hk.2.1 hk.2.2.1 hk.2.2.2.1 hk.2.2.2.2 hpi k
theorem PO1.ci (o : Oper) {ds : List D} {mem : List Obj} {n : Nat} {R : D → List Obj → Prop} (hpi : PI P G f ds mem R) (k : ∀ d mem', R d mem' → PO P N ops hs n (listed.setIfInBounds i true) Q ({ s with mem := mem' }.put o.dst [] d)) (ho : ops[i]? = some o) (hk : (gpath ops s o, dstB N [] o.dst, callD P s [] o, s.mem, s.gl, (List.range mem.length).all (fun b => hs.contains b)) = (some [], true, some (f, ds), mem, G, true) := by kernel_rfl) : PO1 P N ops hs n listed Q s i := by
  simp only [Prod.mk.injEq] at hk
  exact PO1.callI ho hk.1 hk.2.1 hk.2.2.1 hk.2.2.2.1 hk.2.2.2.2.1 hk.2.2.2.2.2 hpi k
theorem PL.cl {ds : List D} {R : D → Prop} (hpc : PC P G f ds R) (k : ∀ d, R d → PL P N ops rest Q (s.put o.dst [] d)) (hk : (gpath ops s o, dstB N [] o.dst, callD P s [] o, shuts ds, s.gl) = (some [], true, some (f, ds), true, G) := by kernel_rfl) : PL P N ops (o :: rest) Q s := by
  simp only [Prod.mk.injEq] at hk
  exact PL.call hk.1 hk.2.1 hk.2.2.1 hk.2.2.2.1 hk.2.2.2.2 hpc k
theorem retI_r {rs : List ResultVar} {R : D → List Obj → Prop} {ps : List Prop} {mem : List Obj} (hp : andL ps) (hR : R d mem) (hk : (resI P s rs, s.mem) = (some (d, ps), mem) := by kernel_rfl) : retI P rs R .ret s := by
  simp only [Prod.mk.injEq] at hk
  exact ⟨d, ps, hk.1, hp, hk.2 ▸ hR⟩
end
end Go.Proofs.YtleflkgdbagmnaaDoor.Dp
