/- Rows of operations, reckoned: whole regions, calls, tests, results. No function of the program in it. -/
import Derived.Test.YtliejllegabdnaaDoorSmEv
import Derived.StillTail
import Derived.WalkKit
namespace Go.Proofs.YtliejllegabdnaaDoor.Ev
open Go.RowKit Go.Proofs.YtliejllegabdnaaDoor.Sm
set_option maxHeartbeats 1000000
set_option linter.unusedVariables false

/-- what is known behind a row of operations, and what the kernel must see. -/
noncomputable def res (P : Program) (N : Nat) (ops : Array Oper) (l : List Oper) (s : St) : St := ((steps P default N ops l s).getD (s, [])).1
noncomputable def obs (P : Program) (N : Nat) (ops : Array Oper) (l : List Oper) (s : St) : List Obl := ((steps P default N ops l s).getD (s, [])).2
def seenL (x : List Obl) : Nat → World → List (Result Next) := fun g u => x.map fun q => q.l g u
def seenR (x : List Obl) : Nat → World → List (Result Next) := fun g u => x.map fun q => q.r g u
theorem seen_all {x : List Obl} (h : seenL x = seenR x) : ∀ q ∈ x, ∀ g u, q.l g u = q.r g u := by
  intro q hq g u
  have h1 := congrFun (congrFun h g) u
  exact (List.map_inj_left.1 h1) q hq
section
variable {B N : Nat} {ρ : List Nat} {s : St} {a : Act} {w : World} {A : List (Nat × Bool)} {o : Oper} {ops : Array Oper} {P : Program} {Q : Exit → Act → World → Prop} {rest : List Oper}
theorem steps_is {l : List Oper} (h : (steps P default N ops l s).isSome = true) : steps P default N ops l s = some (res P N ops l s, obs P N ops l s) := by
  obtain ⟨x, hx⟩ := Option.isSome_iff_exists.1 h
  unfold res obs
  rw [hx]
  rfl
/-- a row's first n operations. -/
theorem row_ok {l : List Oper} (n : Nat) (hI : Inv B ρ s N a w) (hs : (steps P default N ops (l.take n) s).isSome = true) (ho : seenL (obs P N ops (l.take n) s) = seenR (obs P N ops (l.take n) s))
    (k : ∀ ρ' a' w', Inv B ρ' (res P N ops (l.take n) s) N a' w' → Ran B ρ ρ' s (res P N ops (l.take n) s) w w' → wpList P ops Q (l.drop n) a' w') : wpList P ops Q l a w := by
  have := steps_ok (P := P) (ops := ops) (Q := Q) (rest := l.drop n) (l.take n) hI (steps_is hs) (seen_all ho) k
  rwa [List.take_append_drop] at this
/-- a whole region. -/
theorem region_ok {id : Nat} (hI : Inv B ρ s N a w) (hs : (steps P default N ops ops.toList s).isSome = true) (ho : seenL (obs P N ops ops.toList s) = seenR (obs P N ops ops.toList s))
    (k : ∀ ρ' a' w', Inv B ρ' (res P N ops ops.toList s) N a' w' → Ran B ρ ρ' s (res P N ops ops.toList s) w w' → Q .normal a' w') : (Code.region id ops false).wp P Q a w := by
  refine wp_region_list ?_
  have := steps_ok (P := P) (ops := ops) (Q := Q) (rest := []) ops.toList hI (steps_is hs) (seen_all ho) k
  rwa [List.append_nil] at this
/-- .. with code behind it. -/
theorem seq_ok {id : Nat} {y : Code} (hI : Inv B ρ s N a w) (hs : (steps P default N ops ops.toList s).isSome = true) (ho : seenL (obs P N ops ops.toList s) = seenR (obs P N ops ops.toList s))
    (k : ∀ ρ' a' w', Inv B ρ' (res P N ops ops.toList s) N a' w' → Ran B ρ ρ' s (res P N ops ops.toList s) w w' → y.wp P Q a' w') : (Code.seq (Code.region id ops false) y).wp P Q a w :=
  wp_seq (region_ok hI hs ho k)
/-- rows that write no variable that was there: all that was there stays. -/
theorem row_q {l : List Oper} (n : Nat) (hI : Inv B ρ s N a w) (hs : (steps P default N ops (l.take n) s).isSome = true) (ho : seenL (obs P N ops (l.take n) s) = seenR (obs P N ops (l.take n) s)) (hf : (res P N ops (l.take n) s).wr.all (fun b => decide (s.mem.length ≤ b)) = true)
    (k : ∀ ρ' a' w', Inv B ρ' (res P N ops (l.take n) s) N a' w' → Below w.heap.size w w' → wpList P ops Q (l.drop n) a' w') : wpList P ops Q l a w :=
  row_ok n hI hs ho fun ρ' a' w' hI' hr => k ρ' a' w' hI' (hr.fresh hI.len hI'.wrok hf)
theorem region_q {id : Nat} (hI : Inv B ρ s N a w) (hs : (steps P default N ops ops.toList s).isSome = true) (ho : seenL (obs P N ops ops.toList s) = seenR (obs P N ops ops.toList s)) (hf : (res P N ops ops.toList s).wr.all (fun b => decide (s.mem.length ≤ b)) = true)
    (k : ∀ ρ' a' w', Inv B ρ' (res P N ops ops.toList s) N a' w' → Below w.heap.size w w' → Q .normal a' w') : (Code.region id ops false).wp P Q a w :=
  region_ok hI hs ho fun ρ' a' w' hI' hr => k ρ' a' w' hI' (hr.fresh hI.len hI'.wrok hf)
theorem seq_q {id : Nat} {y : Code} (hI : Inv B ρ s N a w) (hs : (steps P default N ops ops.toList s).isSome = true) (ho : seenL (obs P N ops ops.toList s) = seenR (obs P N ops ops.toList s)) (hf : (res P N ops ops.toList s).wr.all (fun b => decide (s.mem.length ≤ b)) = true)
    (k : ∀ ρ' a' w', Inv B ρ' (res P N ops ops.toList s) N a' w' → Below w.heap.size w w' → y.wp P Q a' w') : (Code.seq (Code.region id ops false) y).wp P Q a w :=
  wp_seq (region_q hI hs ho hf k)
/-- a region that is parted at an operation. -/
theorem seq_row {id : Nat} {y : Code} (h : wpList P ops (Exit.then (y.wp P Q) Q) ops.toList a w) : (Code.seq (Code.region id ops false) y).wp P Q a w := wp_seq (wp_region_list h)
theorem Inv.val (hI : Inv B ρ s N a w) {x : Operand} {v : Value} (h : s.look [] x = some (.v v)) : a.eval x = v := (look_eval hI h fun _ hx => (nomatch hx)).1
theorem Inv.ptr (hI : Inv B ρ s N a w) {x : Operand} {b k : Nat} (h : s.look [] x = some (.p b k)) : a.eval x = .pointer (some ⟨nth ρ b, k, none⟩) := (look_eval hI h fun _ hx => (nomatch hx)).1
theorem Inv.blk (hI : Inv B ρ s N a w) {b : Nat} {t : TypeId} {cs : List Value} (h : s.mem[b]? = some (t, cs)) : Ob w (nth ρ b) t cs ∧ B ≤ nth ρ b := ⟨hI.mem b t cs h, hI.base _ (nth_mem (by rw [hI.len]; exact (List.getElem?_eq_some_iff.1 h).1))⟩
/-- some slots alone, in a form of one's own. -/
def St.sel (s : St) (ds : List Nat) : St := { tab := ds.filterMap s.find, mem := s.mem }
theorem Inv.to (hI : Inv B ρ s N a w) (ds : List Nat) {s2 : St} (h : s.sel ds = s2) : Inv B ρ s2 N a w := by
  subst h
  refine ⟨hI.size, hI.dfr, fun e he => ?_, hI.len, hI.nd, hI.mem, hI.base, hI.big, fun b hb => (nomatch hb)⟩
  obtain ⟨d, _, hd⟩ := List.mem_filterMap.1 he
  exact hI.tab e (find_mem hd).1
/-- a guard whose answer is known. -/
def St.strip (s : St) (m : Nat) (b : Bool) : St := { s with tab := s.tab.map fun e => { e with path := e.path.filter fun x => x != (m, b) } }
theorem Inv.strip (hI : Inv B ρ s N a w) {m : Nat} {b : Bool} (h : s.look [] (.tmp m) = some (.v (.bool b))) : Inv B ρ (s.strip m b) N a w := by
  refine ⟨hI.size, hI.dfr, fun e he => ?_, hI.len, hI.nd, hI.mem, hI.base, hI.big, hI.wrok⟩
  obtain ⟨e0, h0, rfl⟩ := List.mem_map.1 he
  have hk := hI.tab e0 h0
  have hm : sl a m = .bool b := hI.val h
  have hiff : PT a (e0.path.filter fun x => x != (m, b)) ↔ PT a e0.path := by
    constructor
    · intro hp x hx
      by_cases hxm : x = (m, b)
      · rw [hxm]; exact hm
      · exact hp x (List.mem_filter.2 ⟨hx, by simpa using hxm⟩)
    · intro hp x hx
      exact hp x (List.mem_filter.1 hx).1
  exact ⟨fun hp => hk.yes (hiff.1 hp), fun hp => hk.no fun h => hp (hiff.2 h), hk.lt, hk.ok⟩
theorem cond_ok {c : Operand} {x y : Code} {z : Bool} (hI : Inv B ρ s N a w) (h : s.look [] c = some (.v (.bool z))) (ht : z = true → x.wp P Q a w) (hf : z = false → y.wp P Q a w) : (Code.cond c x y).wp P Q a w :=
  wp_cond_split (hI.val h) ht hf
/-! ### calls -/
/-- the operands' values. -/
noncomputable def lookV (ρ : List Nat) (s : St) (x : Operand) : Value := ((s.look [] x).map (AV.to ρ)).getD undef
theorem lookV_eval (hI : Inv B ρ s N a w) {x : Operand} (h : (s.look [] x).isSome = true) : a.eval x = lookV ρ s x := by
  obtain ⟨av, hv⟩ := Option.isSome_iff_exists.1 h
  unfold lookV
  rw [hv]
  exact (look_eval hI hv fun _ hx => (nomatch hx)).1
theorem pt_of (hI : Inv B ρ s N a w) (h : A.map (fun x => s.look [] (.tmp x.1)) = A.map fun x => some (.v (.bool x.2))) : PT a A := by
  intro x hx
  have := (List.map_inj_left.1 h) x hx
  exact hI.val this
/-- a call, whatever it does. -/
theorem call_raw (hI : Inv B ρ s N a w) (hw : Region.wanted o (yielded ops a.tmps) = true) {l : List Operand} (hl : opnds o.op = some l) (hall : l.all (fun x => (s.look [] x).isSome) = true) {f : FuncId} {args : Array Value}
    (hrun : ∀ u, (execOp (lookV ρ s) o).run P u = .ok (.enter f args) u) {R : Value → World → Prop} (hc : Calls P f args w fun e w' => ∃ v, e = .returned v ∧ R v w')
    (k : ∀ v w', R v w' → wpList P ops Q rest (a.put o.dst v) w') : wpList P ops Q (o :: rest) a w := by
  have he : (execOp a.eval o).run P w = .ok (.enter f args) w := by
    rw [execOp_congr hl (ρ₂ := lookV ρ s)]
    · exact hrun w
    · exact fun x hx => lookV_eval hI (List.all_eq_true.1 hall x hx)
  refine BigFrame.wpList_want hw fun K hK => ?_
  unfold Oper.wp
  rw [he, Oper.upon_enter]
  refine hc.mono ?_
  rintro e w' ⟨v, rfl, hr⟩
  exact hK _ _ (k v w' hr)
/-- a call that leaves alone what was there. -/
theorem call_ok (hI : Inv B ρ s N a w) (hA : gpath ops s o = some A) (hp : A.map (fun x => s.look [] (.tmp x.1)) = A.map fun x => some (.v (.bool x.2))) (hd : dstB N [] o.dst = true) {l : List Operand} (hl : opnds o.op = some l) (hall : l.all (fun x => (s.look [] x).isSome) = true) {f : FuncId} {args : Array Value}
    (hrun : ∀ u, (execOp (lookV ρ s) o).run P u = .ok (.enter f args) u) {R : Value → World → Prop} (hc : Calls P f args w fun e w' => ∃ v, e = .returned v ∧ R v w') (hR : ∀ v w', R v w' → Below w.heap.size w w')
    (k : ∀ v a' w', R v w' → Inv B ρ (s.put o.dst [] (.v v)) N a' w' → wpList P ops Q rest a' w') : wpList P ops Q (o :: rest) a w :=
  call_raw hI ((wanted_iff hI hA).2 (pt_of hI hp)) hl hall hrun hc fun v w' hr => k v _ w' hr (inv_put (hI.later (hR v w' hr)) hd trivial (fun _ => rfl) fun h => absurd (fun _ hx => (nomatch hx)) h)
/-- a call that leaves the world as it was, under whatever guards. -/
theorem quiet_ok (hI : Inv B ρ s N a w) (hA : gpath ops s o = some A) (hd : dstB N A o.dst = true) {l : List Operand} (hl : opnds o.op = some l) (hall : l.all (fun x => (plainV s A x).isSome) = true) {f : FuncId} {args : Array Value}
    (hrun : ∀ u, (execOp (fun x => (plainV s A x).getD undef) o).run P u = .ok (.enter f args) u) {v : Value} (hc : Calls P f args w fun e w' => e = .returned v ∧ w = w')
    (k : ∀ a', Inv B ρ (s.put o.dst A (.v v)) N a' w → wpList P ops Q rest a' w) : wpList P ops Q (o :: rest) a w := by
  by_cases hp : PT a A
  · have he : (execOp a.eval o).run P w = .ok (.enter f args) w := by
      rw [execOp_congr hl (ρ₂ := fun x => (plainV s A x).getD undef)]
      · exact hrun w
      · intro x hx
        obtain ⟨y, hy⟩ := Option.isSome_iff_exists.1 (List.all_eq_true.1 hall x hx)
        rw [hy]
        exact plainV_eval hI hy hp
    refine BigFrame.wpList_want ((wanted_iff hI hA).2 hp) fun K hK => ?_
    unfold Oper.wp
    rw [he, Oper.upon_enter]
    refine hc.mono ?_
    rintro e w' ⟨rfl, rfl⟩
    exact hK _ _ (k _ (inv_put hI hd trivial (fun _ => rfl) fun h => absurd hp h))
  · have hw : Region.wanted o (yielded ops a.tmps) = false := by
      rw [Bool.eq_false_iff]
      exact fun h => hp ((wanted_iff hI hA).1 h)
    exact wpList_skip hw (k _ (inv_put hI hd trivial (fun h => absurd h hp) fun _ => rfl))
/-- a call that returns one and the same value and leaves alone what was there, under whatever guards. -/
theorem gcall_ok (hI : Inv B ρ s N a w) (hA : gpath ops s o = some A) (hd : dstB N A o.dst = true) {l : List Operand} (hl : opnds o.op = some l) (hall : l.all (fun x => (plainV s A x).isSome) = true) {f : FuncId} {args : Array Value}
    (hrun : ∀ u, (execOp (fun x => (plainV s A x).getD undef) o).run P u = .ok (.enter f args) u) {v : Value} (hc : Calls P f args w fun e w' => e = .returned v ∧ Below w.heap.size w w')
    (k : ∀ a' w', Below w.heap.size w w' → Inv B ρ (s.put o.dst A (.v v)) N a' w' → wpList P ops Q rest a' w') : wpList P ops Q (o :: rest) a w := by
  by_cases hp : PT a A
  · have he : (execOp a.eval o).run P w = .ok (.enter f args) w := by
      rw [execOp_congr hl (ρ₂ := fun x => (plainV s A x).getD undef)]
      · exact hrun w
      · intro x hx
        obtain ⟨y, hy⟩ := Option.isSome_iff_exists.1 (List.all_eq_true.1 hall x hx)
        rw [hy]
        exact plainV_eval hI hy hp
    refine BigFrame.wpList_want ((wanted_iff hI hA).2 hp) fun K hK => ?_
    unfold Oper.wp
    rw [he, Oper.upon_enter]
    refine hc.mono ?_
    rintro e w' ⟨rfl, hb⟩
    exact hK _ _ (k _ w' hb (inv_put (hI.later hb) hd trivial (fun _ => rfl) fun h => absurd hp h))
  · have hw : Region.wanted o (yielded ops a.tmps) = false := by
      rw [Bool.eq_false_iff]
      exact fun h => hp ((wanted_iff hI hA).1 h)
    exact wpList_skip hw (k _ w (Below.refl _ _) (inv_put hI hd trivial (fun h => absurd h hp) fun _ => rfl))
/-- an operation whose guard says no. -/
def St.drop (s : St) (d : Option Nat) : St := match d with
  | none => s
  | some d => { s with tab := s.tab.filter fun e => e.d != d && e.path.all fun x => x.1 != d }
theorem inv_drop (hI : Inv B ρ s N a w) (d : Option Nat) (v : Value) : Inv B ρ (s.drop d) N (a.put d v) w := by
  cases d with
  | none => exact hI
  | some d =>
    refine ⟨put_size.trans hI.size, hI.dfr, ?_, hI.len, hI.nd, hI.mem, hI.base, hI.big, hI.wrok⟩
    intro e he
    obtain ⟨hin, hf⟩ := List.mem_filter.1 he
    simp only [Bool.and_eq_true, bne_iff_ne, ne_eq] at hf
    have hk := hI.tab e hin
    refine ⟨fun hp => ?_, fun hp => ?_, by rw [put_size]; exact hk.lt, hk.ok⟩
    · rw [sl_put_ne hf.1]; exact hk.yes ((pt_put hf.2).1 hp)
    · rw [sl_put_ne hf.1]; exact hk.no fun h => hp ((pt_put hf.2).2 h)
theorem skip_ok (hI : Inv B ρ s N a w) (hA : gpath ops s o = some A) {m : Nat} {b : Bool} (hm : s.look [] (.tmp m) = some (.v (.bool b))) (hin : A.contains (m, !b) = true) (k : ∀ a', Inv B ρ (s.drop o.dst) N a' w → wpList P ops Q rest a' w) : wpList P ops Q (o :: rest) a w := by
  have hw : Region.wanted o (yielded ops a.tmps) = false := by
    rw [Bool.eq_false_iff]
    intro h
    have h1 := (wanted_iff hI hA).1 h (m, !b) (by simpa using hin)
    have h2 := hI.val hm
    have h3 : sl a m = .bool b := h2
    rw [h3] at h1
    injection h1 with h1
    cases b <;> cases h1
  exact wpList_skip hw (k _ (inv_drop hI _ _))
/-- a choice whose test is known. -/
theorem pick_ok (hI : Inv B ρ s N a w) (hA : gpath ops s o = some []) (hd : dstB N [] o.dst = true) {c x y : Operand} (hop : o.op = .pick c x y) {b : Bool} (hc : s.look [] c = some (.v (.bool b))) {av : AV} (hv : s.look [] (bif b then x else y) = some av)
    (k : ∀ a', Inv B ρ (s.put o.dst [] av) N a' w → wpList P ops Q rest a' w) : wpList P ops Q (o :: rest) a w := by
  refine val_step hI hA hd av (look_ok hI hv) (fun hp => ?_) k
  have e1 : a.eval c = .bool b := hI.val hc
  have e2 := (look_eval hI hv hp).1
  unfold execOp
  rw [hop]
  cases b with
  | true => simp only [e1, asBool, Sem.run_bind, Sem.run_pure, Result.andThen_ok, if_true]; exact congrArg (fun z => Result.ok (Next.value z) w) e2
  | false => simp only [e1, asBool, Sem.run_bind, Sem.run_pure, Result.andThen_ok]; exact congrArg (fun z => Result.ok (Next.value z) w) e2
/-! ### the beginning and the end -/
def ents : Nat → List Value → List Ent
  | _, [] => []
  | i, v :: r => ⟨i, [], .v v⟩ :: ents (i + 1) r
theorem ents_mem : ∀ (l : List Value) (i : Nat) (e : Ent), e ∈ ents i l → ∃ j v, l[j]? = some v ∧ e = ⟨i + j, [], .v v⟩
  | [], _, _, h => (nomatch h)
  | v :: r, i, e, h => by
    rcases List.mem_cons.1 h with rfl | h
    · exact ⟨0, v, rfl, rfl⟩
    · obtain ⟨j, v', h1, h2⟩ := ents_mem r (i + 1) e h
      exact ⟨j + 1, v', h1, by rw [h2]; simp; omega⟩
theorem enter {f : FuncId} {fn : Func} {c : Code} {args : Array Value} {R : Ending → World → Prop} (hf : P.funcs[f]? = some fn) (hb : fn.body = some c) (hn : fn.ntmps = N) (hle : args.size ≤ N)
    (k : ∀ a, Inv w.heap.size [] { tab := ents 0 args.toList, mem := [] } N a w → c.wp P (bodyPost P fn R) a w) : Calls P f args w R := by
  refine calls_of_wp hf hb (k _ ?_)
  have hsz : (args ++ Array.replicate (fn.ntmps - args.size) undef).size = N := by simp; omega
  refine ⟨hsz, rfl, ?_, rfl, List.nodup_nil, (fun b t cs h => by simp at h), (fun g h => (nomatch h)), Nat.le_refl _, (fun b h => (nomatch h))⟩
  intro e he
  obtain ⟨j, v, h1, rfl⟩ := ents_mem _ _ _ he
  have hj : j < args.size := by
    have := (List.getElem?_eq_some_iff.1 h1).1
    simpa using this
  refine ⟨fun _ => ?_, fun h => absurd (fun _ hx => (nomatch hx)) h, ?_, trivial⟩
  · show sl _ (0 + j) = v
    have h2 : args[j]? = some v := by simpa using h1
    have h3 : (args ++ Array.replicate (fn.ntmps - args.size) undef)[j]? = some v := by rw [Array.getElem?_append_left hj]; exact h2
    unfold sl
    rw [Nat.zero_add]
    simp [h3]
  · show 0 + j < (args ++ Array.replicate (fn.ntmps - args.size) undef).size
    rw [hsz]
    omega
/-- one result. -/
def resOne (P : Program) (s : St) : ResultVar → Option Value
  | .tmp t => plainV s [] (.tmp t)
  | .cell q ty => match s.look [] (.tmp q) with
    | some (.p b k) => match loadS P s b k ty with
      | some (.v v) => some v
      | _ => none
    | _ => none
noncomputable def resRun (tmps : Array Value) : ResultVar → Sem Value
  | .tmp t => pure (tmps.getD t undef)
  | .cell q ty => do loadVar ty (← asAddr (tmps.getD q undef))
theorem resOne_run (hI : Inv B ρ s N a w) {r : ResultVar} {v : Value} (h : resOne P s r = some v) : (resRun a.tmps r).run P w = .ok v w := by
  cases r with
  | tmp t =>
    have := plainV_eval hI h fun _ hx => (nomatch hx)
    show (pure _ : Sem Value).run P w = _
    rw [Sem.run_pure]
    exact congrArg (fun z => Result.ok z w) this
  | cell q ty =>
    simp only [resOne] at h
    split at h
    · rename_i b k hq
      split at h
      · rename_i v' hl
        injection h with h
        subst h
        have hr := (loadS_run hI hl).1
        have hp : a.tmps.getD q undef = .pointer (some ⟨nth ρ b, k, none⟩) := hI.ptr hq
        simp only [Instr.loadAt, Instr.sureAddr, Sem.run_bind, Sem.run_pure, Result.andThen_ok] at hr
        simp only [resRun, hp, asAddr, Sem.run_bind, Sem.run_pure, Result.andThen_ok]
        exact hr
      · cases h
    · cases h
theorem ret1 {fn : Func} {R : Ending → World → Prop} (hI : Inv B ρ s N a w) {r : ResultVar} (hr : fn.results = #[r]) {v : Value} (h : resOne P s r = some v) (hR : R (.returned v) w) : bodyPost P fn R .ret a w := by
  refine ⟨hI.dfr, v, ?_, hR⟩
  have e := resOne_run hI h
  show (do let vs ← fn.results.mapM (resRun a.tmps); pure (if h : vs.size = 1 then vs[0] else .tuple vs) : Sem Value).run P w = _
  simp [hr, e]
theorem ret2 {fn : Func} {R : Ending → World → Prop} (hI : Inv B ρ s N a w) {r r' : ResultVar} (hr : fn.results = #[r, r']) {v v' : Value} (h : resOne P s r = some v) (h' : resOne P s r' = some v') (hR : R (.returned (.tuple #[v, v'])) w) : bodyPost P fn R .ret a w := by
  refine ⟨hI.dfr, _, ?_, hR⟩
  have e := resOne_run hI h
  have e' := resOne_run hI h'
  show (do let vs ← fn.results.mapM (resRun a.tmps); pure (if h : vs.size = 1 then vs[0] else .tuple vs) : Sem Value).run P w = _
  simp [hr, e, e']
theorem ret3 {fn : Func} {R : Ending → World → Prop} (hI : Inv B ρ s N a w) {r r' r'' : ResultVar} (hr : fn.results = #[r, r', r'']) {v v' v'' : Value} (h : resOne P s r = some v) (h' : resOne P s r' = some v') (h'' : resOne P s r'' = some v'') (hR : R (.returned (.tuple #[v, v', v''])) w) : bodyPost P fn R .ret a w := by
  refine ⟨hI.dfr, _, ?_, hR⟩
  have e := resOne_run hI h
  have e' := resOne_run hI h'
  have e'' := resOne_run hI h''
  show (do let vs ← fn.results.mapM (resRun a.tmps); pure (if h : vs.size = 1 then vs[0] else .tuple vs) : Sem Value).run P w = _
  simp [hr, e, e', e'']
theorem ret0 {fn : Func} {R : Ending → World → Prop} (hI : Inv B ρ s N a w) (hr : fn.results = #[]) (hR : R (.returned (.tuple #[])) w) : bodyPost P fn R .normal a w := by
  refine ⟨hI.dfr, _, ?_, hR⟩
  show (do let vs ← fn.results.mapM (resRun a.tmps); pure (if h : vs.size = 1 then vs[0] else .tuple vs) : Sem Value).run P w = _
  simp [hr]
/-! ### regions whose order is open -/
def vsteps (P : Program) (w0 : World) (N : Nat) (ops : Array Oper) : List Oper → St → Option (St × List Obl)
  | [], s => some (s, [])
  | o :: r, s => match gpath ops s o with
    | none => none
    | some A => if dstB N A o.dst then
        match valS P w0 s A o with
        | none => none
        | some (av, x1) => match vsteps P w0 N ops r (s.put o.dst A av) with
          | none => none
          | some (s2, x2) => some (s2, x1 ++ x2)
      else none
noncomputable def vres (P : Program) (N : Nat) (ops : Array Oper) (l : List Oper) (s : St) : St := ((vsteps P default N ops l s).getD (s, [])).1
noncomputable def vobs (P : Program) (N : Nat) (ops : Array Oper) (l : List Oper) (s : St) : List Obl := ((vsteps P default N ops l s).getD (s, [])).2
theorem vsteps_is {l : List Oper} (h : (vsteps P default N ops l s).isSome = true) : vsteps P default N ops l s = some (vres P N ops l s, vobs P N ops l s) := by
  obtain ⟨x, hx⟩ := Option.isSome_iff_exists.1 h
  unfold vres vobs
  rw [hx]
  rfl
theorem vsteps_ok {w0 : World} {K : Act → Prop} : ∀ (l : List Oper) {s s' : St} {a : Act} {obs : List Obl}, Inv B ρ s N a w → vsteps P w0 N ops l s = some (s', obs) → (∀ q ∈ obs, ∀ g u, q.l g u = q.r g u) →
    (∀ a', Inv B ρ s' N a' w → K a') → wpStill P ops w K l a
  | [], s, s', a, obs, hI, hs, _, k => by
    simp only [vsteps, Option.some.injEq, Prod.mk.injEq] at hs
    obtain ⟨rfl, rfl⟩ := hs
    exact k a hI
  | o :: r, s, s', a, obs, hI, hs, hob, k => by
    simp only [vsteps] at hs
    split at hs
    · cases hs
    · rename_i A hA
      split at hs
      · rename_i hd
        split at hs
        · cases hs
        · rename_i av x1 hv
          split at hs
          · cases hs
          · rename_i s2 x2 h2
            simp only [Option.some.injEq, Prod.mk.injEq] at hs
            obtain ⟨rfl, rfl⟩ := hs
            obtain ⟨hr, hok⟩ := valS_run hI hv fun q hq => hob q (List.mem_append_left _ hq)
            have ih : ∀ a', Inv B ρ (s.put o.dst A av) N a' w → wpStill P ops w K r a' := fun a' hI' => vsteps_ok r hI' h2 (fun q hq => hob q (List.mem_append_right _ hq)) k
            unfold wpStill
            by_cases hp : PT a A
            · rw [if_pos ((wanted_iff hI hA).2 hp)]
              unfold Oper.still
              rw [hr hp, Oper.stillUpon_value]
              exact ih _ (inv_put hI hd hok (fun _ => rfl) fun h => absurd hp h)
            · rw [if_neg fun h => hp ((wanted_iff hI hA).1 h)]
              exact ih _ (inv_put hI hd hok (fun h => absurd h hp) fun _ => rfl)
      · cases hs
/-- rows that only reckon and read: the world stays. -/
theorem vsteps_list {w0 : World} : ∀ (l : List Oper) {s s' : St} {a : Act} {obs : List Obl}, Inv B ρ s N a w → vsteps P w0 N ops l s = some (s', obs) → (∀ q ∈ obs, ∀ g u, q.l g u = q.r g u) →
    (∀ a', Inv B ρ s' N a' w → wpList P ops Q rest a' w) → wpList P ops Q (l ++ rest) a w
  | [], s, s', a, obs, hI, hs, _, k => by
    simp only [vsteps, Option.some.injEq, Prod.mk.injEq] at hs
    obtain ⟨rfl, rfl⟩ := hs
    exact k a hI
  | o :: r, s, s', a, obs, hI, hs, hob, k => by
    simp only [vsteps] at hs
    split at hs
    · cases hs
    · rename_i A hA
      split at hs
      · rename_i hd
        split at hs
        · cases hs
        · rename_i av x1 hv
          split at hs
          · cases hs
          · rename_i s2 x2 h2
            simp only [Option.some.injEq, Prod.mk.injEq] at hs
            obtain ⟨rfl, rfl⟩ := hs
            obtain ⟨hr, hok⟩ := valS_run hI hv fun q hq => hob q (List.mem_append_left _ hq)
            exact val_step hI hA hd av hok hr fun a' hI' => vsteps_list r hI' h2 (fun q hq => hob q (List.mem_append_right _ hq)) k
      · cases hs
theorem row_v {l : List Oper} (n : Nat) (hI : Inv B ρ s N a w) (hs : (vsteps P default N ops (l.take n) s).isSome = true) (ho : seenL (vobs P N ops (l.take n) s) = seenR (vobs P N ops (l.take n) s))
    (k : ∀ a', Inv B ρ (vres P N ops (l.take n) s) N a' w → wpList P ops Q (l.drop n) a' w) : wpList P ops Q l a w := by
  have := vsteps_list (P := P) (ops := ops) (Q := Q) (rest := l.drop n) (l.take n) hI (vsteps_is hs) (seen_all ho) k
  rwa [List.take_append_drop] at this
theorem region_v {id : Nat} (hI : Inv B ρ s N a w) (hs : (vsteps P default N ops ops.toList s).isSome = true) (ho : seenL (vobs P N ops ops.toList s) = seenR (vobs P N ops ops.toList s))
    (k : ∀ a', Inv B ρ (vres P N ops ops.toList s) N a' w → Q .normal a' w) : (Code.region id ops false).wp P Q a w := by
  refine wp_region_list ?_
  have := vsteps_list (P := P) (ops := ops) (Q := Q) (rest := []) ops.toList hI (vsteps_is hs) (seen_all ho) k
  rwa [List.append_nil] at this
theorem seq_v {id : Nat} {y : Code} (hI : Inv B ρ s N a w) (hs : (vsteps P default N ops ops.toList s).isSome = true) (ho : seenL (vobs P N ops ops.toList s) = seenR (vobs P N ops ops.toList s))
    (k : ∀ a', Inv B ρ (vres P N ops ops.toList s) N a' w → y.wp P Q a' w) : (Code.seq (Code.region id ops false) y).wp P Q a w := wp_seq (region_v hI hs ho k)
theorem wrap_i64 {x : Int} (h1 : -9223372036854775808 ≤ x) (h2 : x ≤ 9223372036854775807) : IntKind.i64.wrap x = x := by rw [IntKind.wrap_i64]; omega
theorem run_rem {t : TypeId} {x y : Int} (hy : y ≠ 0) : (binOp .rem t (.int .i64 x) (.int .i64 y)).run P w = .ok (.int .i64 (x.tmod y)) w := by simp [go_sem, hy]
/-- a sum, a quotient and the like, told by hand. -/
theorem bin_ok (hI : Inv B ρ s N a w) (hA : gpath ops s o = some []) (hd : dstB N [] o.dst = true) {op : BinOp} {t t2 : TypeId} {x y : Operand} (hop : o.op = .binOp op t x y t2) {xv yv v : Value} (hx : s.look [] x = some (.v xv)) (hy : s.look [] y = some (.v yv))
    (hrun : (eqGuard op t x y xv yv).run P w = .ok () w ∧ (binOp op t xv yv).run P w = .ok v w) (k : ∀ a', Inv B ρ (s.put o.dst [] (.v v)) N a' w → wpList P ops Q rest a' w) : wpList P ops Q (o :: rest) a w := by
  refine val_step hI hA hd (.v v) trivial (fun _ => ?_) k
  unfold execOp
  rw [hop]
  simp only [hI.val hx, hI.val hy, Sem.run_bind, hrun.1, hrun.2, Result.andThen_ok, Sem.run_pure]
  rfl
/-- a piece of a slice. -/
theorem slice_ok (hI : Inv B ρ s N a w) (hA : gpath ops s o = some []) (hd : dstB N [] o.dst = true) {t : TypeId} {x : Operand} {lo hi : Option Operand} (hop : o.op = .slice t x lo hi none) {xv v : Value} {lov hiv : Option Value} (hx : s.look [] x = some (.v xv)) (hlo : lo.map (s.look []) = lov.map fun y => some (.v y)) (hhi : hi.map (s.look []) = hiv.map fun y => some (.v y))
    (hrun : (Instr.sliceAt t xv lov hiv none).run P w = .ok v w) (k : ∀ a', Inv B ρ (s.put o.dst [] (.v v)) N a' w → wpList P ops Q rest a' w) : wpList P ops Q (o :: rest) a w := by
  refine val_step hI hA hd (.v v) trivial (fun _ => ?_) k
  have e : ∀ (z : Option Operand) (zv : Option Value), z.map (s.look []) = zv.map (fun y => some (.v y)) → z.map a.eval = zv := by
    intro z zv h
    cases z with
    | none => cases zv with
      | none => rfl
      | some y => cases h
    | some y => cases zv with
      | none => cases h
      | some u =>
        simp only [Option.map_some, Option.some.injEq] at h
        simp only [Option.map_some, hI.val h]
  unfold execOp
  rw [hop]
  simp only [hI.val hx, e _ _ hlo, e _ _ hhi, Option.map_none, Sem.run_bind, hrun, Result.andThen_ok, Sem.run_pure]
  rfl
theorem Inv.lt (hI : Inv B ρ s N a w) {g : Nat} (h : g ∈ ρ) : g < w.heap.size := by
  obtain ⟨b, hb, rfl⟩ := List.getElem_of_mem h
  have := (hI.mem b _ _ (List.getElem?_eq_getElem (by rw [← hI.len]; exact hb))).lt
  rwa [nth_get hb] at this
/-- bytes put behind bytes of the call's own, or behind none. -/
theorem append_ok (hI : Inv B ρ s N a w) (hgd : o.guard = none) (hd : dstB N [] o.dst = true) (x y : Operand) (t : TypeId) (hop : o.op = .call { callee := .builtin .append, args := #[x, y], argTypes := #[t, t] })
    (base : Nat) (e : TypeId) (i : TypeInfo) (z : Value) (ht : P.underlying t = some (.slice e)) (hi : P.info? e = some i) (hz : i.zero = some z) (hsize : i.size = 1) (hby : i.bytes = 1) (hzs : z.cells.size = 1)
    (v : Value) (l : List UInt8) (hs : s.look [] x = some (.v v)) (hown : w.ownsRow base e 1 v l.length (cells8 l))
    (B' : Nat) (A : Option Addr) (m c : Nat) (k : List UInt8) (hx : s.look [] y = some (.v (.slice A m c))) (hr : Row8 w B' A m c k) (hbytes : l.length + m ≤ 140737488355328) (hbase : base ≤ w.heap.size) (hlo : ∀ g ∈ ρ, g < base)
    (h : ∀ v' a' w', w'.ownsRow base e 1 v' (l ++ k).length (cells8 (l ++ k)) → Below base w w' → Inv B ρ (s.put o.dst [] (.v v')) N a' w' → wpList P ops Q rest a' w') : wpList P ops Q (o :: rest) a w := by
  refine wpList_append_row w hgd x y t hop base e i z ht hi hz hsize hby hzs v l (hI.val hs) hown B' A m c k (hI.val hx) hr hbytes hbase fun v' w' ho hg hl => ?_
  have hb : Below base w w' := (Below.refl base w).grown hg hbase hl
  have hI' : Inv B ρ s N a w' := ⟨hI.size, hI.dfr, hI.tab, hI.len, hI.nd, fun b t cs hm => by
      have h1 := hI.mem b t cs hm
      exact h1.below hb (hlo _ (nth_mem (by rw [hI.len]; exact (List.getElem?_eq_some_iff.1 hm).1))), hI.base, Nat.le_trans hI.big hb.size, hI.wrok⟩
  exact h v' _ w' ho hb (inv_put hI' hd trivial (fun _ => rfl) fun h => absurd (fun _ hx => (nomatch hx)) h)
theorem Inv.draw (hI : Inv B ρ s N a w) : Inv B ρ s N a { w with drawn := w.drawn + 1 } := ⟨hI.size, hI.dfr, hI.tab, hI.len, hI.nd, hI.mem, hI.base, hI.big, hI.wrok⟩
/-- a region whose order is open, of operations that only reckon and read. -/
theorem open_ok {id : Nat} {l : List Oper} (hI : Inv B ρ s N a w) (hm : P.follows .mixedOrders = true) (hB : Region.lexB .any l.toArray = true) (hs : (vsteps P default N l.toArray l s).isSome = true) (ho : seenL (vobs P N l.toArray l s) = seenR (vobs P N l.toArray l s))
    (k : ∀ a', Inv B ρ (vres P N l.toArray l s) N a' { w with drawn := w.drawn + 1 } → Q .normal a' { w with drawn := w.drawn + 1 }) : (Code.region id l.toArray true).wp P Q a w :=
  wp_region_still_lit hm hB (vsteps_ok l hI.draw (vsteps_is hs) (seen_all ho) k)
/-- .. of which the last ones do more, in one order. -/
theorem tail_ok {id : Nat} {l : List Oper} (n : Nat) (hI : Inv B ρ s N a w) (hm : P.follows .mixedOrders = true) (hB : Region.lexTailB .any l.toArray n = true) (hs : (vsteps P default N l.toArray (l.take n) s).isSome = true) (ho : seenL (vobs P N l.toArray (l.take n) s) = seenR (vobs P N l.toArray (l.take n) s))
    (k : ∀ a', Inv B ρ (vres P N l.toArray (l.take n) s) N a' { w with drawn := w.drawn + 1 } → wpList P l.toArray Q (l.drop n) a' { w with drawn := w.drawn + 1 }) : (Code.region id l.toArray true).wp P Q a w :=
  wp_region_still_tail n hm hB (vsteps_ok (l.take n) hI.draw (vsteps_is hs) (seen_all ho) k)
end
end Go.Proofs.YtliejllegabdnaaDoor.Ev
