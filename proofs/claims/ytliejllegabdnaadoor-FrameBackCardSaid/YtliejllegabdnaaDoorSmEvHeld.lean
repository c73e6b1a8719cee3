/- Rows of operations, reckoned: regions whose order is open and that hold calls: what only reckons and reads is taken as soon as it may come up. No function of the program in it. -/
import Derived.Test.YtliejllegabdnaaDoorSmEvTop
import Derived.Test.YtliejllegabdnaaDoorSmHeld
namespace Go.Proofs.YtliejllegabdnaaDoor.Ev
open Go.RowKit Go.Proofs.YtliejllegabdnaaDoor.Sm
set_option maxHeartbeats 1000000
set_option linter.unusedVariables false

/-- what holds throughout. -/
def Mem (B : Nat) (ρ : List Nat) (s : St) (X : World → Prop) (u : World) : Prop := (∀ b t cs, s.mem[b]? = some (t, cs) → Ob u (nth ρ b) t cs) ∧ B ≤ u.heap.size ∧ X u
/-- a panic tells nothing of the frame. -/
def Deaf (Q : Exit → Act → World → Prop) : Prop := ∀ c a d v w, Q (.panic c) (Act.put a d v) w → Q (.panic c) a w
def takesB (ops : Array Oper) : List Nat → Array Bool → Bool
  | [], _ => true
  | i :: r, listed => Region.free .any ops listed i && (Region.ready .any ops listed).contains i && takesB ops r (listed.setIfInBounds i true)
def after : List Nat → Array Bool → Array Bool
  | [], listed => listed
  | i :: r, listed => after r (listed.setIfInBounds i true)
def isteps (P : Program) (w0 : World) (N : Nat) (ops : Array Oper) : List Nat → St → Option (St × List Obl)
  | [], s => some (s, [])
  | i :: r, s => match ops[i]? with
    | none => none
    | some o => match gpath ops s o with
      | none => none
      | some A => if dstB N A o.dst then
          match valS P w0 s A o with
          | none => none
          | some (av, x1) => match isteps P w0 N ops r (s.put o.dst A av) with
            | none => none
            | some (s2, x2) => some (s2, x1 ++ x2)
        else none
noncomputable def ires (P : Program) (N : Nat) (ops : Array Oper) (l : List Nat) (s : St) : St := ((isteps P default N ops l s).getD (s, [])).1
noncomputable def iobs (P : Program) (N : Nat) (ops : Array Oper) (l : List Nat) (s : St) : List Obl := ((isteps P default N ops l s).getD (s, [])).2
section
variable {B N : Nat} {ρ : List Nat} {s : St} {a : Act} {w : World} {A : List (Nat × Bool)} {o : Oper} {ops : Array Oper} {P : Program} {Q : Exit → Act → World → Prop} {X : World → Prop}
theorem isteps_is {l : List Nat} (h : (isteps P default N ops l s).isSome = true) : isteps P default N ops l s = some (ires P N ops l s, iobs P N ops l s) := by
  obtain ⟨x, hx⟩ := Option.isSome_iff_exists.1 h
  unfold ires iobs
  rw [hx]
  rfl
theorem put_mem (s : St) (d : Option Nat) (A : List (Nat × Bool)) (av : AV) : (s.put d A av).mem = s.mem := by cases d <;> rfl
theorem Inv.at_ (hI : Inv B ρ s N a w) {s0 : St} (hm : s.mem = s0.mem) {u : World} (hu : Mem B ρ s0 X u) : Inv B ρ s N a u :=
  ⟨hI.size, hI.dfr, hI.tab, hI.len, hI.nd, by rw [hm]; exact hu.1, hI.base, hu.2.1, hI.wrok⟩
theorem isteps_ok {w0 : World} {s0 : St} (hX : X w) (hQ : Deaf Q) (hsel : Region.noSelect ops = true) {fuel : Nat} : ∀ (l : List Nat) {s s' : St} {a : Act} {obs : List Obl} {listed : Array Bool}, s.mem = s0.mem → Inv B ρ s N a w → isteps P w0 N ops l s = some (s', obs) → (∀ q ∈ obs, ∀ g u, q.l g u = q.r g u) → takesB ops l listed = true →
    (∀ a', s'.mem = s0.mem → Inv B ρ s' N a' w → wpAnyH P .any ops Q (Mem B ρ s0 X) fuel (after l listed) a' w) → wpAnyH P .any ops Q (Mem B ρ s0 X) (fuel + l.length) listed a w
  | [], s, s', a, obs, listed, hm, hI, hs, _, _, k => by
    simp only [isteps, Option.some.injEq, Prod.mk.injEq] at hs
    obtain ⟨rfl, rfl⟩ := hs
    exact k a hm hI
  | i :: r, s, s', a, obs, listed, hm, hI, hs, hob, ht, k => by
    simp only [isteps] at hs
    split at hs
    · cases hs
    · rename_i o ho
      split at hs
      · cases hs
      · rename_i A hA
        split at hs
        · rename_i hd
          split at hs
          · cases hs
          · rename_i av x1 hv
            split at hs
            · cases hs
            · rename_i s2 x2 h2
              simp only [Option.some.injEq, Prod.mk.injEq] at hs
              obtain ⟨rfl, rfl⟩ := hs
              simp only [takesB, Bool.and_eq_true] at ht
              have hok := (valS_run hI hv fun q hq => hob q (List.mem_append_left _ hq)).2
              have ih : ∀ a', Inv B ρ (s.put o.dst A av) N a' w → wpAnyH P .any ops Q (Mem B ρ s0 X) (fuel + r.length) (listed.setIfInBounds i true) a' w := fun a' hI' => isteps_ok hX hQ hsel r (by rw [put_mem]; exact hm) hI' h2 (fun q hq => hob q (List.mem_append_right _ hq)) ht.2 k
              have hS : Mem B ρ s0 X w := ⟨by rw [← hm]; exact hI.mem, hI.big, hX⟩
              show wpAnyH P .any ops Q (Mem B ρ s0 X) (fuel + r.length + 1) listed a w
              by_cases hp : PT a A
              · refine wpAnyH_take ho hsel ht.1.1 ht.1.2 (fun c a w h => hQ c a _ _ w h) (.inl ⟨(wanted_iff hI hA).2 hp, fun u hu => ?_⟩) hS (ih _ (inv_put hI hd hok (fun _ => rfl) fun h => absurd hp h))
                exact (valS_run (hI.at_ hm hu) hv fun q hq => hob q (List.mem_append_left _ hq)).1 hp
              · refine wpAnyH_take ho hsel ht.1.1 ht.1.2 (fun c a w h => hQ c a _ _ w h) (.inr ⟨?_, rfl⟩) hS (ih _ (inv_put hI hd hok (fun h => absurd h hp) fun _ => rfl))
                rw [Bool.eq_false_iff]
                exact fun h => hp ((wanted_iff hI hA).1 h)
        · cases hs
/-- the region begins, and its first operations. -/
theorem held_begin {id : Nat} (X : World → Prop) (l : List Nat) (fuel : Nat) (hX : X w.drew) (hI : Inv B ρ s N a w) (hm : P.follows .mixedOrders = true) (hsel : Region.noSelect ops = true) (hQ : Deaf Q) (hf : fuel + l.length = ops.size) (ht : takesB ops l (Array.replicate ops.size false) = true) (hs : (isteps P default N ops l s).isSome = true) (ho : seenL (iobs P N ops l s) = seenR (iobs P N ops l s))
    (k : ∀ a', Inv B ρ (ires P N ops l s) N a' w.drew → wpAnyH P .any ops Q (Mem B ρ s X) fuel (after l (Array.replicate ops.size false)) a' w.drew) : (Code.region id ops true).wp P Q a w := by
  refine wp_region_held (S := Mem B ρ s X) hm ?_
  have := isteps_ok (P := P) (ops := ops) (w := w.drew) (s0 := s) (fuel := fuel) hX hQ hsel l rfl (hI.draw) (isteps_is hs) (seen_all ho) ht fun a' _ hI' => k a' hI'
  rwa [hf] at this
/-- more of them. -/
theorem held_more {s0 : St} (l : List Nat) {n fuel : Nat} {listed : Array Bool} (hX : X w) (hI : Inv B ρ s N a w) (hm : s.mem = s0.mem) (hsel : Region.noSelect ops = true) (hQ : Deaf Q) (hf : fuel + l.length = n) (ht : takesB ops l listed = true) (hs : (isteps P default N ops l s).isSome = true) (ho : seenL (iobs P N ops l s) = seenR (iobs P N ops l s))
    (k : ∀ a', Inv B ρ (ires P N ops l s) N a' w → wpAnyH P .any ops Q (Mem B ρ s0 X) fuel (after l listed) a' w) : wpAnyH P .any ops Q (Mem B ρ s0 X) n listed a w := by
  subst hf
  exact isteps_ok hX hQ hsel l hm hI (isteps_is hs) (seen_all ho) ht fun a' _ hI' => k a' hI'
/-- a call, when nothing else is left to come. -/
theorem held_call {s0 : St} {i n : Nat} {listed : Array Bool} (hI : Inv B ρ s N a w) (hm : s.mem = s0.mem) (ho : ops[i]? = some o) (hr : Region.ready .any ops listed = [i]) (hA : gpath ops s o = some A) (hp : A.map (fun x => s.look [] (.tmp x.1)) = A.map fun x => some (.v (.bool x.2))) (hd : dstB N [] o.dst = true) {l : List Operand} (hl : opnds o.op = some l) (hall : l.all (fun x => (s.look [] x).isSome) = true)
    {f : FuncId} {args : Array Value} (hrun : ∀ u, (execOp (lookV ρ s) o).run P u = .ok (.enter f args) u) {R : Value → World → Prop} (hc : Calls P f args w fun e w' => ∃ v, e = .returned v ∧ R v w') (hR : ∀ v w', R v w' → Below w.heap.size w w') (hX : ∀ v w', R v w' → X w')
    (k : ∀ v a' w', R v w' → Inv B ρ (s.put o.dst [] (.v v)) N a' w' → wpAnyH P .any ops Q (Mem B ρ s0 X) n (listed.setIfInBounds i true) a' w') : wpAnyH P .any ops Q (Mem B ρ s0 X) (n + 1) listed a w := by
  refine Sm.Held.later_call ho hr fun K hK => ?_
  rw [if_pos ((wanted_iff hI hA).2 (pt_of hI hp))]
  have he : (execOp a.eval o).run P w = .ok (.enter f args) w := by
    rw [execOp_congr hl (ρ₂ := lookV ρ s)]
    · exact hrun w
    · exact fun x hx => lookV_eval hI (List.all_eq_true.1 hall x hx)
  unfold Oper.wp
  rw [he, Oper.upon_enter]
  refine hc.mono ?_
  rintro e w' ⟨v, rfl, hr⟩
  have hI' := hI.later (hR v w' hr)
  exact hK.out _ _ ⟨by rw [← hm]; exact hI'.mem, hI'.big, hX v w' hr⟩ (k v _ w' hr (inv_put hI' hd trivial (fun _ => rfl) fun h => absurd (fun _ hx => (nomatch hx)) h))
/-- an operation whose guard says no. -/
theorem held_skip {s0 : St} {i n : Nat} {listed : Array Bool} (hX : X w) (hI : Inv B ρ s N a w) (hmm : s.mem = s0.mem) (hsel : Region.noSelect ops = true) (hQ : Deaf Q) (ho : ops[i]? = some o) (ht : (Region.free .any ops listed i && (Region.ready .any ops listed).contains i) = true) (hA : gpath ops s o = some A) {m : Nat} {b : Bool} (hm : s.look [] (.tmp m) = some (.v (.bool b))) (hin : A.contains (m, !b) = true)
    (k : ∀ a', Inv B ρ (s.drop o.dst) N a' w → wpAnyH P .any ops Q (Mem B ρ s0 X) n (listed.setIfInBounds i true) a' w) : wpAnyH P .any ops Q (Mem B ρ s0 X) (n + 1) listed a w := by
  simp only [Bool.and_eq_true] at ht
  have hw : Region.wanted o (yielded ops a.tmps) = false := by
    rw [Bool.eq_false_iff]
    intro h
    have h1 := (wanted_iff hI hA).1 h (m, !b) (by simpa using hin)
    have h3 : sl a m = .bool b := hI.val hm
    rw [h3] at h1
    injection h1 with h1
    cases b <;> cases h1
  exact wpAnyH_take ho hsel ht.1 ht.2 (fun c a w h => hQ c a _ _ w h) (.inr ⟨hw, rfl⟩) ⟨by rw [← hmm]; exact hI.mem, hI.big, hX⟩ (k _ (inv_drop hI _ _))
theorem held_pick {s0 : St} {i n : Nat} {listed : Array Bool} (hX : X w) (hI : Inv B ρ s N a w) (hmm : s.mem = s0.mem) (hsel : Region.noSelect ops = true) (hQ : Deaf Q) (ho : ops[i]? = some o) (ht : (Region.free .any ops listed i && (Region.ready .any ops listed).contains i) = true) (hA : gpath ops s o = some []) (hd : dstB N [] o.dst = true) {c x y : Operand} (hop : o.op = .pick c x y) {b : Bool} (hc : s.look [] c = some (.v (.bool b))) {av : AV} (hv : s.look [] (bif b then x else y) = some av)
    (k : ∀ a', Inv B ρ (s.put o.dst [] av) N a' w → wpAnyH P .any ops Q (Mem B ρ s0 X) n (listed.setIfInBounds i true) a' w) : wpAnyH P .any ops Q (Mem B ρ s0 X) (n + 1) listed a w := by
  simp only [Bool.and_eq_true] at ht
  have hp : PT a [] := fun _ hx => (nomatch hx)
  refine wpAnyH_take ho hsel ht.1 ht.2 (fun c a w h => hQ c a _ _ w h) (.inl ⟨(wanted_iff hI hA).2 hp, fun u hu => ?_⟩) ⟨by rw [← hmm]; exact hI.mem, hI.big, hX⟩ (k _ (inv_put hI hd (look_ok hI hv) (fun _ => rfl) fun h => absurd hp h))
  have e1 : a.eval c = .bool b := hI.val hc
  have e2 := (look_eval hI hv hp).1
  unfold execOp
  rw [hop]
  cases b with
  | true => simp only [e1, asBool, Sem.run_bind, Sem.run_pure, Result.andThen_ok, if_true]; exact congrArg (fun z => Result.ok (Next.value z) u) e2
  | false => simp only [e1, asBool, Sem.run_bind, Sem.run_pure, Result.andThen_ok]; exact congrArg (fun z => Result.ok (Next.value z) u) e2
/-- bytes made a string, and the like: what holds throughout tells what comes of it. -/
theorem held_conv {s0 : St} {i n : Nat} {listed : Array Bool} (hX : X w) (hI : Inv B ρ s N a w) (hmm : s.mem = s0.mem) (hsel : Region.noSelect ops = true) (hQ : Deaf Q) (ho : ops[i]? = some o) (ht : (Region.free .any ops listed i && (Region.ready .any ops listed).contains i) = true) (hA : gpath ops s o = some []) (hd : dstB N [] o.dst = true) {src dst : TypeId} {x : Operand} (hop : o.op = .convert src dst x) {xv v : Value} (hx : s.look [] x = some (.v xv)) (hc : ∀ u, X u → (convert src dst xv).run P u = .ok v u)
    (k : ∀ a', Inv B ρ (s.put o.dst [] (.v v)) N a' w → wpAnyH P .any ops Q (Mem B ρ s0 X) n (listed.setIfInBounds i true) a' w) : wpAnyH P .any ops Q (Mem B ρ s0 X) (n + 1) listed a w := by
  simp only [Bool.and_eq_true] at ht
  have hp : PT a [] := fun _ hx => (nomatch hx)
  refine wpAnyH_take ho hsel ht.1 ht.2 (fun c a w h => hQ c a _ _ w h) (.inl ⟨(wanted_iff hI hA).2 hp, fun u hu => ?_⟩) ⟨by rw [← hmm]; exact hI.mem, hI.big, hX⟩ (k _ (inv_put hI hd trivial (fun _ => rfl) fun h => absurd hp h))
  unfold execOp
  rw [hop]
  simp only [hI.val hx, Sem.run_bind, hc u hu.2.2, Result.andThen_ok, Sem.run_pure]
  rfl
theorem conv_ok {rest : List Oper} (hI : Inv B ρ s N a w) (hA : gpath ops s o = some []) (hd : dstB N [] o.dst = true) {src dst : TypeId} {x : Operand} (hop : o.op = .convert src dst x) {xv v : Value} (hx : s.look [] x = some (.v xv)) (hc : (convert src dst xv).run P w = .ok v w) (k : ∀ a', Inv B ρ (s.put o.dst [] (.v v)) N a' w → wpList P ops Q rest a' w) : wpList P ops Q (o :: rest) a w := by
  refine val_step hI hA hd (.v v) trivial (fun _ => ?_) k
  unfold execOp
  rw [hop]
  simp only [hI.val hx, Sem.run_bind, hc, Result.andThen_ok, Sem.run_pure]
  rfl
theorem held_done {s0 : St} {n : Nat} {listed : Array Bool} (hr : Region.ready .any ops listed = []) (h : Q .normal a w) : wpAnyH P .any ops Q (Mem B ρ s0 X) n listed a w := wpAnyH_done hr h n
end
end Go.Proofs.YtliejllegabdnaaDoor.Ev
