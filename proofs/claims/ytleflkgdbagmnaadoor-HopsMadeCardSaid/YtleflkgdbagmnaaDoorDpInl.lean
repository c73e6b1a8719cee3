/- Deep reckoning, more rules: functions that are called with objects of their caller's, may write them, and may hand back objects of their own. No function of the program in it. -/
import Derived.Test.YtleflkgdbagmnaaDoorDpStr
namespace Go.Proofs.YtleflkgdbagmnaaDoor.Dp
open Go.RowKit Go.Proofs.YtleflkgdbagmnaaDoor.Sm
open Go.Proofs.YtleflkgdbagmnaaDoor.Ev (Obl opnds dstB PT nx pt_put undef_bool pickB isRow_false seenL seenR seen_all resRun)
set_option maxHeartbeats 1000000
set_option linter.unusedVariables false
set_option linter.unusedSimpArgs false
/-- objects that somebody owns. -/
structure Mem (κ : Nat → Prop) (ρ : Own) (mem : List Obj) (w : World) : Prop where
  len : ρ.length = mem.length
  own : ∀ (b : Nat) (x : Nat × Nat), ρ[b]? = some (some x) → κ x.1 ∧ x.1 < w.heap.size
  nd : ∀ (b b' : Nat) (x x' : Nat × Nat), ρ[b]? = some (some x) → ρ[b']? = some (some x') → x.1 = x'.1 → b = b'
  mem : ∀ b o, mem[b]? = some o → ObjOk κ w ρ b o
/-- function f, called with ds, where mem are its caller's objects, returns what R tells of the result and of the objects then, the caller's first; nothing else that was there turns. -/
def PI (P : Program) (G : List (Nat × List D)) (f : FuncId) (ds : List D) (mem : List Obj) (R : D → List Obj → Prop) : Prop :=
  ∀ (κ : Nat → Prop) (w : World) (ρ : Own) (vs : List Value), Mem κ ρ mem w → (∀ g, w.heap.size ≤ g → κ g) → (∀ x ∈ G, GlC w (okW κ w ρ) x) → vs.length = ds.length → (∀ (j : Nat) (d : D) (v : Value), ds[j]? = some d → vs[j]? = some v → RepO w (okW κ w ρ) ρ d v) →
    Calls P f vs.toArray w fun e w' => ∃ v d mem' ρ', e = .returned v ∧ R d mem' ∧ RepO w' (okW κ w' ρ') ρ' d v ∧ Mem κ ρ' mem' w' ∧ (∀ (i : Nat) (x : Option (Nat × Nat)), ρ[i]? = some x → ρ'[i]? = some x) ∧ (∀ (b : Nat) (x : Nat × Nat), ρ'[b]? = some (some x) → w.heap.size ≤ x.1 ∨ ∃ (i : Nat) (y : Nat × Nat), ρ[i]? = some (some y) ∧ y.1 = x.1) ∧
      w'.os = w.os ∧ w'.tape = w.tape ∧ w'.output = w.output ∧ w.heap.size ≤ w'.heap.size ∧ ∀ k, k < w.heap.size → (∀ b c : Nat, ρ[b]? ≠ some (some (k, c))) → w'.heap[k]? = w.heap[k]?
/-- results as they stand. -/
def resI1 (P : Program) (s : St) : ResultVar → Option (D × List Prop)
  | .tmp t => (s.look [] (.tmp t)).map fun d => (d, [])
  | .cell q ty => match s.look [] (.tmp q) with
    | some d => loadD P s ty d
    | none => none
def resI (P : Program) (s : St) : List ResultVar → Option (D × List Prop)
  | [r] => resI1 P s r
  | _ => none
def retI (P : Program) (rs : List ResultVar) (R : D → List Obj → Prop) : Exit → St → Prop
  | .normal, s => ∃ d ps, resI P s rs = some (d, ps) ∧ andL ps ∧ R d s.mem
  | .ret, s => ∃ d ps, resI P s rs = some (d, ps) ∧ andL ps ∧ R d s.mem
  | _, _ => False
section
variable {κ : Nat → Prop} {B : Base} {N : Nat} {ρ ρ' : Own} {s s' : St} {a : Act} {w w' w0 : World} {A : List (Nat × Bool)} {o : Oper} {ops : Array Oper} {P : Program} {d d' : D} {v : Value} {rest l : List Oper} {Q : Exit → St → Prop} {G : List (Nat × List D)} {f : FuncId} {ds ds0 : List D} {R : D → List Obj → Prop} {c : Code} {hs : List Nat} {n i b : Nat} {listed : Array Bool} {ps : List Prop} {mem : List Obj}
theorem resI_run (hI : Inv κ B ρ s N a w) {fn : Func} (h : resI P s fn.results.toList = some (d, ps)) (hp : ∀ p ∈ ps, p) : ∃ v, (results fn a.tmps).run P w = .ok v w ∧ RepO w (okW κ w ρ) ρ d v := by
  have hrs : (results fn a.tmps) = (do let vs ← fn.results.mapM (resRun a.tmps); pure (if h : vs.size = 1 then vs[0] else .tuple vs) : Sem Value) := rfl
  rw [hrs]
  generalize hr : fn.results = rs at h
  obtain ⟨l⟩ := rs
  change resI P s l = some (d, ps) at h
  match l, h with
  | [r], h =>
    have h1 : ∃ v, (resRun a.tmps r).run P w = .ok v w ∧ RepO w (okW κ w ρ) ρ d v := by
      simp only [resI] at h
      cases r with
      | tmp t =>
        simp only [resI1] at h
        obtain ⟨d0, h1, h2⟩ := Option.map_eq_some_iff.1 h
        injection h2 with h2 h3
        subst h2
        refine ⟨sl a t, ?_, look_rep hI h1 pt_nil⟩
        show (pure _ : Sem Value).run P w = _
        rw [Sem.run_pure]
        rfl
      | cell q ty =>
        simp only [resI1] at h
        split at h
        · rename_i d0 hq
          have hq' := look_rep hI hq pt_nil
          obtain ⟨u, h4, h3'⟩ := loadD_run hI hq' h hp
          have h3 := h3' w (fun _ _ => rfl) (fun _ _ _ _ _ _ _ _ => rfl)
          have hptr : ∃ ad, a.eval (.tmp q) = .pointer (some ad) := by
            generalize a.eval (.tmp q) = vv at hq'
            cases d0 with
            | q cs o => cases hq' with
              | one hq' => cases hq' with
                | c hq' => cases hq'; exact ⟨_, rfl⟩
            | p b z i o => cases hq' with
              | one hq' => cases hq' with
                | c hq' => cases hq'
                | p hq' => exact ⟨_, rfl⟩
            | _ => simp [loadD] at h
          obtain ⟨ad, had⟩ := hptr
          refine ⟨u, ?_, h4⟩
          rw [had] at h3
          have hsl : sl a q = .pointer (some ad) := had
          have hsl' : a.tmps.getD q undef = .pointer (some ad) := hsl
          show (do loadVar ty (← asAddr (a.tmps.getD q undef)) : Sem Value).run P w = _
          rw [hsl']
          simp only [Instr.loadAt, Instr.sureAddr, Sem.run_bind, Sem.run_pure, Result.andThen_ok] at h3
          simp only [asAddr, Sem.run_bind, Sem.run_pure, Result.andThen_ok, h3]
        · cases h
    obtain ⟨v, h1, h2⟩ := h1
    exact ⟨v, by simp [h1], h2⟩
theorem PI.of {fn : Func} (hf : P.funcs[f]? = some fn) (hb : fn.body = some c) (hn : fn.ntmps = N) (hle : ds.length ≤ N) (h : PW P N c (retI P fn.results.toList R) { tab := entsD 0 ds, mem := mem, gl := G, fx := mem.length }) : PI P G f ds mem R := by
  intro κ w ρ vs hM hκ hG hl hd
  have hsz : (vs.toArray ++ Array.replicate (fn.ntmps - vs.toArray.size) undef).size = N := by simp; omega
  have hI : Inv κ ⟨w.heap.size, ρ⟩ ρ { tab := entsD 0 ds, mem := mem, gl := G, fx := mem.length } N { tmps := vs.toArray ++ Array.replicate (fn.ntmps - vs.toArray.size) undef, defers := [] } w := by
    refine ⟨hsz, rfl, fun e he => ?_, hM.len, fun b y hy => ⟨.inr ⟨b, y, hy, rfl⟩, (hM.own b y hy).2⟩, hM.nd, hM.mem, hG, Nat.le_refl _, ?_, hM.len.symm, fun i y h => h⟩
    · obtain ⟨j, d, h1, rfl⟩ := entsD_mem _ _ _ he
      have hj : j < vs.length := by rw [hl]; exact (List.getElem?_eq_some_iff.1 h1).1
      refine ⟨fun _ => ?_, fun h => absurd pt_nil h, ?_⟩
      · show RepO _ _ _ d (Sm.sl _ (0 + j))
        have h2 := List.getElem?_eq_getElem hj
        have h3 : (vs.toArray ++ Array.replicate (fn.ntmps - vs.toArray.size) undef)[j]? = some vs[j] := by rw [Array.getElem?_append_left (by simpa using hj)]; simp
        have h4 : Sm.sl ⟨vs.toArray ++ Array.replicate (fn.ntmps - vs.toArray.size) undef, []⟩ (0 + j) = vs[j] := by
          unfold Sm.sl
          rw [Nat.zero_add]
          simp only [Array.getD_eq_getD_getElem?, h3, Option.getD_some]
        rw [h4]
        exact hd j d _ h1 h2
      · show 0 + j < (vs.toArray ++ Array.replicate (fn.ntmps - vs.toArray.size) undef).size
        rw [hsz]
        omega
    · rintro g (hg | ⟨i, y, h1, h2⟩)
      · exact hκ g hg
      · rw [← h2]; exact (hM.own i y h1).1
  refine calls_of_wp hf hb (Code.wp_mono ?_ (h _ _ _ _ _ hI))
  have fin : ∀ (s' : St) (ρ' : Own) (a' : Act) (w' : World), (∃ d ps, resI P s' fn.results.toList = some (d, ps) ∧ andL ps ∧ R d s'.mem) → Inv κ ⟨w.heap.size, ρ⟩ ρ' s' N a' w' → BelB ⟨w.heap.size, ρ⟩ w w' → a'.defers = [] ∧ ∃ v, (results fn a'.tmps).run P w' = .ok v w' ∧ ∃ v' d mem' ρ', Ending.returned v = .returned v' ∧ R d mem' ∧ RepO w' (okW κ w' ρ') ρ' d v' ∧ Mem κ ρ' mem' w' ∧ (∀ (i : Nat) (x : Option (Nat × Nat)), ρ[i]? = some x → ρ'[i]? = some x) ∧ (∀ (b : Nat) (x : Nat × Nat), ρ'[b]? = some (some x) → w.heap.size ≤ x.1 ∨ ∃ (i : Nat) (y : Nat × Nat), ρ[i]? = some (some y) ∧ y.1 = x.1) ∧
      w'.os = w.os ∧ w'.tape = w.tape ∧ w'.output = w.output ∧ w.heap.size ≤ w'.heap.size ∧ ∀ k, k < w.heap.size → (∀ b c : Nat, ρ[b]? ≠ some (some (k, c))) → w'.heap[k]? = w.heap[k]? := by
    rintro s' ρ' a' w' ⟨d, ps, h1, h2, h3⟩ hI' hb'
    obtain ⟨v, k1, k2⟩ := resI_run hI' h1 (andL_all h2)
    refine ⟨hI'.dfr, v, k1, v, d, s'.mem, ρ', rfl, h3, k2, ⟨hI'.len, fun b x hx => ⟨hI'.hκ _ (hI'.own b x hx).1, (hI'.own b x hx).2⟩, hI'.nd, hI'.mem⟩, hI'.fix, fun b x hx => (hI'.own b x hx).1, hb'.os, hb'.tape, hb'.output, hb'.size, fun k hk hn => hb'.block k hk fun ⟨i, y, q1, q2⟩ => hn i y.2 (by rw [q1, ← q2])⟩
  rintro e a' w' ⟨s', ρ', h1, h2, h3⟩
  cases e with
  | normal => exact fin s' ρ' a' w' h1 h2 h3
  | ret => exact fin s' ρ' a' w' h1 h2 h3
  | _ => exact h1.elim
theorem RepO.on {ok ok' : Nat → Prop} (h : RepO w ok ρ d v) (hk : ∀ g, ok g → ok' g ∧ w'.heap[g]? = w.heap[g]?) (hr : ∀ (i : Nat) (x : Option (Nat × Nat)), ρ[i]? = some x → ρ'[i]? = some x) : RepO w' ok' ρ' d v := by
  have h1 : ∀ {d : D} {v : Value}, Rep1 w ok ρ d v → Rep1 w' ok' ρ' d v := by
    intro d v h
    cases h with
    | c h => exact .c (h.mono hk)
    | p h => exact .p (hr _ _ h)
    | h h hn => exact .h (hr _ _ h) hn
    | h0 h => exact .h0 (hr _ _ h)
    | m h hk hc ho => exact .m (hr _ _ h) hk hc ho
    | m0 h => exact .m0 (hr _ _ h)
  cases h with
  | one h => exact .one (h1 h)
  | r hl hd => exact .r hl fun j d v a b => h1 (hd j d v a b)
/-- what such a call does to the state. -/
theorem callI_core (hI : Inv κ B ρ s N a w) (hc : callD P s [] o = some (f, ds)) (hm : s.mem = mem) (hG : s.gl = G) (hpi : PI P G f ds mem R) :
    ∃ vs : List Value, (execOp a.eval o).run P w = .ok (.enter f vs.toArray) w ∧ Calls P f vs.toArray w fun e w' => ∃ v d mem' ρ', e = .returned v ∧ R d mem' ∧ RepO w' (okW κ w' ρ') ρ' d v ∧ Inv κ B ρ' { s with mem := mem' } N a w' ∧ BelB B w w' ∧ Fr (List.range mem.length) ρ w ρ' w' := by
  subst hm hG
  obtain ⟨vs, h1, h2, h3⟩ := run_call hI pt_nil hc
  refine ⟨vs, h1, (hpi κ w ρ vs ⟨hI.len, fun b x hx => ⟨hI.hκ _ (hI.own b x hx).1, (hI.own b x hx).2⟩, hI.nd, hI.mem⟩ (fun g hg => hI.hκ g (.inl (Nat.le_trans hI.big hg))) hI.gl h2 h3).mono ?_⟩
  rintro e w' ⟨v, d, mem', ρ', rfl, hr, hrep, hM, hpre, hnew, k1, k2, k3, k4, k5⟩
  have hk : ∀ g, okW κ w ρ g → okW κ w' ρ' g ∧ w'.heap[g]? = w.heap[g]? := fun g hg => ⟨⟨⟨hg.1.1, Nat.lt_of_lt_of_le hg.1.2 k4⟩, fun b x hx e => by
    rcases hnew b x hx with h | ⟨i, y, q1, q2⟩
    · have := hg.1.2; omega
    · exact hg.2 i y q1 (q2.trans e)⟩, k5 g hg.1.2 fun b c hb => hg.2 b _ hb rfl⟩
  refine ⟨v, d, mem', ρ', rfl, hr, hrep, ⟨hI.size, hI.dfr, fun e he => ⟨fun hp => ((hI.tab e he).yes hp).on hk hpre, (hI.tab e he).no, (hI.tab e he).lt⟩, hM.len, fun b x hx => ⟨?_, (hM.own b x hx).2⟩, hM.nd, hM.mem, fun y hy => (hI.gl y hy).mono hk, Nat.le_trans hI.big k4, hI.hκ, hI.fx, fun i x h => hpre i x (hI.fix i x h)⟩, ⟨k1, k2, k3, k4, fun k hkB hl => k5 k (Nat.lt_of_lt_of_le hkB hI.big) fun b c hb => ?_⟩, ⟨fun k hkw hne => k5 k hkw fun b c hb => hne b (List.mem_range.2 (by rw [← hI.len]; exact (List.getElem?_eq_some_iff.1 hb).1)) c hb, fun b k c h hkw => by
    rcases hnew b (k, c) h with h1 | ⟨i, y, q1, q2⟩
    · exact absurd hkw (Nat.not_lt.2 h1)
    · have e := hM.nd i b y (k, c) (hpre i _ q1) h q2
      subst e
      exact ⟨y.2, by rw [q1, ← (show y.1 = k from q2)]⟩⟩⟩
  · rcases hnew b x hx with h | ⟨i, y, q1, q2⟩
    · exact .inl (Nat.le_trans hI.big h)
    · rw [← q2]; exact (hI.own i y q1).1
  · rcases (hI.own b _ hb).1 with h | h
    · exact absurd hkB (Nat.not_lt.2 h)
    · exact hl h
theorem PL.callI (hA : gpath ops s o = some []) (hd : dstB N [] o.dst = true) (hc : callD P s [] o = some (f, ds)) (hm : s.mem = mem) (hG : s.gl = G) (hpi : PI P G f ds mem R) (k : ∀ d mem', R d mem' → PL P N ops rest Q ({ s with mem := mem' }.put o.dst [] d)) : PL P N ops (o :: rest) Q s := fun κ B ρ a w0 w hI hb0 => by
  obtain ⟨vs, h1, h2⟩ := callI_core hI hc hm hG hpi
  refine BigFrame.wpList_want (gpath_nil hI hA) fun K hK => ?_
  unfold Oper.wp
  rw [h1, Oper.upon_enter]
  refine h2.mono ?_
  rintro e w' ⟨v, d, mem', ρ', rfl, hr, hrep, hI', hb, _⟩
  exact hK _ _ (k d mem' hr κ B ρ' _ w0 w' (inv_put hI' hd (fun _ => hrep) fun h => absurd pt_nil h) (hb0.trans hb))
theorem PO1.callI (ho : ops[i]? = some o) (hA : gpath ops s o = some []) (hd : dstB N [] o.dst = true) (hc : callD P s [] o = some (f, ds)) (hm : s.mem = mem) (hG : s.gl = G) (hT : (List.range mem.length).all (fun b => hs.contains b) = true) (hpi : PI P G f ds mem R) (k : ∀ d mem', R d mem' → PO P N ops hs n (listed.setIfInBounds i true) Q ({ s with mem := mem' }.put o.dst [] d)) : PO1 P N ops hs n listed Q s i := fun κ B ρ a w0 w hI hb0 => by
  obtain ⟨vs, h1, h2⟩ := callI_core hI hc hm hG hpi
  refine wpOp_of ho (BigFrame.wpList_want (gpath_nil hI hA) fun K hK => ?_)
  unfold Oper.wp
  rw [h1, Oper.upon_enter]
  refine h2.mono ?_
  rintro e w' ⟨v, d, mem', ρ', rfl, hr, hrep, hI', hb, hfr⟩
  exact hK _ _ ⟨hfr.agree hT hb.size, wpAnyH_monoS (hfr.agrees hT hb.size) _ _ _ _ (k d mem' hr κ B ρ' _ w0 w' (inv_put hI' hd (fun _ => hrep) fun h => absurd pt_nil h) (hb0.trans hb))⟩
/-! ### what is lent to be read alone -/
theorem Inv.wide (hI : Inv κ B ρ s N a w) : Inv (fun _ => True) ⟨0, []⟩ ρ { s with fx := 0 } N a w := by
  have hk : ∀ g, okW κ w ρ g → okW (fun _ => True) w ρ g := fun g hg => ⟨⟨trivial, hg.1.2⟩, hg.2⟩
  have hm : ∀ g, okW κ w ρ g → okW (fun _ => True) w ρ g ∧ w.heap[g]? = w.heap[g]? := fun g hg => ⟨hk g hg, rfl⟩
  have one : ∀ {d : D} {v : Value}, Rep1 w (okW κ w ρ) ρ d v → Rep1 w (okW (fun _ => True) w ρ) ρ d v := by
    intro d v h
    cases h with
    | c h => exact .c (h.mono hm)
    | p h => exact .p h
    | h h hn => exact .h h hn
    | h0 h => exact .h0 h
    | m h hk hc ho => exact .m h hk hc ho
    | m0 h => exact .m0 h
  refine ⟨hI.size, hI.dfr, fun e he => ⟨fun hp => ((hI.tab e he).yes hp).keep hk, (hI.tab e he).no, (hI.tab e he).lt⟩, hI.len, fun b x hx => ⟨.inl (Nat.zero_le _), (hI.own b x hx).2⟩, hI.nd, fun b o ho => ?_, fun y hy => (hI.gl y hy).mono hm, Nat.zero_le _, fun _ _ => trivial, rfl, fun i x h => by simp at h⟩
  have h4 := hI.mem b o ho
  cases o with
  | dead => exact h4
  | var t ds =>
    obtain ⟨g', us, r1, r2, r3, r4⟩ := h4
    exact ⟨g', us, r1, r2, r3, fun j d v q1 q2 => one (r4 j d v q1 q2)⟩
  | row t z n f =>
    rcases h4 with r | ⟨g', c, cur, r1, r2, r3, r4, r5, r6⟩
    · exact .inl r
    · refine .inr ⟨g', c, cur, r1, r2, r3, r4, r5, fun i hi => ⟨(r6 i hi).1, (r6 i hi).2.1, fun j d hj => ?_⟩⟩
      obtain ⟨v, k1, k2⟩ := (r6 i hi).2.2 j d hj
      exact ⟨v, k1, k2.mono hm⟩
def closeA (s : St) : List D → Option (List D × List Prop)
  | [] => some ([], [])
  | d :: r => match closeD s d, closeA s r with
    | some (d', p), some (r', q) => some (d' :: r', p ++ q)
    | _, _ => none
theorem closeA_rep (hI : Inv κ B ρ s N a w) : ∀ {cs cs' : List D} {vs : List Value} {ps : List Prop}, closeA s cs = some (cs', ps) → vs.length = cs.length → (∀ (j : Nat) (d : D) (u : Value), cs[j]? = some d → vs[j]? = some u → RepO w (okW κ w ρ) ρ d u) → (∀ p ∈ ps, p) → vs.length = cs'.length ∧ ∀ (j : Nat) (d : D) (u : Value), cs'[j]? = some d → vs[j]? = some u → RepC w (okA κ B w) d u
  | [], cs', vs, ps, h, hl, _, _ => by
    simp only [closeA, Option.some.injEq, Prod.mk.injEq] at h
    obtain ⟨rfl, rfl⟩ := h
    exact ⟨hl, fun j d u h => by simp at h⟩
  | d :: r, cs', vs, ps, h, hl, hd, hp => by
    simp only [closeA] at h
    split at h
    · rename_i d' p r' q h1 h2
      simp only [Option.some.injEq, Prod.mk.injEq] at h
      obtain ⟨rfl, rfl⟩ := h
      cases vs with
      | nil => simp at hl
      | cons u us =>
        obtain ⟨q1, q2⟩ := closeA_rep hI (vs := us) h2 (by simpa using hl) (fun j d u a b => hd (j + 1) d u a b) fun p hp' => hp p (List.mem_append_right _ hp')
        refine ⟨by simp [q1], fun j d u h3 h4 => ?_⟩
        cases j with
        | zero =>
          simp only [List.getElem?_cons_zero, Option.some.injEq] at h3 h4
          subst h3 h4
          exact closeD_rep hI (hd 0 _ _ rfl rfl) h1 fun p hp' => hp p (List.mem_append_left _ hp')
        | succ j => exact q2 j d u (by simpa using h3) (by simpa using h4)
    · cases h
theorem PO.eq (h : s = s') (k : PO P N ops hs n listed Q s') : PO P N ops hs n listed Q s := h ▸ k
theorem PO.sel (dl : List Nat) (mm : Nat) (hs1 : s.sel dl mm = s') (hu : s'.underB mm = true) (h : PO P N ops hs n listed Q s') : PO P N ops hs n listed Q s := fun κ B ρ a w0 w hI hb => by
  subst hs1
  exact wpAnyH_monoS (fun u hA => ⟨hA.size, fun k hk hn => hA.block k hk fun ⟨b, hb, c, hc⟩ => hn ⟨b, hb, c, (take_get hc).1⟩⟩) _ _ _ _ (h κ B _ a w0 w (hI.sel dl mm hu) hb)
/-! ### a nil slice in a variable as a row of nothing -/
def St.bornC (s : St) (b j : Nat) (t0 : TypeId) (cs : List D) (t : TypeId) (z : Nat) : St := { s with mem := (s.mem ++ [Obj.row t z 0 fun _ => []]).set b (Obj.var t0 (cs.set j (.h s.mem.length 0))) }
theorem Inv.bornC (hI : Inv κ B ρ s N a w) {b j : Nat} {t0 : TypeId} {cs : List D} (t : TypeId) (z : Nat) (hm : s.mem[b]? = some (.var t0 cs)) (hj : cs[j]? = some (.v (.slice none 0 0))) : Inv κ B (ρ ++ [none]) (s.bornC b j t0 cs t z) N a w := by
  have hI2 := inv_new hI (Below.refl _ _) (x := none) (ob := .row t z 0 fun _ => []) (fun y hy => by cases hy) (.inl ⟨by simp, rfl⟩)
  have hbl := (List.getElem?_eq_some_iff.1 hm).1
  obtain ⟨g, vs, r1, r2, r3, r4⟩ := hI2.mem b (.var t0 cs) (by show (s.mem ++ [_])[b]? = _; rw [List.getElem?_append_left hbl]; exact hm)
  refine hI2.setObj (b := b) (ob := .var t0 (cs.set j (.h s.mem.length 0))) ⟨g, vs, by rw [List.length_set]; exact r1, r2, by rw [List.length_set]; exact r3, fun i d v q1 q2 => ?_⟩
  by_cases hij : i = j
  · subst hij
    rw [List.getElem?_set_self (List.getElem?_eq_some_iff.1 hj).1] at q1
    injection q1 with q1
    subst q1
    have := r4 i _ v hj q2
    cases this with
    | c h => cases h; exact .h0 (by rw [← hI.len]; simp)
  · rw [List.getElem?_set_ne (Ne.symm hij)] at q1
    exact r4 i d v q1 q2
theorem PW.bornC (b j : Nat) (t : TypeId) (z : Nat) {t0 : TypeId} {cs : List D} (hm : s.mem[b]? = some (.var t0 cs)) (hj : cs[j]? = some (.v (.slice none 0 0))) (he : s.bornC b j t0 cs t z = s') (h : PW P N c Q s') : PW P N c Q s := fun κ B ρ a w hI => by
  subst he
  exact h κ B _ a w (hI.bornC t z hm hj)
end
end Go.Proofs.YtleflkgdbagmnaaDoor.Dp
