/- Several texts in one: SmEv SmEvTop SmEvHeld. -/
import Derived.Test.YtaoobnikeicceaaGreatDoorSmE
import Derived.StillTail
import Derived.WalkKit
import Derived.Great.BuildSlice
namespace Go.Proofs.YtaoobnikeicceaaGreatDoor.Ev
open Go.RowKit Go.Proofs.YtaoobnikeicceaaGreatDoor.Sm
set_option maxHeartbeats 1000000
set_option linter.unusedVariables false

/-- the b-th of some numbers. -/
def nth (ρ : List Nat) (b : Nat) : Nat := (ρ[b]?).getD 0
theorem nth_get {ρ : List Nat} {b : Nat} (h : b < ρ.length) : nth ρ b = ρ[b] := by unfold nth; rw [List.getElem?_eq_getElem h]; rfl
theorem nth_mem {ρ : List Nat} {b : Nat} (h : b < ρ.length) : nth ρ b ∈ ρ := by rw [nth_get h]; exact List.getElem_mem h
theorem nth_left {ρ : List Nat} {b : Nat} (h : b < ρ.length) (l : List Nat) : nth (ρ ++ l) b = nth ρ b := by unfold nth; rw [List.getElem?_append_left h]
theorem nth_last (ρ : List Nat) (g : Nat) : nth (ρ ++ [g]) ρ.length = g := by unfold nth; rw [List.getElem?_append_right (Nat.le_refl _), Nat.sub_self]; rfl
inductive AV where
  | v (x : Value)
  | p (b o : Nat)
def AV.to (ρ : List Nat) : AV → Value
  | .v x => x
  | .p b o => .pointer (some ⟨nth ρ b, o, none⟩)
def AV.ok (n : Nat) : AV → Prop
  | .v _ => True
  | .p b _ => b < n
/-- slot d holds av if the guards of 'path' say yes; else nothing. -/
structure Ent where
  d : Nat
  path : List (Nat × Bool)
  av : AV
structure St where
  tab : List Ent
  mem : List (TypeId × List Value)
  /-- which of the call's own variables were written. -/
  wr : List Nat := []
def St.find (s : St) (d : Nat) : Option Ent := s.tab.find? fun e => e.d == d
def St.look (s : St) (A : List (Nat × Bool)) : Operand → Option AV
  | .const x => some (.v x)
  | .tmp d => match s.find d with
    | some e => if e.path.all (fun x => A.contains x) then some e.av else none
    | none => none
  | x => some (.v ((⟨#[], []⟩ : Act).eval x))
def St.put (s : St) (d : Option Nat) (A : List (Nat × Bool)) (av : AV) : St := match d with
  | none => s
  | some d => { s with tab := ⟨d, A, av⟩ :: s.tab.filter fun e => e.d != d && e.path.all fun x => x.1 != d }
/-- what the kernel is to see: the same in every world, at every block. -/
structure Obl where
  l : Nat → World → Result Next
  r : Nat → World → Result Next
def opnds : Op → Option (List Operand)
  | .binOp _ _ x y _ => some [x, y]
  | .unOp _ _ x => some [x]
  | .convert _ _ x => some [x]
  | .field _ x _ => some [x]
  | .extract x _ => some [x]
  | .build _ parts => some (parts.toList.map (·.2))
  | .nilCheck x => some [x]
  | .makeInterface _ x => some [x]
  | .index _ x y => some [x, y]
  | .call c => some ((match c.callee with | .value f => [f] | .invoke r _ => [r] | .builtin _ => []) ++ c.args.toList)
  | _ => none
def gpath (ops : Array Oper) (s : St) (o : Oper) : Option (List (Nat × Bool)) := match o.guard with
  | none => some []
  | some (j, want) => match (ops[j]?).bind (·.dst) with
    | some m => (s.find m).map fun e => (m, want) :: e.path
    | none => none
def pickB (x y : Operand) (b p q : Bool) : Bool := match x, y with
  | .const (.bool true), _ => b || q
  | _, .const (.bool false) => b && p
  | _, _ => bif b then p else q
def plainV (s : St) (A : List (Nat × Bool)) (x : Operand) : Option Value := match s.look A x with
  | some (.v v) => some v
  | _ => none
def pureS (P : Program) (w0 : World) (s : St) (A : List (Nat × Bool)) (o : Oper) : Option (AV × List Obl) :=
  match opnds o.op with
  | none => none
  | some l =>
    if l.all (fun x => (plainV s A x).isSome) then
      match (execOp (fun x => (plainV s A x).getD undef) o).run P w0 with
      | .ok (.value v) _ => some (.v v, [⟨fun _ u => (execOp (fun x => (plainV s A x).getD undef) o).run P u, fun _ u => .ok (.value v) u⟩])
      | _ => none
    else none
def loadS (P : Program) (s : St) (b k : Nat) (t : TypeId) : Option AV :=
  match s.mem[b]? with
  | none => none
  | some (_, cs) =>
    match (P.underlying t).map (·.isRow) with
    | some false => (cs[k]?).map .v
    | some true => match (P.info? t).map (·.size) with
      | some n => if decide (k + n ≤ cs.length) then some (.v (.agg ((cs.drop k).take n).toArray)) else none
      | none => none
    | none => none
/-- operations that yield a value and leave memory alone. -/
def valS (P : Program) (w0 : World) (s : St) (A : List (Nat × Bool)) (o : Oper) : Option (AV × List Obl) :=
  match o.op with
  | .move x => (s.look A x).map fun av => (av, [])
  | .assign x => (s.look A x).map fun av => (av, [])
  | .pick (.tmp c) x y => match s.look A (.tmp c), s.look ((c, true) :: A) x, s.look ((c, false) :: A) y with
    | some (.v (.bool b)), some (.v (.bool p)), some (.v (.bool q)) => some (.v (.bool (pickB x y b p q)), [])
    | _, _, _ => none
  | .fieldAddr _ x _ => match s.look A x with
    | some (.p b k) => match (execOp (fun _ => .pointer (some ⟨0, k, none⟩)) o).run P w0 with
      | .ok (.value (.pointer (some a))) _ => some (.p b a.off, [⟨fun g u => (execOp (fun _ => .pointer (some ⟨g, k, none⟩)) o).run P u, fun g u => .ok (.value (.pointer (some ⟨g, a.off, none⟩))) u⟩])
      | _ => none
    | _ => none
  | .load t x => match s.look A x with
    | some (.p b k) => (loadS P s b k t).map fun av => (av, [])
    | _ => none
  | .nilCheck x => match s.look A x with
    | some (.p b k) => some (.p b k, [])
    | _ => pureS P w0 s A o
  | _ => pureS P w0 s A o
def nx : Result Value → Result Next
  | .ok v w => .ok (.value v) w
  | .halt h w => .halt h w
def St.setMem (s : St) (b : Nat) (x : TypeId × List Value) : St := { s with mem := s.mem.set b x, wr := b :: s.wr }
def dstB (N : Nat) (A : List (Nat × Bool)) (dst : Option Nat) : Bool := match dst with
  | some d => decide (d < N) && A.all (fun x => x.1 != d)
  | none => true
def step (P : Program) (w0 : World) (N : Nat) (ops : Array Oper) (s : St) (o : Oper) : Option (St × List Obl) :=
  match gpath ops s o with
  | none => none
  | some A =>
    if dstB N A o.dst then
      match o.op with
      | .alloc t => if A.isEmpty then
          match (zeroValue t).run P w0 with
          | .ok z _ => some (({ s with mem := s.mem ++ [(t, z.cells.toList)] } : St).put o.dst [] (.p s.mem.length 0), [⟨fun _ u => nx ((zeroValue t).run P u), fun _ u => .ok (.value z) u⟩])
          | _ => none
        else none
      | .box t x => if A.isEmpty then
          match plainV s [] x with
          | some v => some (({ s with mem := s.mem ++ [(t, v.cells.toList)] } : St).put o.dst [] (.p s.mem.length 0), [])
          | none => none
        else none
      | .store t x y => if A.isEmpty && o.dst.isNone then
          match s.look [] x, plainV s [] y with
          | some (.p b k), some v => match s.mem[b]? with
            | some (T, cs) => if (P.info? t).map (·.size) == some v.cells.size && v.cells.toList.all (·.oneCell') && decide (k + v.cells.toList.length ≤ cs.length) then
                some (s.setMem b (T, cs.take k ++ v.cells.toList ++ cs.drop (k + v.cells.toList.length)), [])
              else none
            | none => none
          | _, _ => none
        else none
      | _ => (valS P w0 s A o).map fun x => (s.put o.dst A x.1, x.2)
    else none
def steps (P : Program) (w0 : World) (N : Nat) (ops : Array Oper) : List Oper → St → Option (St × List Obl)
  | [], s => some (s, [])
  | o :: r, s => match step P w0 N ops s o with
    | none => none
    | some (s1, x1) => match steps P w0 N ops r s1 with
      | none => none
      | some (s2, x2) => some (s2, x1 ++ x2)

/-! ### what it means -/
def PT (a : Act) (A : List (Nat × Bool)) : Prop := ∀ x ∈ A, sl a x.1 = .bool x.2
structure EntOk (ρ : List Nat) (a : Act) (e : Ent) : Prop where
  yes : PT a e.path → sl a e.d = e.av.to ρ
  no : ¬ PT a e.path → sl a e.d = undef
  lt : e.d < a.tmps.size
  ok : e.av.ok ρ.length
structure Inv (B : Nat) (ρ : List Nat) (s : St) (N : Nat) (a : Act) (w : World) : Prop where
  size : a.tmps.size = N
  dfr : a.defers = []
  tab : ∀ e ∈ s.tab, EntOk ρ a e
  len : ρ.length = s.mem.length
  nd : ρ.Nodup
  mem : ∀ b t cs, s.mem[b]? = some (t, cs) → Ob w (nth ρ b) t cs
  base : ∀ g ∈ ρ, B ≤ g
  big : B ≤ w.heap.size
  wrok : ∀ b ∈ s.wr, b < ρ.length
/-- what a row of operations has left alone. -/
structure Ran (B : Nat) (ρ ρ' : List Nat) (s s' : St) (w w' : World) : Prop where
  below : Below B w w'
  pre : ∀ b, b < ρ.length → nth ρ' b = nth ρ b
  new : ∀ b, ρ.length ≤ b → b < ρ'.length → w.heap.size ≤ nth ρ' b
  le : ρ.length ≤ ρ'.length
  wrs : ∀ b ∈ s.wr, b ∈ s'.wr
  keep : ∀ j, j < w.heap.size → (∀ b ∈ s'.wr, nth ρ' b ≠ j) → w'.heap[j]? = w.heap[j]?
theorem Ran.refl (B : Nat) (ρ : List Nat) (s s' : St) (h : ∀ b ∈ s.wr, b ∈ s'.wr) (w : World) : Ran B ρ ρ s s' w w :=
  ⟨Below.refl _ _, fun _ _ => rfl, fun _ h1 h2 => absurd h2 (Nat.not_lt.2 h1), Nat.le_refl _, h, fun _ _ _ => rfl⟩
theorem Ran.trans {B : Nat} {ρ ρ1 ρ2 : List Nat} {s s1 s2 : St} {w w1 w2 : World} (h : Ran B ρ ρ1 s s1 w w1) (h' : Ran B ρ1 ρ2 s1 s2 w1 w2) (hw : ∀ b ∈ s1.wr, b < ρ1.length) : Ran B ρ ρ2 s s2 w w2 := by
  refine ⟨h.below.trans h'.below, fun b hb => (h'.pre b (Nat.lt_of_lt_of_le hb h.le)).trans (h.pre b hb), ?_, Nat.le_trans h.le h'.le, fun b hb => h'.wrs b (h.wrs b hb), ?_⟩
  · intro b h1 h2
    rcases Nat.lt_or_ge b ρ1.length with hb | hb
    · rw [h'.pre b hb]; exact h.new b h1 hb
    · exact Nat.le_trans h.below.size (h'.new b hb h2)
  · intro j hj hn
    rw [h'.keep j (Nat.lt_of_lt_of_le hj h.below.size) hn]
    exact h.keep j hj fun b hb => by rw [← h'.pre b (hw b hb)]; exact hn b (h'.wrs b hb)
section
variable {B N : Nat} {ρ : List Nat} {s : St} {a : Act} {w : World} {A : List (Nat × Bool)} {o : Oper} {ops : Array Oper} {P : Program}
theorem find_mem {d : Nat} {e : Ent} (h : s.find d = some e) : e ∈ s.tab ∧ e.d = d := by
  unfold St.find at h
  exact ⟨List.mem_of_find?_eq_some h, by simpa using List.find?_some h⟩
theorem undef_bool (b : Bool) : (undef : Value) ≠ .bool b := by intro h; cases h
theorem wanted_iff (hI : Inv B ρ s N a w) (hA : gpath ops s o = some A) : Region.wanted o (yielded ops a.tmps) = true ↔ PT a A := by
  unfold gpath at hA
  unfold Region.wanted
  split at hA
  · rename_i hg
    injection hA with hA
    subst hA
    rw [hg]
    exact ⟨fun _ x hx => (nomatch hx), fun _ => rfl⟩
  · rename_i j want hg
    rw [hg]
    split at hA
    · rename_i m hm
      obtain ⟨e, he, rfl⟩ := Option.map_eq_some_iff.1 hA
      obtain ⟨hin, rfl⟩ := find_mem he
      have hk := hI.tab e hin
      have hy : yielded ops a.tmps j = some want ↔ sl a e.d = .bool want := by
        unfold yielded
        rw [hm, Option.bind_some, sl_get hk.lt]
        cases hv : sl a e.d <;> simp
      show (yielded ops a.tmps j == some want) = true ↔ _
      rw [beq_iff_eq, hy]
      constructor
      · intro hb
        intro x hx
        rcases List.mem_cons.1 hx with rfl | hx
        · exact hb
        · by_cases hp : PT a e.path
          · exact hp x hx
          · exact absurd ((hk.no hp).symm.trans hb) (undef_bool _)
      · intro h
        exact h (e.d, want) (List.mem_cons_self ..)
    · cases hA
theorem look_eval (hI : Inv B ρ s N a w) {x : Operand} {av : AV} (h : s.look A x = some av) (hp : PT a A) : a.eval x = av.to ρ ∧ av.ok ρ.length := by
  unfold St.look at h
  split at h
  · injection h with h
    subst h
    exact ⟨rfl, trivial⟩
  · rename_i d
    split at h
    · rename_i e he
      split at h
      · rename_i hall
        injection h with h
        subst h
        obtain ⟨hin, rfl⟩ := find_mem he
        have hk := hI.tab e hin
        refine ⟨hk.yes fun x hx => ?_, hk.ok⟩
        have := List.all_eq_true.1 hall x hx
        exact hp x (by simpa using this)
      · cases h
    · cases h
  · rename_i h1 h2
    injection h with h
    subst h
    refine ⟨?_, trivial⟩
    cases x with
    | const y => exact absurd rfl (h1 y)
    | tmp y => exact absurd rfl (h2 y)
    | _ => rfl
theorem look_ok (hI : Inv B ρ s N a w) {x : Operand} {av : AV} (h : s.look A x = some av) : av.ok ρ.length := by
  unfold St.look at h
  split at h
  · injection h with h
    subst h
    trivial
  · split at h
    · rename_i e he
      split at h
      · injection h with h
        subst h
        exact (hI.tab e (find_mem he).1).ok
      · cases h
    · cases h
  · injection h with h
    subst h
    trivial
theorem plainV_eval (hI : Inv B ρ s N a w) {x : Operand} {v : Value} (h : plainV s A x = some v) (hp : PT a A) : a.eval x = v := by
  unfold plainV at h
  split at h
  · rename_i v' hv
    injection h with h
    subst h
    exact (look_eval hI hv hp).1
  · cases h
theorem pt_put {d : Nat} {v : Value} {A : List (Nat × Bool)} (h : A.all (fun x => x.1 != d) = true) : PT (a.put (some d) v) A ↔ PT a A := by
  have hk : ∀ x ∈ A, sl (a.put (some d) v) x.1 = sl a x.1 := fun x hx => sl_put_ne (by simpa using List.all_eq_true.1 h x hx)
  exact ⟨fun hp x hx => (hk x hx).symm.trans (hp x hx), fun hp x hx => (hk x hx).trans (hp x hx)⟩
theorem inv_put (hI : Inv B ρ s N a w) {dst : Option Nat} {av : AV} {v : Value} (hd : dstB N A dst = true) (hok : av.ok ρ.length)
    (hy : PT a A → v = av.to ρ) (hn : ¬ PT a A → v = undef) : Inv B ρ (s.put dst A av) N (a.put dst v) w := by
  cases dst with
  | none => exact hI
  | some d =>
    simp only [dstB, Bool.and_eq_true, decide_eq_true_eq] at hd
    refine ⟨put_size.trans hI.size, hI.dfr, ?_, hI.len, hI.nd, hI.mem, hI.base, hI.big, hI.wrok⟩
    intro e he
    have hlt : d < a.tmps.size := by rw [hI.size]; exact hd.1
    rcases List.mem_cons.1 he with rfl | he
    · refine ⟨fun hp => ?_, fun hp => ?_, by rw [put_size]; exact hlt, hok⟩
      · rw [sl_put_same hlt]; exact hy ((pt_put hd.2).1 hp)
      · rw [sl_put_same hlt]; exact hn fun h => hp ((pt_put hd.2).2 h)
    · obtain ⟨hin, hf⟩ := List.mem_filter.1 he
      simp only [Bool.and_eq_true, bne_iff_ne, ne_eq] at hf
      have hk := hI.tab e hin
      refine ⟨fun hp => ?_, fun hp => ?_, by rw [put_size]; exact hk.lt, hk.ok⟩
      · rw [sl_put_ne hf.1]; exact hk.yes ((pt_put hf.2).1 hp)
      · rw [sl_put_ne hf.1]; exact hk.no fun h => hp ((pt_put hf.2).2 h)
theorem AV.to_more {av : AV} (h : av.ok ρ.length) (g : Nat) : av.to (ρ ++ [g]) = av.to ρ := by
  cases av with
  | v x => rfl
  | p b k =>
    have hb : b < ρ.length := h
    simp only [AV.to]
    rw [nth_left hb]
theorem AV.ok_more {av : AV} (h : av.ok ρ.length) (g : Nat) : av.ok (ρ ++ [g]).length := by
  cases av with
  | v x => trivial
  | p b k => exact Nat.lt_of_lt_of_le h (by simp)
/-- one variable more. -/
theorem inv_new (hI : Inv B ρ s N a w) {g : Nat} {W : World} {t : TypeId} {cs : List Value} (hn : NewB w W g t cs) : Inv B (ρ ++ [g]) { s with mem := s.mem ++ [(t, cs)] } N a W := by
  have hlt : ∀ b, b < ρ.length → nth ρ b < w.heap.size := fun b hb => by
    have hb' : b < s.mem.length := by rw [← hI.len]; exact hb
    exact (hI.mem b _ _ (List.getElem?_eq_getElem hb')).lt
  refine ⟨hI.size, hI.dfr, ?_, by simp [hI.len], ?_, ?_, ?_, Nat.le_trans hI.big hn.below.size, fun b hb => Nat.lt_of_lt_of_le (hI.wrok b hb) (by simp)⟩
  · intro e he
    have hk := hI.tab e he
    exact ⟨fun hp => by rw [AV.to_more hk.ok]; exact hk.yes hp, hk.no, hk.lt, AV.ok_more hk.ok g⟩
  · refine List.nodup_append.2 ⟨hI.nd, by simp, ?_⟩
    intro x hx y hy
    rw [List.mem_singleton.1 hy, hn.is_]
    obtain ⟨b, hb, rfl⟩ := List.getElem_of_mem hx
    have := hlt b hb
    rw [nth_get hb] at this
    exact Nat.ne_of_lt this
  · intro b t' cs' hm
    rcases Nat.lt_or_ge b s.mem.length with hb | hb
    · rw [List.getElem?_append_left hb] at hm
      rw [nth_left (by rw [hI.len]; exact hb)]
      exact (hI.mem b t' cs' hm).below hn.below (hlt b (by rw [hI.len]; exact hb))
    · rw [List.getElem?_append_right hb] at hm
      have h0 : b - s.mem.length = 0 := by
        rcases Nat.eq_zero_or_pos (b - s.mem.length) with h | h
        · exact h
        · rw [List.getElem?_eq_none (by simp; omega)] at hm; cases hm
      rw [h0] at hm
      simp only [List.getElem?_cons_zero, Option.some.injEq, Prod.mk.injEq] at hm
      obtain ⟨rfl, rfl⟩ := hm
      have hbl : b = ρ.length := by have := hI.len; omega
      subst hbl
      rw [nth_last]
      exact hn.ob
  · intro x hx
    rcases List.mem_append.1 hx with h | h
    · exact hI.base x h
    · rw [List.mem_singleton.1 h, hn.is_]; exact hI.big
/-- a variable of the call's own is written. -/
theorem inv_set (hI : Inv B ρ s N a w) {b : Nat} {T : TypeId} {cs : List Value} (hb : b < ρ.length) {W : World} (hbs : Beside (nth ρ b) w W) (ho : Ob W (nth ρ b) T cs) : Inv B ρ (s.setMem b (T, cs)) N a W := by
  refine ⟨hI.size, hI.dfr, hI.tab, by simp [St.setMem, hI.len], hI.nd, ?_, hI.base, Nat.le_trans hI.big hbs.size, fun x hx => by rcases List.mem_cons.1 hx with rfl | hx; exact hb; exact hI.wrok x hx⟩
  intro c t' cs' hm
  have hm' : (s.mem.set b (T, cs))[c]? = some (t', cs') := hm
  by_cases hc : c = b
  · subst hc
    rw [List.getElem?_set_self (by rw [← hI.len]; exact hb)] at hm'
    simp only [Option.some.injEq, Prod.mk.injEq] at hm'
    obtain ⟨rfl, rfl⟩ := hm'
    exact ho
  · rw [List.getElem?_set_ne (Ne.symm hc)] at hm'
    refine (hI.mem c t' cs' hm').beside hbs ?_
    have hcl : c < ρ.length := by
      rw [hI.len]
      exact (List.getElem?_eq_some_iff.1 hm').1
    rw [nth_get hcl, nth_get hb]
    intro he
    exact hc ((List.getElem_inj hI.nd).1 he)
/-- behind a call that leaves alone what was there. -/
theorem Inv.later (hI : Inv B ρ s N a w) {W : World} (hb : Below w.heap.size w W) : Inv B ρ s N a W := by
  refine ⟨hI.size, hI.dfr, hI.tab, hI.len, hI.nd, fun b t cs hm => ?_, hI.base, Nat.le_trans hI.big hb.size, hI.wrok⟩
  have := hI.mem b t cs hm
  exact this.below hb this.lt
theorem execOp_congr {ρ₁ ρ₂ : Operand → Value} {l : List Operand} (hl : opnds o.op = some l) (h : ∀ x ∈ l, ρ₁ x = ρ₂ x) : execOp ρ₁ o = execOp ρ₂ o := by
  unfold execOp
  unfold opnds at hl
  split at hl <;> rename_i hop <;> first | (cases hl; done) | (injection hl with hl; subst hl; rw [hop]; try simp only [List.mem_cons, List.not_mem_nil, or_false, forall_eq_or_imp, forall_eq] at h)
  all_goals first
    | (rw [h.1, h.2]; done)
    | (rw [h]; done)
    | (simp only [h]; done)
    | (rename_i t parts
       have e : (parts.map fun x => (x.1, ρ₁ x.2)) = parts.map fun x => (x.1, ρ₂ x.2) := by
         refine Array.map_congr_left fun x hx => ?_
         rw [h x.2 (List.mem_map.2 ⟨x, by simpa using hx, rfl⟩)]
       exact congrArg (fun z => (do pure (.value (← Instr.build t z)) : Sem Next)) e)
    | (rename_i c
       have e : c.args.map ρ₁ = c.args.map ρ₂ := Array.map_congr_left fun x hx => h x (List.mem_append_right _ (by simpa using hx))
       have e2 : resolve ρ₁ c o.type = resolve ρ₂ c o.type := by
         unfold resolve
         rw [e]
         cases hc : c.callee with
         | value f => rw [hc] at h; simp only [h f (List.mem_append_left _ (List.mem_singleton.2 rfl))]
         | invoke r n => rw [hc] at h; simp only [h r (List.mem_append_left _ (List.mem_singleton.2 rfl))]
         | builtin b => rfl
       simp only [e2])
section
variable {rest : List Oper} {Q : Exit → Act → World → Prop} {w0 : World}
theorem val_step (hI : Inv B ρ s N a w) (hA : gpath ops s o = some A) (hd : dstB N A o.dst = true) (av : AV) (hok : av.ok ρ.length)
    (hrun : PT a A → (execOp a.eval o).run P w = .ok (.value (av.to ρ)) w) (k : ∀ a', Inv B ρ (s.put o.dst A av) N a' w → wpList P ops Q rest a' w) : wpList P ops Q (o :: rest) a w := by
  by_cases hp : PT a A
  · exact wpList_go ((wanted_iff hI hA).2 hp) (hrun hp) (k _ (inv_put hI hd hok (fun _ => rfl) (fun h => absurd hp h)))
  · have hw : Region.wanted o (yielded ops a.tmps) = false := by
      rw [Bool.eq_false_iff]
      exact fun h => hp ((wanted_iff hI hA).1 h)
    exact wpList_skip hw (k _ (inv_put hI hd hok (fun h => absurd h hp) (fun _ => rfl)))
theorem isRow_false {t : TypeId} (h : (P.underlying t).map (·.isRow) = some false) {d : Addr} {v : Value} {u : World} (hc : u.cell? d = some v) : (Instr.loadAt t (.pointer (some d))).run P u = .ok v u := by
  obtain ⟨y, hu, hd⟩ := Option.map_eq_some_iff.1 h
  have hagg : (isAgg t).run P u = .ok false u := by
    unfold isAgg
    rw [Sem.run_bind, run_underlying hu u]
    cases y <;> simp_all
  simp [Instr.loadAt, Instr.sureAddr, loadVar, hagg, hc]
theorem loadS_run {b k : Nat} {t : TypeId} {av : AV} (hI : Inv B ρ s N a w) (h : loadS P s b k t = some av) : (Instr.loadAt t (.pointer (some ⟨nth ρ b, k, none⟩))).run P w = .ok (av.to ρ) w ∧ av.ok ρ.length := by
  unfold loadS at h
  split at h
  · cases h
  · rename_i T cs hm
    have ho := hI.mem b T cs hm
    split at h
    · rename_i hr
      obtain ⟨v, hv, rfl⟩ := Option.map_eq_some_iff.1 h
      exact ⟨isRow_false hr (ho.cell hv), trivial⟩
    · rename_i hr
      split at h
      · rename_i n hn
        split at h
        · rename_i hle
          injection h with h
          subst h
          obtain ⟨y, hu, hd⟩ := Option.map_eq_some_iff.1 hr
          have hle' := of_decide_eq_true hle
          refine ⟨run_loadAt_mid w _ k t ((cs.drop k).take n) y ?_ hu hd ?_, trivial⟩
          · intro j v hv
            refine ho.cell ?_
            rw [List.getElem?_take] at hv
            split at hv
            · rwa [List.getElem?_drop] at hv
            · cases hv
          · rw [hn, List.length_take, List.length_drop]
            congr 1
            omega
        · cases h
      · cases h
    · cases h
theorem pureS_run (hI : Inv B ρ s N a w) {av : AV} {obs : List Obl} (h : pureS P w0 s A o = some (av, obs)) (hob : ∀ q ∈ obs, ∀ g u, q.l g u = q.r g u) (hp : PT a A) : (execOp a.eval o).run P w = .ok (.value (av.to ρ)) w := by
  unfold pureS at h
  split at h
  · cases h
  · rename_i l hl
    split at h
    · rename_i hall
      split at h
      · rename_i v _ hv
        injection h with h
        injection h with h1 h2
        subst h1 h2
        have := hob _ (List.mem_singleton.2 rfl) 0 w
        rw [execOp_congr hl (ρ₂ := fun x => (plainV s A x).getD undef)]
        · exact this
        · intro x hx
          obtain ⟨y, hy⟩ := Option.isSome_iff_exists.1 (List.all_eq_true.1 hall x hx)
          rw [hy]
          exact plainV_eval hI hy hp
      · cases h
    · cases h
theorem pureS_ok {av : AV} {obs : List Obl} (h : pureS P w0 s A o = some (av, obs)) (n : Nat) : av.ok n := by
  unfold pureS at h
  split at h
  · cases h
  · split at h
    · split at h
      · injection h with h
        injection h with h1 h2
        subst h1
        trivial
      · cases h
    · cases h
theorem valS_run (hI : Inv B ρ s N a w) {av : AV} {obs : List Obl} (h : valS P w0 s A o = some (av, obs)) (hob : ∀ q ∈ obs, ∀ g u, q.l g u = q.r g u) : (PT a A → (execOp a.eval o).run P w = .ok (.value (av.to ρ)) w) ∧ av.ok ρ.length := by
  unfold valS at h
  split at h
  · rename_i x hop
    obtain ⟨av', hx, e⟩ := Option.map_eq_some_iff.1 h
    injection e with e1 e2
    subst e1
    refine ⟨fun hp => ?_, look_ok hI hx⟩
    unfold execOp
    rw [hop, ← (look_eval hI hx hp).1]
    rfl
  · rename_i x hop
    obtain ⟨av', hx, e⟩ := Option.map_eq_some_iff.1 h
    injection e with e1 e2
    subst e1
    refine ⟨fun hp => ?_, look_ok hI hx⟩
    unfold execOp
    rw [hop, ← (look_eval hI hx hp).1]
    rfl
  · rename_i c x y hop
    split at h
    · rename_i b p q hc hx hy
      injection h with h
      injection h with h1 h2
      subst h1
      refine ⟨fun hp => ?_, trivial⟩
      have ec := (look_eval hI hc hp).1
      have hpk : pickB x y b p q = (if b = true then p else q) := by
        unfold pickB
        split
        · have : p = true := by
            simp only [St.look, Option.some.injEq, AV.v.injEq, Value.bool.injEq] at hx
            exact hx.symm
          subst this
          cases b <;> rfl
        · have : q = false := by
            simp only [St.look, Option.some.injEq, AV.v.injEq, Value.bool.injEq] at hy
            exact hy.symm
          subst this
          cases b <;> simp
        · cases b <;> rfl
      unfold execOp
      rw [hop, hpk]
      have ec' : a.eval (.tmp c) = .bool b := ec
      cases b with
      | true =>
        have ex := (look_eval hI hx (fun z hz => by rcases List.mem_cons.1 hz with rfl | hz; exact ec'; exact hp z hz)).1
        simp [ec', ex, asBool, AV.to]
      | false =>
        have ey := (look_eval hI hy (fun z hz => by rcases List.mem_cons.1 hz with rfl | hz; exact ec'; exact hp z hz)).1
        simp [ec', ey, asBool, AV.to]
    · cases h
  · rename_i t x f hop
    split at h
    · rename_i b k hx
      split at h
      · rename_i a' _ hr
        injection h with h
        injection h with h1 h2
        subst h1 h2
        refine ⟨fun hp => ?_, (show b < ρ.length from look_ok hI hx)⟩
        have ex := (look_eval hI hx hp).1
        have := hob _ (List.mem_singleton.2 rfl) (nth ρ b) w
        have e : execOp a.eval o = execOp (fun _ => .pointer (some ⟨nth ρ b, k, none⟩)) o := by
          unfold execOp
          rw [hop]
          simp only [ex, AV.to]
        rw [e]
        exact this
      · cases h
    · cases h
  · rename_i t x hop
    split at h
    · rename_i b k hx
      obtain ⟨av', hl, e⟩ := Option.map_eq_some_iff.1 h
      injection e with e1 e2
      subst e1
      have hr := loadS_run hI hl
      refine ⟨fun hp => ?_, hr.2⟩
      unfold execOp
      rw [hop]
      have ex : a.eval x = .pointer (some ⟨nth ρ b, k, none⟩) := (look_eval hI hx hp).1
      simp only [ex, Sem.run_bind, hr.1, Result.andThen_ok, Sem.run_pure]
    · cases h
  · rename_i x hop
    split at h
    · rename_i b k hx
      injection h with h
      injection h with h1 h2
      subst h1
      refine ⟨fun hp => ?_, (show b < ρ.length from look_ok hI hx)⟩
      have ex : a.eval x = .pointer (some ⟨nth ρ b, k, none⟩) := (look_eval hI hx hp).1
      unfold execOp
      rw [hop]
      simp only [ex, Sem.run_pure]
      rfl
    · exact ⟨pureS_run hI h hob, pureS_ok h _⟩
  · exact ⟨pureS_run hI h hob, pureS_ok h _⟩
theorem put_wr (s : St) (d : Option Nat) (A : List (Nat × Bool)) (av : AV) : (s.put d A av).wr = s.wr := by cases d <;> rfl
theorem Below.of_new {g : Nat} {W : World} {t : TypeId} {cs : List Value} (hn : NewB w W g t cs) (hB : B ≤ w.heap.size) : Below B w W := hn.below.mono hB
theorem gpath_nil (hI : Inv B ρ s N a w) (hA : gpath ops s o = some []) : Region.wanted o (yielded ops a.tmps) = true := (wanted_iff hI hA).2 fun _ hx => (nomatch hx)
/-- one operation. -/
theorem step_ok (hI : Inv B ρ s N a w) {s' : St} {obs : List Obl} (hs : step P w0 N ops s o = some (s', obs)) (hob : ∀ q ∈ obs, ∀ g u, q.l g u = q.r g u)
    (k : ∀ ρ' a' w', Inv B ρ' s' N a' w' → Ran B ρ ρ' s s' w w' → wpList P ops Q rest a' w') : wpList P ops Q (o :: rest) a w := by
  unfold step at hs
  split at hs
  · cases hs
  · rename_i A hA
    split at hs
    · rename_i hd
      split at hs
      · rename_i t hop
        split at hs
        · rename_i hAe
          obtain rfl : A = [] := by simpa using hAe
          split at hs
          · rename_i z _ hz
            injection hs with hs
            injection hs with h1 h2
            subst h1 h2
            have hzu : ∀ u, (zeroValue t).run P u = .ok z u := by
              intro u
              have := hob _ (List.mem_singleton.2 rfl) 0 u
              simp only at this
              cases hr : (zeroValue t).run P u with
              | ok v u' =>
                rw [hr] at this
                simp only [nx, Result.ok.injEq, Next.value.injEq] at this
                rw [this.1, this.2]
              | halt h u' => rw [hr] at this; simp [nx] at this
            refine BigFrame.wpList_want (gpath_nil hI hA) fun K hK => ?_
            unfold Oper.wp execOp
            simp only [hop, Sem.run_bind, Instr.alloc, hzu, newVar, newRow, run_newObj_alloc, Sem.run_pure, Result.andThen_ok]
            have hn := NewB.of_alloc w t z.cells.toList
            have hI2 := inv_new hI hn
            have hI3 := inv_put hI2 (A := []) (dst := o.dst) (av := .p s.mem.length 0) (v := .pointer (some ⟨w.heap.size, 0, none⟩)) hd (by show _ < _; rw [List.length_append, hI.len]; simp) (fun _ => by simp only [AV.to]; rw [← hI.len, nth_last]) (fun h => absurd (fun _ hx => (nomatch hx)) h)
            have hran : Ran B ρ (ρ ++ [w.heap.size]) s (({ s with mem := s.mem ++ [(t, z.cells.toList)] } : St).put o.dst [] (.p s.mem.length 0)) w (w.alloc (.cells z.cells.toList.toArray t)) := by
              refine ⟨Below.of_new hn hI.big, fun b hb => nth_left hb _, fun b h1 h2 => ?_, by simp, by rw [put_wr]; exact fun b hb => hb, fun j hj _ => hn.below.block j hj⟩
              have hb : b = ρ.length := by rw [List.length_append] at h2; simp at h2; omega
              rw [hb, nth_last]
              exact Nat.le_refl _
            exact hK _ _ (k _ _ _ hI3 hran)
          · cases hs
        · cases hs
      · rename_i t x hop
        split at hs
        · rename_i hAe
          obtain rfl : A = [] := by simpa using hAe
          split at hs
          · rename_i v hv
            injection hs with hs
            injection hs with h1 h2
            subst h1 h2
            have ev := plainV_eval hI hv (fun _ hx => (nomatch hx))
            refine BigFrame.wpList_want (gpath_nil hI hA) fun K hK => ?_
            unfold Oper.wp execOp
            simp only [hop, ev, Sem.run_bind, Instr.box, newVar, newRow, run_newObj_alloc, Sem.run_pure, Result.andThen_ok]
            have hn := NewB.of_alloc w t v.cells.toList
            have hI2 := inv_new hI hn
            have hI3 := inv_put hI2 (A := []) (dst := o.dst) (av := .p s.mem.length 0) (v := .pointer (some ⟨w.heap.size, 0, none⟩)) hd (by show _ < _; rw [List.length_append, hI.len]; simp) (fun _ => by simp only [AV.to]; rw [← hI.len, nth_last]) (fun h => absurd (fun _ hx => (nomatch hx)) h)
            have hran : Ran B ρ (ρ ++ [w.heap.size]) s (({ s with mem := s.mem ++ [(t, v.cells.toList)] } : St).put o.dst [] (.p s.mem.length 0)) w (w.alloc (.cells v.cells.toList.toArray t)) := by
              refine ⟨Below.of_new hn hI.big, fun b hb => nth_left hb _, fun b h1 h2 => ?_, by simp, by rw [put_wr]; exact fun b hb => hb, fun j hj _ => hn.below.block j hj⟩
              have hb : b = ρ.length := by rw [List.length_append] at h2; simp at h2; omega
              rw [hb, nth_last]
              exact Nat.le_refl _
            exact hK _ _ (k _ _ _ hI3 hran)
          · cases hs
        · cases hs
      · rename_i t x y hop
        split at hs
        · rename_i hAe
          simp only [Bool.and_eq_true] at hAe
          obtain rfl : A = [] := by simpa using hAe.1
          have hdn : o.dst = none := by simpa using hAe.2
          split at hs
          · rename_i b kk v hx hy
            split at hs
            · rename_i T cs hm
              split at hs
              · rename_i hc
                simp only [Bool.and_eq_true, beq_iff_eq, decide_eq_true_eq] at hc
                obtain ⟨⟨hsz, hone⟩, hle⟩ := hc
                injection hs with hs
                injection hs with h1 h2
                subst h1 h2
                have ex : a.eval x = .pointer (some ⟨nth ρ b, kk, none⟩) := (look_eval hI hx (fun _ hx => (nomatch hx))).1
                have ey := plainV_eval hI hy (fun _ hx => (nomatch hx))
                have ho := hI.mem b T cs hm
                have hb : b < ρ.length := by rw [hI.len]; exact (List.getElem?_eq_some_iff.1 hm).1
                have hrun : (storeVar t ⟨nth ρ b, kk, none⟩ v).run P w = .ok () (w.setCells (nth ρ b) kk v.cells.toList) := by
                  have hth : w.there (nth ρ b) kk v.cells.size := by
                    intro j hj
                    have hj' : kk + j < cs.length := by rw [Array.length_toList] at hle; omega
                    exact ⟨by rw [ho.cell (List.getElem?_eq_getElem hj')]; rfl, ho.frozen _⟩
                  have := run_storeVar_mid (P := P) w (nth ρ b) kk t v.cells hth hsz (by rw [← Array.all_toList]; exact hone)
                  exact this
                refine BigFrame.wpList_want (gpath_nil hI hA) fun K hK => ?_
                unfold Oper.wp execOp
                simp only [hop, ex, ey, Instr.storeAt, Instr.sureAddr, Sem.run_bind, Sem.run_pure, Result.andThen_ok, hrun]
                have hbs : Beside (nth ρ b) w (w.setCells (nth ρ b) kk v.cells.toList) := beside_setCells _ _ _ (Beside.refl _ _)
                have hob2 := setCells_same w (nth ρ b) kk T v.cells.toList cs ho hle
                have hI2 := inv_set hI hb hbs hob2
                rw [Oper.upon_skip, hdn]
                refine hK _ _ (k _ _ _ hI2 ⟨hbs.below (hI.base _ (nth_mem hb)) hI.big, fun _ _ => rfl, fun b h1 h2 => absurd h2 (Nat.not_lt.2 h1), Nat.le_refl _, fun x hx => List.mem_cons_of_mem _ hx, fun j hj hne => ?_⟩)
                exact hbs.block j hj (Ne.symm (hne b (List.mem_cons_self ..)))
              · cases hs
            · cases hs
          · cases hs
        · cases hs
      · obtain ⟨⟨av, obs'⟩, hv, e⟩ := Option.map_eq_some_iff.1 hs
        injection e with e1 e2
        subst e1 e2
        obtain ⟨hr, hok⟩ := valS_run hI hv hob
        exact val_step hI hA hd av hok hr fun a' hI' => k ρ a' w hI' (Ran.refl _ _ _ _ (by rw [put_wr]; exact fun b hb => hb) _)
    · cases hs
/-- a row of operations, and what is behind it. -/
theorem steps_ok : ∀ (l : List Oper) {ρ : List Nat} {s s' : St} {a : Act} {w : World} {obs : List Obl}, Inv B ρ s N a w → steps P w0 N ops l s = some (s', obs) → (∀ q ∈ obs, ∀ g u, q.l g u = q.r g u) →
    (∀ ρ' a' w', Inv B ρ' s' N a' w' → Ran B ρ ρ' s s' w w' → wpList P ops Q rest a' w') → wpList P ops Q (l ++ rest) a w
  | [], ρ, s, s', a, w, obs, hI, hs, _, k => by
    simp only [steps, Option.some.injEq, Prod.mk.injEq] at hs
    obtain ⟨rfl, rfl⟩ := hs
    exact k ρ a w hI (Ran.refl _ _ _ _ (fun _ h => h) _)
  | o :: r, ρ, s, s', a, w, obs, hI, hs, hob, k => by
    simp only [steps] at hs
    split at hs
    · cases hs
    · rename_i s1 x1 h1
      split at hs
      · cases hs
      · rename_i s2 x2 h2
        simp only [Option.some.injEq, Prod.mk.injEq] at hs
        obtain ⟨rfl, rfl⟩ := hs
        refine step_ok hI h1 (fun q hq => hob q (List.mem_append_left _ hq)) fun ρ1 a1 w1 hI1 hb1 => ?_
        exact steps_ok r hI1 h2 (fun q hq => hob q (List.mem_append_right _ hq)) fun ρ2 a2 w2 hI2 hb2 => k ρ2 a2 w2 hI2 (hb1.trans hb2 hI1.wrok)
end
end
end Go.Proofs.YtaoobnikeicceaaGreatDoor.Ev

namespace Go.Proofs.YtaoobnikeicceaaGreatDoor.Ev
open Go.RowKit Go.Proofs.YtaoobnikeicceaaGreatDoor.Sm
set_option maxHeartbeats 1000000
set_option linter.unusedVariables false

/-- what is known behind a row of operations, and what the kernel must see. -/
noncomputable def res (P : Program) (N : Nat) (ops : Array Oper) (l : List Oper) (s : St) : St := ((steps P default N ops l s).getD (s, [])).1
noncomputable def obs (P : Program) (N : Nat) (ops : Array Oper) (l : List Oper) (s : St) : List Obl := ((steps P default N ops l s).getD (s, [])).2
def seenL (x : List Obl) : Nat → World → List (Result Next) := fun g u => x.map fun q => q.l g u
def seenR (x : List Obl) : Nat → World → List (Result Next) := fun g u => x.map fun q => q.r g u
theorem seen_all {x : List Obl} (h : seenL x = seenR x) : ∀ q ∈ x, ∀ g u, q.l g u = q.r g u := by
  intro q hq g u
  have h1 := congrFun (congrFun h g) u
  exact (List.map_inj_left.1 h1) q hq
section
variable {B N : Nat} {ρ : List Nat} {s : St} {a : Act} {w : World} {A : List (Nat × Bool)} {o : Oper} {ops : Array Oper} {P : Program} {Q : Exit → Act → World → Prop} {rest : List Oper}
theorem Inv.val (hI : Inv B ρ s N a w) {x : Operand} {v : Value} (h : s.look [] x = some (.v v)) : a.eval x = v := (look_eval hI h fun _ hx => (nomatch hx)).1
theorem Inv.ptr (hI : Inv B ρ s N a w) {x : Operand} {b k : Nat} (h : s.look [] x = some (.p b k)) : a.eval x = .pointer (some ⟨nth ρ b, k, none⟩) := (look_eval hI h fun _ hx => (nomatch hx)).1
/-- some slots alone, in a form of one's own. -/
def St.sel (s : St) (ds : List Nat) : St := { tab := ds.filterMap s.find, mem := s.mem }
theorem Inv.to (hI : Inv B ρ s N a w) (ds : List Nat) {s2 : St} (h : s.sel ds = s2) : Inv B ρ s2 N a w := by
  subst h
  refine ⟨hI.size, hI.dfr, fun e he => ?_, hI.len, hI.nd, hI.mem, hI.base, hI.big, fun b hb => (nomatch hb)⟩
  obtain ⟨d, _, hd⟩ := List.mem_filterMap.1 he
  exact hI.tab e (find_mem hd).1
/-! ### calls -/
/-- an operation whose guard says no. -/
def St.drop (s : St) (d : Option Nat) : St := match d with
  | none => s
  | some d => { s with tab := s.tab.filter fun e => e.d != d && e.path.all fun x => x.1 != d }
/-! ### the beginning and the end -/
def ents : Nat → List Value → List Ent
  | _, [] => []
  | i, v :: r => ⟨i, [], .v v⟩ :: ents (i + 1) r
theorem ents_mem : ∀ (l : List Value) (i : Nat) (e : Ent), e ∈ ents i l → ∃ j v, l[j]? = some v ∧ e = ⟨i + j, [], .v v⟩
  | [], _, _, h => (nomatch h)
  | v :: r, i, e, h => by
    rcases List.mem_cons.1 h with rfl | h
    · exact ⟨0, v, rfl, rfl⟩
    · obtain ⟨j, v', h1, h2⟩ := ents_mem r (i + 1) e h
      exact ⟨j + 1, v', h1, by rw [h2]; simp; omega⟩
theorem enter {f : FuncId} {fn : Func} {c : Code} {args : Array Value} {R : Ending → World → Prop} (hf : P.funcs[f]? = some fn) (hb : fn.body = some c) (hn : fn.ntmps = N) (hle : args.size ≤ N)
    (k : ∀ a, Inv w.heap.size [] { tab := ents 0 args.toList, mem := [] } N a w → c.wp P (bodyPost P fn R) a w) : Calls P f args w R := by
  refine calls_of_wp hf hb (k _ ?_)
  have hsz : (args ++ Array.replicate (fn.ntmps - args.size) undef).size = N := by simp; omega
  refine ⟨hsz, rfl, ?_, rfl, List.nodup_nil, (fun b t cs h => by simp at h), (fun g h => (nomatch h)), Nat.le_refl _, (fun b h => (nomatch h))⟩
  intro e he
  obtain ⟨j, v, h1, rfl⟩ := ents_mem _ _ _ he
  have hj : j < args.size := by
    have := (List.getElem?_eq_some_iff.1 h1).1
    simpa using this
  refine ⟨fun _ => ?_, fun h => absurd (fun _ hx => (nomatch hx)) h, ?_, trivial⟩
  · show sl _ (0 + j) = v
    have h2 : args[j]? = some v := by simpa using h1
    have h3 : (args ++ Array.replicate (fn.ntmps - args.size) undef)[j]? = some v := by rw [Array.getElem?_append_left hj]; exact h2
    unfold sl
    rw [Nat.zero_add]
    simp [h3]
  · show 0 + j < (args ++ Array.replicate (fn.ntmps - args.size) undef).size
    rw [hsz]
    omega
/-- the variable behind the pointer, as a call has left it. -/
theorem Inv.remem {g : Nat} {W : World} {t : TypeId} {cs : List Value} (hI : Inv 0 [g] s N a w) (hl : s.mem.length = 1) (ho : Ob W g t cs) : Inv 0 [g] { s with mem := [(t, cs)], wr := [] } N a W := by
  refine ⟨hI.size, hI.dfr, hI.tab, rfl, hI.nd, ?_, hI.base, Nat.zero_le _, (fun b h => (nomatch h))⟩
  intro b t' cs' hm
  cases b with
  | zero =>
    simp only [List.getElem?_cons_zero, Option.some.injEq, Prod.mk.injEq] at hm
    obtain ⟨rfl, rfl⟩ := hm
    exact ho
  | succ b => simp at hm
noncomputable def resRun (tmps : Array Value) : ResultVar → Sem Value
  | .tmp t => pure (tmps.getD t undef)
  | .cell q ty => do loadVar ty (← asAddr (tmps.getD q undef))
/-! ### regions whose order is open -/
theorem wrap_i64 {x : Int} (h1 : -9223372036854775808 ≤ x) (h2 : x ≤ 9223372036854775807) : IntKind.i64.wrap x = x := by rw [IntKind.wrap_i64]; omega
theorem Inv.lt (hI : Inv B ρ s N a w) {g : Nat} (h : g ∈ ρ) : g < w.heap.size := by
  obtain ⟨b, hb, rfl⟩ := List.getElem_of_mem h
  have := (hI.mem b _ _ (List.getElem?_eq_getElem (by rw [← hI.len]; exact hb))).lt
  rwa [nth_get hb] at this
/-- bytes put behind bytes of the call's own, or behind none. -/
theorem append_ok (hI : Inv B ρ s N a w) (hgd : o.guard = none) (hd : dstB N [] o.dst = true) (x y : Operand) (t : TypeId) (hop : o.op = .call { callee := .builtin .append, args := #[x, y], argTypes := #[t, t] })
    (base : Nat) (e : TypeId) (i : TypeInfo) (z : Value) (ht : P.underlying t = some (.slice e)) (hi : P.info? e = some i) (hz : i.zero = some z) (hsize : i.size = 1) (hby : i.bytes = 1) (hzs : z.cells.size = 1)
    (v : Value) (l : List UInt8) (hs : s.look [] x = some (.v v)) (hown : w.ownsRow base e 1 v l.length (cells8 l))
    (B' : Nat) (A : Option Addr) (m c : Nat) (k : List UInt8) (hx : s.look [] y = some (.v (.slice A m c))) (hr : Row8 w B' A m c k) (hbytes : l.length + m ≤ 140737488355328) (hbase : base ≤ w.heap.size) (hlo : ∀ g ∈ ρ, g < base)
    (h : ∀ v' a' w', w'.ownsRow base e 1 v' (l ++ k).length (cells8 (l ++ k)) → Below base w w' → Inv B ρ (s.put o.dst [] (.v v')) N a' w' → wpList P ops Q rest a' w') : wpList P ops Q (o :: rest) a w := by
  refine wpList_append_row w hgd x y t hop base e i z ht hi hz hsize hby hzs v l (hI.val hs) hown B' A m c k (hI.val hx) hr hbytes hbase fun v' w' ho hg hl => ?_
  have hb : Below base w w' := (Below.refl base w).grown hg hbase hl
  have hI' : Inv B ρ s N a w' := ⟨hI.size, hI.dfr, hI.tab, hI.len, hI.nd, fun b t cs hm => by
      have h1 := hI.mem b t cs hm
      exact h1.below hb (hlo _ (nth_mem (by rw [hI.len]; exact (List.getElem?_eq_some_iff.1 hm).1))), hI.base, Nat.le_trans hI.big hb.size, hI.wrok⟩
  exact h v' _ w' ho hb (inv_put hI' hd trivial (fun _ => rfl) fun h => absurd (fun _ hx => (nomatch hx)) h)
end
end Go.Proofs.YtaoobnikeicceaaGreatDoor.Ev

namespace Go.Proofs.YtaoobnikeicceaaGreatDoor.Ev
open Go.RowKit Go.Proofs.YtaoobnikeicceaaGreatDoor.Sm
set_option maxHeartbeats 1000000
set_option linter.unusedVariables false

/-- what holds throughout. -/
def Mem (B : Nat) (ρ : List Nat) (s : St) (X : World → Prop) (u : World) : Prop := (∀ b t cs, s.mem[b]? = some (t, cs) → Ob u (nth ρ b) t cs) ∧ B ≤ u.heap.size ∧ X u
/-- a panic tells nothing of the frame. -/
def Deaf (Q : Exit → Act → World → Prop) : Prop := ∀ c a d v w, Q (.panic c) (Act.put a d v) w → Q (.panic c) a w
def takesB (ops : Array Oper) : List Nat → Array Bool → Bool
  | [], _ => true
  | i :: r, listed => Region.free .any ops listed i && (Region.ready .any ops listed).contains i && takesB ops r (listed.setIfInBounds i true)
def after : List Nat → Array Bool → Array Bool
  | [], listed => listed
  | i :: r, listed => after r (listed.setIfInBounds i true)
def isteps (P : Program) (w0 : World) (N : Nat) (ops : Array Oper) : List Nat → St → Option (St × List Obl)
  | [], s => some (s, [])
  | i :: r, s => match ops[i]? with
    | none => none
    | some o => match gpath ops s o with
      | none => none
      | some A => if dstB N A o.dst then
          match valS P w0 s A o with
          | none => none
          | some (av, x1) => match isteps P w0 N ops r (s.put o.dst A av) with
            | none => none
            | some (s2, x2) => some (s2, x1 ++ x2)
        else none
noncomputable def ires (P : Program) (N : Nat) (ops : Array Oper) (l : List Nat) (s : St) : St := ((isteps P default N ops l s).getD (s, [])).1
noncomputable def iobs (P : Program) (N : Nat) (ops : Array Oper) (l : List Nat) (s : St) : List Obl := ((isteps P default N ops l s).getD (s, [])).2
section
variable {B N : Nat} {ρ : List Nat} {s : St} {a : Act} {w : World} {A : List (Nat × Bool)} {o : Oper} {ops : Array Oper} {P : Program} {Q : Exit → Act → World → Prop} {X : World → Prop}
theorem put_mem (s : St) (d : Option Nat) (A : List (Nat × Bool)) (av : AV) : (s.put d A av).mem = s.mem := by cases d <;> rfl
theorem Inv.at_ (hI : Inv B ρ s N a w) {s0 : St} (hm : s.mem = s0.mem) {u : World} (hu : Mem B ρ s0 X u) : Inv B ρ s N a u :=
  ⟨hI.size, hI.dfr, hI.tab, hI.len, hI.nd, by rw [hm]; exact hu.1, hI.base, hu.2.1, hI.wrok⟩
theorem isteps_ok {w0 : World} {s0 : St} (hX : X w) (hQ : Deaf Q) (hsel : Region.noSelect ops = true) {fuel : Nat} : ∀ (l : List Nat) {s s' : St} {a : Act} {obs : List Obl} {listed : Array Bool}, s.mem = s0.mem → Inv B ρ s N a w → isteps P w0 N ops l s = some (s', obs) → (∀ q ∈ obs, ∀ g u, q.l g u = q.r g u) → takesB ops l listed = true →
    (∀ a', s'.mem = s0.mem → Inv B ρ s' N a' w → wpAnyH P .any ops Q (Mem B ρ s0 X) fuel (after l listed) a' w) → wpAnyH P .any ops Q (Mem B ρ s0 X) (fuel + l.length) listed a w
  | [], s, s', a, obs, listed, hm, hI, hs, _, _, k => by
    simp only [isteps, Option.some.injEq, Prod.mk.injEq] at hs
    obtain ⟨rfl, rfl⟩ := hs
    exact k a hm hI
  | i :: r, s, s', a, obs, listed, hm, hI, hs, hob, ht, k => by
    simp only [isteps] at hs
    split at hs
    · cases hs
    · rename_i o ho
      split at hs
      · cases hs
      · rename_i A hA
        split at hs
        · rename_i hd
          split at hs
          · cases hs
          · rename_i av x1 hv
            split at hs
            · cases hs
            · rename_i s2 x2 h2
              simp only [Option.some.injEq, Prod.mk.injEq] at hs
              obtain ⟨rfl, rfl⟩ := hs
              simp only [takesB, Bool.and_eq_true] at ht
              have hok := (valS_run hI hv fun q hq => hob q (List.mem_append_left _ hq)).2
              have ih : ∀ a', Inv B ρ (s.put o.dst A av) N a' w → wpAnyH P .any ops Q (Mem B ρ s0 X) (fuel + r.length) (listed.setIfInBounds i true) a' w := fun a' hI' => isteps_ok hX hQ hsel r (by rw [put_mem]; exact hm) hI' h2 (fun q hq => hob q (List.mem_append_right _ hq)) ht.2 k
              have hS : Mem B ρ s0 X w := ⟨by rw [← hm]; exact hI.mem, hI.big, hX⟩
              show wpAnyH P .any ops Q (Mem B ρ s0 X) (fuel + r.length + 1) listed a w
              by_cases hp : PT a A
              · refine wpAnyH_take ho hsel ht.1.1 ht.1.2 (fun c a w h => hQ c a _ _ w h) (.inl ⟨(wanted_iff hI hA).2 hp, fun u hu => ?_⟩) hS (ih _ (inv_put hI hd hok (fun _ => rfl) fun h => absurd hp h))
                exact (valS_run (hI.at_ hm hu) hv fun q hq => hob q (List.mem_append_left _ hq)).1 hp
              · refine wpAnyH_take ho hsel ht.1.1 ht.1.2 (fun c a w h => hQ c a _ _ w h) (.inr ⟨?_, rfl⟩) hS (ih _ (inv_put hI hd hok (fun h => absurd h hp) fun _ => rfl))
                rw [Bool.eq_false_iff]
                exact fun h => hp ((wanted_iff hI hA).1 h)
        · cases hs
end
end Go.Proofs.YtaoobnikeicceaaGreatDoor.Ev
