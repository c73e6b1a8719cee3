/- Deep reckoning, more rules: a struct built of parts with something behind them; a row of the call's own that nobody will write any more. No function of the program in it. -/
import Derived.Test.YtleflkgdbagmnaaDoorDpNext
import Derived.Laws.Tables
import Derived.Great.FillDense
namespace Go.Proofs.YtleflkgdbagmnaaDoor.Dp
open Go.RowKit Go.Proofs.YtleflkgdbagmnaaDoor.Sm
open Go.Proofs.YtleflkgdbagmnaaDoor.Ev (Obl opnds dstB PT nx pt_put undef_bool pickB isRow_false seenL seenR seen_all resRun)
set_option maxHeartbeats 1000000
set_option linter.unusedVariables false
set_option linter.unusedSimpArgs false
section
variable {κ : Nat → Prop} {B : Base} {N : Nat} {ρ ρ' : Own} {s s' : St} {a : Act} {w : World} {d : D} {v : Value} {b g c : Nat} {P : Program} {ops : Array Oper} {l rest : List Oper} {o : Oper} {Q : Exit → St → Prop} {cd : Code} {z m n : Nat} {f f' : Nat → List D}
theorem fill_rep (hI : Inv κ B ρ s N a w) {place : Nat → Option (Nat × Nat)} : ∀ (l : List (Nat × Operand)) (dss : List (List D)) (cs res : List D) (arr : Array Value), looks s (l.map (·.2)) = some dss → fillD place cs ((l.map (·.1)).zip dss) = some res → arr.size = cs.length → (∀ (j : Nat) (d : D) (u : Value), cs[j]? = some d → arr[j]? = some u → Rep1 w (okW κ w ρ) ρ d u) →
    ∃ out, Instr.fill place arr (l.map fun x => (x.1, a.eval x.2)) = some out ∧ out.size = res.length ∧ ∀ (j : Nat) (d : D) (u : Value), res[j]? = some d → out[j]? = some u → Rep1 w (okW κ w ρ) ρ d u
  | [], dss, cs, res, arr, hl, hf, hsz, hr => by
    simp only [List.map_nil, List.zip_nil_left, fillD, Option.some.injEq] at hf
    subst hf
    exact ⟨arr, rfl, hsz, hr⟩
  | (i, x) :: r, dss, cs, res, arr, hl, hf, hsz, hr => by
    simp only [List.map_cons, looks] at hl
    split at hl
    · rename_i ds dss' h1 h2
      injection hl with hl
      subst hl
      obtain ⟨dx, h3, h4⟩ := Option.bind_eq_some_iff.1 h1
      obtain ⟨q1, q2⟩ := cells_rep (look_rep hI h3 pt_nil) h4
      simp only [List.map_cons, List.zip_cons_cons, fillD] at hf
      split at hf
      · cases hf
      · rename_i off size hp
        split at hf
        · rename_i hc
          simp only [Bool.and_eq_true, decide_eq_true_eq] at hc
          obtain ⟨g1, g2⟩ := Go.Great.foldl_set off (a.eval x).cells.toList 0 arr
          have hlen : (cs.take off ++ ds ++ cs.drop (off + ds.length)).length = cs.length := splice_len cs ds off hc.2
          have hcs : (a.eval x).cells.size = ds.length := by rw [← q1]; simp
          obtain ⟨out, k1, k2, k3⟩ := fill_rep hI r dss' (cs.take off ++ ds ++ cs.drop (off + ds.length)) res (((a.eval x).cells.toList.zipIdx 0).foldl (fun cs (x : Value × Nat) => cs.setIfInBounds (off + x.2) x.1) arr) h2 hf (by rw [g1, hsz, hlen]) (by
            intro j d u h5 h6
            rw [splice_get cs ds off j hc.2] at h5
            rw [g2 j, Nat.add_zero] at h6
            by_cases hin : off ≤ j ∧ j < off + ds.length
            · rw [if_pos hin] at h5
              rw [if_pos ⟨hin.1, by rw [q1]; exact hin.2, by omega⟩] at h6
              exact q2 _ d u h5 h6
            · rw [if_neg hin] at h5
              rw [if_neg (by rw [q1]; omega)] at h6
              exact hr j d u h5 h6)
          refine ⟨out, ?_, k2, k3⟩
          simp only [List.map_cons]
          unfold Instr.fill
          simp only [hp, hcs]
          rw [if_neg (by simp; omega), ← k1]
          congr 1
          rw [← Array.foldl_toList, Array.toList_zipIdx]
        · cases hf
    · cases hl
def buildD (P : Program) (s : St) (t : TypeId) (parts : Array (Nat × Operand)) : Option (List D) := match P.info? t, P.underlying t, looks s (parts.toList.map (·.2)) with
  | some it, some (.struct fields), some dss => match it.zero, fields.toList.mapM (fun f => (P.info? f.type).map fun i => (f.offset, i.size)) with
    | some zv, some places => fillD (places.toArray[·]?) (zv.cells.toList.map .v) ((parts.toList.map (·.1)).zip dss)
    | _, _ => none
  | _, _, _ => none
/-- a struct of parts. -/
theorem PL.build {t : TypeId} {parts : Array (Nat × Operand)} {cs : List D} (hop : o.op = .build t parts) (hA : gpath ops s o = some []) (hd : dstB N [] o.dst = true) (hb : buildD P s t parts = some cs) (k : PL P N ops rest Q (s.put o.dst [] (.r cs))) : PL P N ops (o :: rest) Q s := fun κ B ρ a w0 w hI hb0 => by
  refine val_step hI hA hd (.r cs) (fun _ => ?_) fun a' hI' => k κ B ρ a' w0 w hI' hb0
  unfold buildD at hb
  split at hb
  · rename_i it fields dss h1 h2 h3
    split at hb
    · rename_i zv places h4 h5
      obtain ⟨out, k1, k2, k3⟩ := fill_rep hI parts.toList dss _ cs zv.cells h3 hb (by simp) (fun j d u q1 q2 => by
        rw [List.getElem?_map] at q1
        obtain ⟨u', q3, rfl⟩ := Option.map_eq_some_iff.1 q1
        rw [Array.getElem?_toList] at q3
        rw [q3] at q2
        injection q2 with q2
        subst q2
        exact .c (.v _))
      have hbt : P.built t (parts.map fun (i, x) => (i, a.eval x)).toList = some out := by
        unfold Program.built
        rw [h1, h2]
        simp only [h4, h5]
        rw [Array.toList_map]
        exact k1
      refine ⟨.agg out, ?_, ?_⟩
      · unfold execOp
        simp only [hop, Sem.run_bind, run_build w t _ out hbt, Sem.run_pure, Result.andThen_ok]
      · have := RepO.r (w := w) (ok := okW κ w ρ) (ρ := ρ) (cs := cs) (vs := out.toList) (by simpa using k2) (fun j d u q1 q2 => k3 j d u q1 (by simpa using q2))
        simpa using this
    · cases hb
  · cases hb
/-! ### a row that nobody will write any more -/
def D.frzR1 (b z m : Nat) (f : Nat → List D) : D → D
  | .p b1 z1 i1 o1 => if b1 == b then .any else .p b1 z1 i1 o1
  | .h b1 n1 => if b1 == b then (if decide (n1 ≤ m) then .s n1 z f else .any) else .h b1 n1
  | .m b1 z1 o1 n1 => if b1 == b then .any else .m b1 z1 o1 n1
  | d => d
def D.frzR (b z m : Nat) (f : Nat → List D) : D → D
  | .r ds => .r (ds.map (D.frzR1 b z m f))
  | d => d.frzR1 b z m f
def Obj.frzR (b z m : Nat) (f : Nat → List D) : Obj → Obj
  | .var t ds => .var t (ds.map (D.frzR1 b z m f))
  | o => o
def St.frzR (b z m : Nat) (f : Nat → List D) (s : St) : St := { s with tab := s.tab.map fun e => { e with dv := e.dv.frzR b z m f }, mem := (s.mem.map (Obj.frzR b z m f)).set b .dead }
theorem Rep1.frzR {x : Option (Nat × Nat)} (h : Rep1 w (okW κ w ρ) ρ d v) (hx : ρ[b]? = some x) (hm : ∀ k, okW κ w ρ k → okW κ w ρ' k ∧ w.heap[k]? = w.heap[k]?) (ho : ∀ (b' : Nat) (x : Option (Nat × Nat)), b' ≠ b → ρ[b']? = some x → ρ'[b']? = some x) (hq : ∀ n g c, x = some (g, c) → n ≤ m → n ≤ c → RepC w (okW κ w ρ') (.s n z f) (.slice (some ⟨g, 0, none⟩) n c)) : Rep1 w (okW κ w ρ') ρ' (d.frzR1 b z m f) v := by
  cases h with
  | c h =>
    have e : d.frzR1 b z m f = d := by cases h <;> rfl
    rw [e]
    exact .c (h.mono hm)
  | p h =>
    simp only [D.frzR1]
    split
    · exact .c (.any _)
    · rename_i hne; exact .p (ho _ _ (by simpa using hne) h)
  | h h hn =>
    simp only [D.frzR1]
    split
    · rename_i hb
      obtain rfl := (beq_iff_eq.1 hb)
      rw [h] at hx
      injection hx with hx
      split
      · rename_i hd
        exact .c (hq _ _ _ hx.symm (of_decide_eq_true hd) hn)
      · exact .c (.any _)
    · rename_i hne; exact .h (ho _ _ (by simpa using hne) h) hn
  | h0 h =>
    simp only [D.frzR1]
    split
    · split
      · exact .c (.s0 _ _ none 0 (fun _ => rfl) (Nat.zero_le _))
      · exact .c (.any _)
    · rename_i hne; exact .h0 (ho _ _ (by simpa using hne) h)
  | m h hk hc hoo =>
    simp only [D.frzR1]
    split
    · exact .c (.any _)
    · rename_i hne; exact .m (ho _ _ (by simpa using hne) h) hk hc hoo
  | m0 h =>
    simp only [D.frzR1]
    split
    · exact .c (.any _)
    · rename_i hne; exact .m0 (ho _ _ (by simpa using hne) h)
theorem Inv.frzR (hI : Inv κ B ρ s N a w) {t : TypeId} (hmb : s.mem[b]? = some (.row t z m f)) (hf : ∀ i, i < m → f i = f' i) (hfx : s.fx ≤ b) : Inv κ B (ρ.set b none) (s.frzR b z m f') N a w := by
  have hob := hI.mem b _ hmb
  have hbl : b < ρ.length := by rw [hI.len]; exact (List.getElem?_eq_some_iff.1 hmb).1
  obtain ⟨x, hx⟩ : ∃ x, ρ[b]? = some x := ⟨_, List.getElem?_eq_getElem hbl⟩
  have hset : ∀ (b' : Nat) (y : Option (Nat × Nat)), b' ≠ b → ρ[b']? = some y → (ρ.set b none)[b']? = some y := fun b' y hne h => by rw [List.getElem?_set_ne (Ne.symm hne)]; exact h
  have hback : ∀ (b' : Nat) (y : Nat × Nat), (ρ.set b none)[b']? = some (some y) → b' ≠ b ∧ ρ[b']? = some (some y) := by
    intro b' y h
    by_cases hb : b' = b
    · subst hb
      rw [List.getElem?_set_self hbl] at h
      cases h
    · rw [List.getElem?_set_ne (Ne.symm hb)] at h
      exact ⟨hb, h⟩
  have hm : ∀ k, okW κ w ρ k → okW κ w (ρ.set b none) k ∧ w.heap[k]? = w.heap[k]? := fun k hk => ⟨⟨hk.1, fun b' y hy => hk.2 b' y (hback b' y hy).2⟩, rfl⟩
  have hq : ∀ n g c, x = some (g, c) → n ≤ m → n ≤ c → RepC w (okW κ w (ρ.set b none)) (.s n z f') (.slice (some ⟨g, 0, none⟩) n c) := by
    rintro n g c rfl hnm hnc
    rcases hob with ⟨r1, r2⟩ | ⟨g', c', cur, r1, r2, r3, r4, r5, r6⟩
    · rw [r1] at hx; cases hx
    · rw [r1] at hx
      injection hx with hx
      injection hx with hx
      injection hx with e1 e2
      subst e1 e2
      have hgo : okW κ w (ρ.set b none) g' := ⟨⟨hI.hκ g' (hI.own b _ r1).1, (hI.own b _ r1).2⟩, fun b' y hy e => by
        obtain ⟨h1, h2⟩ := hback b' y hy
        exact h1 (hI.nd b' b _ _ h2 r1 e)⟩
      refine .s (fun i j => (cur[i * z + j]?).getD undef) hgo hnc r4 (fun i hi => ?_) (fun i j hi hj => ?_) (fun i j d hi hj => ?_)
      · have := r6 i (by omega)
        rw [hf i (by omega)] at this
        exact ⟨this.1, this.2.1⟩
      · obtain ⟨q1, _, q3⟩ := r6 i (by omega)
        obtain ⟨u, q4, _⟩ := q3 j _ (List.getElem?_eq_getElem (show j < (f i).length by omega))
        show w.cell? ⟨g', 0 + (i * z + j), none⟩ = _
        rw [Nat.zero_add, cell_of_row w _ _ cur t (0, 0) r2, q4]
        rfl
      · have hj' : (f i)[j]? = some d := by rw [hf i (by omega)]; exact hj
        obtain ⟨u, q4, q5⟩ := (r6 i (by omega)).2.2 j d hj'
        show RepC _ _ _ ((cur[i * z + j]?).getD undef)
        rw [q4]
        exact q5.mono hm
  have one : ∀ {d : D} {v : Value}, Rep1 w (okW κ w ρ) ρ d v → Rep1 w (okW κ w (ρ.set b none)) (ρ.set b none) (d.frzR1 b z m f') v := fun h => h.frzR hx hm hset hq
  have lst : ∀ {ds : List D} {us : List Value}, (∀ (j : Nat) (d : D) (v : Value), ds[j]? = some d → us[j]? = some v → Rep1 w (okW κ w ρ) ρ d v) → ∀ (j : Nat) (d : D) (v : Value), (ds.map (D.frzR1 b z m f'))[j]? = some d → us[j]? = some v → Rep1 w (okW κ w (ρ.set b none)) (ρ.set b none) d v := by
    intro ds us hd j d v h1 h2
    rw [List.getElem?_map] at h1
    obtain ⟨d', h3, rfl⟩ := Option.map_eq_some_iff.1 h1
    exact one (hd j d' v h3 h2)
  have ropen : ∀ {d : D} {v : Value}, RepO w (okW κ w ρ) ρ d v → RepO w (okW κ w (ρ.set b none)) (ρ.set b none) (d.frzR b z m f') v := by
    intro d v h
    by_cases hr : ∃ ds, d = .r ds
    · obtain ⟨ds, rfl⟩ := hr
      obtain ⟨us, rfl, hl, hd⟩ := repO_r h
      exact .r (by simpa using hl) (lst hd)
    · cases h with
      | one h =>
        have e : d.frzR b z m f' = d.frzR1 b z m f' := by cases d <;> first | rfl | exact absurd ⟨_, rfl⟩ hr
        rw [e]
        exact .one (one h)
      | r hl hd => exact absurd ⟨_, rfl⟩ hr
  refine ⟨hI.size, hI.dfr, fun e he => ?_, by simp [St.frzR, hI.len], fun b' y hy => hI.own b' y (hback b' y hy).2, fun b1 b2 y1 y2 h1 h2 e => hI.nd b1 b2 y1 y2 (hback b1 y1 h1).2 (hback b2 y2 h2).2 e, fun b' o' hm' => ?_, fun y hy => (hI.gl y hy).mono hm, hI.big, hI.hκ, hI.fx, fun i x h => hset i x (by have := (List.getElem?_eq_some_iff.1 h).1; have := hI.fx; omega) (hI.fix i x h)⟩
  · obtain ⟨e0, h0, rfl⟩ := List.mem_map.1 he
    have hk := hI.tab e0 h0
    exact ⟨fun hp => ropen (hk.yes hp), hk.no, hk.lt⟩
  · have hm2 : ((s.mem.map (Obj.frzR b z m f')).set b .dead)[b']? = some o' := hm'
    by_cases hb : b' = b
    · subst hb
      rw [List.getElem?_set_self (by rw [List.length_map, ← hI.len]; exact hbl)] at hm2
      injection hm2 with hm2
      subst hm2
      exact List.getElem?_set_self hbl
    · rw [List.getElem?_set_ne (Ne.symm hb), List.getElem?_map] at hm2
      obtain ⟨o0, h3, rfl⟩ := Option.map_eq_some_iff.1 hm2
      have h4 := hI.mem b' o0 h3
      cases o0 with
      | dead => exact hset _ _ hb h4
      | var t ds =>
        obtain ⟨g', us, r1, r2, r3, r4⟩ := h4
        exact ⟨g', us, by rw [List.length_map]; exact hset _ _ hb r1, r2, by simpa using r3, lst r4⟩
      | row t z n f =>
        rcases h4 with ⟨r1, r2⟩ | ⟨g', c, cur, r1, r2, r3, r4, r5, r6⟩
        · exact .inl ⟨hset _ _ hb r1, r2⟩
        · refine .inr ⟨g', c, cur, hset _ _ hb r1, r2, r3, r4, r5, fun i hi => ⟨(r6 i hi).1, (r6 i hi).2.1, fun j d hj => ?_⟩⟩
          obtain ⟨v, k1, k2⟩ := (r6 i hi).2.2 j d hj
          exact ⟨v, k1, k2.mono hm⟩
theorem PL.frzR (b : Nat) {t : TypeId} (hmb : s.mem[b]? = some (.row t z m f)) (hf : ∀ i, i < m → f i = f' i) (hfx : s.fx ≤ b) (he : s.frzR b z m f' = s') (h : PL P N ops l Q s') : PL P N ops l Q s := fun κ B ρ a w0 w hI hb => by
  subst he
  exact h κ B _ a w0 w (hI.frzR hmb hf hfx) hb
end
end Go.Proofs.YtleflkgdbagmnaaDoor.Dp
