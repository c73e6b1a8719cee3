/- A frame as a value of the program: its fourteen cells, and what its two slices hold. No function of the program in it. -/
import Derived.Test.YtfpgdimgffamoaaGreatDoorSmA
import Derived.Test.YtfpgdimgffamoaaGreatDoorFrPlain
namespace Go.Proofs.YtfpgdimgffamoaaGreatDoor.Fr
open Go.RowKit Go.ChangeShapes Go.WideShapes Go.Proofs.YtfpgdimgffamoaaGreatDoor.Sm Go.Proofs.YtfpgdimgffamoaaGreatDoor.Wr
set_option maxHeartbeats 400000

/-- a frame's cells, with its two slices. -/
def cells (f : Frame) (a b : Value) : List Value :=
  [.int .i64 f.kind, .int .i64 f.part, .int .i64 f.node, .int .i64 f.wait, .int .i64 f.mask, .int .i64 f.link, .bool f.flag, .int .i64 f.cycle, .int .i64 f.offset, a, .int .i64 f.frm, .int .i64 f.to, .int .i64 f.seq, b]
def Is64 (n : Int) : Prop := -9223372036854775808 ≤ n ∧ n ≤ 9223372036854775807
/-- a frame's numbers are Go's. -/
def Wf (f : Frame) : Prop := Is64 f.kind ∧ Is64 f.part ∧ Is64 f.node ∧ Is64 f.wait ∧ Is64 f.mask ∧ Is64 f.link ∧ Is64 f.cycle ∧ Is64 f.offset ∧ Is64 f.frm ∧ Is64 f.to ∧ Is64 f.seq
/-- v is the frame f, whose slices lie below block B. -/
def FrV (w : World) (B : Nat) (v : Value) (f : Frame) : Prop :=
  ∃ a n c a' n' c', v = .agg (cells f (.slice a n c) (.slice a' n' c')).toArray ∧ RowI w B a n c f.ages ∧ Row8 w B a' n' c' f.body ∧ Wf f
theorem FrV.below {w w' : World} {B : Nat} {v : Value} {f : Frame} (h : FrV w B v f) (hb : Below B w w') : FrV w' B v f := by
  obtain ⟨a, n, c, a', n', c', e, h1, h2, h3⟩ := h
  exact ⟨a, n, c, a', n', c', e, h1.below hb, h2.below hb, h3⟩
theorem FrV.more {w : World} {B B' : Nat} {v : Value} {f : Frame} (h : FrV w B v f) (hB : B ≤ B') : FrV w B' v f := by
  obtain ⟨a, n, c, a', n', c', e, h1, h2, h3⟩ := h
  exact ⟨a, n, c, a', n', c', e, h1.more hB, h2.more hB, h3⟩
theorem FrV.later {w w' : World} {v : Value} {f : Frame} (h : FrV w w.heap.size v f) (hb : Below w.heap.size w w') : FrV w' w'.heap.size v f := (h.below hb).more hb.size

/-- A frame that came in. -/
theorem FrV.of_trod {H : Type} {enc : TypeId × Value → H} {P : Program} {W : World} {r : Reach} {b0 : Nat} {t ti tl tb ta ty e e' : TypeId} {fs : Array Field} {v : Value} {d : DataW H} {p : List MemPlace}
    (hs : P.underlying t = some (.struct fs)) (hty : (fs.toList.map (·.type)) = [ti, ti, ti, ti, ti, ti, tb, tl, tl, ta, ti, ti, tl, ty]) (hone : Deep.oneCellFields P fs = true) (hC : P.cellsOf t = fs.size)
    (hi : P.underlying ti = some (.int .i64)) (hl : P.underlying tl = some (.int .i64)) (hb : P.underlying tb = some .bool) (ha : P.underlying ta = some (.slice e)) (he : P.underlying e = some (.int .i64)) (hce : P.cellsOf e = 1)
    (hy : P.underlying ty = some (.slice e')) (he' : P.underlying e' = some (.int .u8)) (hce' : P.cellsOf e' = 1)
    (hv : Value.okWide P W r b0 t v) (h : DataW.Trod enc P W 0 (fun _ => true) true t v d p) : ∃ f, FrV W W.heap.size v f := by
  obtain ⟨cs, rfl, hlen, hf⟩ := open_cells hs hone hC hv h
  have hsz : fs.size = 14 := by
    have := congrArg List.length hty
    simpa using this
  have g : ∀ (j : Nat) (T : TypeId), [ti, ti, ti, ti, ti, ti, tb, tl, tl, ta, ti, ti, tl, ty][j]? = some T → ∃ u n y, cs[j]? = some u ∧ DataW.trod enc P W 0 (fun _ => true) true n T [u] = some y := by
    intro j T hT
    rw [← hty, List.getElem?_map, Array.getElem?_toList] at hT
    cases hj : fs[j]? with
    | none => rw [hj] at hT; cases hT
    | some f =>
      rw [hj] at hT
      simp at hT
      subst hT
      exact hf j f hj
  rw [hsz] at hlen
  match cs, hlen with
  | [c0, c1, c2, c3, c4, c5, c6, c7, c8, c9, c10, c11, c12, c13], _ =>
    have num : ∀ (j : Nat) (T : TypeId) (u0 : Value), [ti, ti, ti, ti, ti, ti, tb, tl, tl, ta, ti, ti, tl, ty][j]? = some T → [c0, c1, c2, c3, c4, c5, c6, c7, c8, c9, c10, c11, c12, c13][j]? = some u0 → P.underlying T = some (.int .i64) → ∃ x, u0 = .int .i64 x ∧ Is64 x := by
      intro j T u0 h1 h2 h3
      obtain ⟨u, n, y, e1, e2⟩ := g j T h1
      rw [h2] at e1
      injection e1 with e1
      subst e1
      obtain ⟨x, ex, _, hx⟩ := DataW.trod_int h3 e2
      injection ex with ex
      exact ⟨x, ex, bounds_i64 hx⟩
    obtain ⟨x0, rfl, w0⟩ := num 0 ti c0 rfl rfl hi
    obtain ⟨x1, rfl, w1⟩ := num 1 ti c1 rfl rfl hi
    obtain ⟨x2, rfl, w2⟩ := num 2 ti c2 rfl rfl hi
    obtain ⟨x3, rfl, w3⟩ := num 3 ti c3 rfl rfl hi
    obtain ⟨x4, rfl, w4⟩ := num 4 ti c4 rfl rfl hi
    obtain ⟨x5, rfl, w5⟩ := num 5 ti c5 rfl rfl hi
    obtain ⟨x7, rfl, w7⟩ := num 7 tl c7 rfl rfl hl
    obtain ⟨x8, rfl, w8⟩ := num 8 tl c8 rfl rfl hl
    obtain ⟨x10, rfl, w10⟩ := num 10 ti c10 rfl rfl hi
    obtain ⟨x11, rfl, w11⟩ := num 11 ti c11 rfl rfl hi
    obtain ⟨x12, rfl, w12⟩ := num 12 tl c12 rfl rfl hl
    obtain ⟨u6, n6, y6, e6, t6⟩ := g 6 tb rfl
    obtain ⟨v6, ev6, _⟩ := DataW.trod_bool hb t6
    injection ev6 with ev6
    obtain ⟨u9, n9, y9, e9, t9⟩ := g 9 ta rfl
    obtain ⟨A, N, C, l, ev9, hr9⟩ := RowI.of_trod ha he hce t9
    obtain ⟨u13, n13, y13, e13, t13⟩ := g 13 ty rfl
    obtain ⟨A', N', C', l', ev13, hr13⟩ := Row8.of_trod1 hy he' hce' t13
    simp at e6 e9 e13
    subst e6 e9 e13 ev6 ev9 ev13
    exact ⟨⟨x0, x1, x2, x3, x4, x5, v6, x7, x8, l, x10, x11, x12, l'⟩, A, N, C, A', N', C', rfl, hr9, hr13, w0, w1, w2, w3, w4, w5, w7, w8, w10, w11, w12⟩
end Go.Proofs.YtfpgdimgffamoaaGreatDoor.Fr
