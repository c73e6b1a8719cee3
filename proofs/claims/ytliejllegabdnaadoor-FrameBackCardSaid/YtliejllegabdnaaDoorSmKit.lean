/- Words for slices of bytes: what it is that a slice's cells hold some bytes, that it stays so, what a slice that the call made holds, and how Go's numbers of 32 bits are words. No function of the program in it. -/
import Derived.Test.YtliejllegabdnaaDoorSmPlain
import Derived.WalkKit
import Derived.ProofKit
import Derived.OpenShut
import Derived.Laws.OwnMore
import Derived.Deep.AppendLies
import Derived.Laws.Rows
import Derived.Laws.BytesArg
import Derived.Laws.AppendOwnNone
import Derived.Deep.Draws
namespace Go.Proofs.YtliejllegabdnaaDoor.Sm
open Go.RowKit
set_option maxHeartbeats 400000

/-- a fact kept from the walk. -/
theorem hid {p : Prop} (h : p) : Hid p := h

/-! ### words and Go's numbers -/
theorem xor_u32 (x y : Int) : bits .xor .u32 x y = ((BitVec.ofInt 32 x ^^^ BitVec.ofInt 32 y).toNat : Int) := by
  show IntKind.u32.wrap ((BitVec.ofInt 32 x ^^^ BitVec.ofInt 32 y).toNat : Int) = _
  have h := (BitVec.ofInt 32 x ^^^ BitVec.ofInt 32 y).isLt
  rw [IntKind.wrap_u32']
  omega
theorem ofInt_toNat (s : BitVec 32) : BitVec.ofInt 32 (s.toNat : Int) = s := by
  rw [BitVec.ofInt_natCast]; simp
theorem xor_words (s t : BitVec 32) : bits .xor .u32 (s.toNat : Int) (t.toNat : Int) = ((s ^^^ t).toNat : Int) := by
  rw [xor_u32, ofInt_toNat, ofInt_toNat]
theorem not_word (s : BitVec 32) : bits .xor .u32 4294967295 (s.toNat : Int) = ((~~~ s).toNat : Int) := by
  rw [xor_u32, ofInt_toNat, show BitVec.ofInt 32 4294967295 = BitVec.allOnes 32 by decide, BitVec.allOnes_xor]
theorem word_lt (s : BitVec 32) : (0 : Int) ≤ (s.toNat : Int) ∧ (s.toNat : Int) < 4294967296 := by
  have := s.isLt; omega
theorem word_of {x : Int} (h : (Lit.int .u32 x).wf = true) : ∃ s : BitVec 32, x = (s.toNat : Int) := by
  have hb := bounds_u32 h
  refine ⟨BitVec.ofInt 32 x, ?_⟩
  obtain ⟨n, rfl⟩ := Int.eq_ofNat_of_zero_le hb.1
  rw [BitVec.ofInt_natCast, BitVec.toNat_ofNat]; omega
theorem shl1 (s : BitVec 32) : (s.toNat : Int) * (2 : Int) % (4294967296 : Int) = ((s <<< 1).toNat : Int) := by
  rw [BitVec.toNat_shiftLeft, Nat.shiftLeft_eq]; omega
theorem step_yes {x : Int} {s : BitVec 32} (hx : x = (s.toNat : Int)) (h : (x / 2147483648 == 1) = true) : bits .xor .u32 (x * 2 % 4294967296) 79764919 = ((step s).toNat : Int) := by
  subst hx
  have hl := s.isLt
  have hm : s.msb = true := by rw [BitVec.msb_eq_decide]; simp at h ⊢; omega
  unfold step
  rw [hm, if_pos rfl, shl1, show (79764919 : Int) = (pol.toNat : Int) by decide, xor_words]
theorem step_no {x : Int} {s : BitVec 32} (hx : x = (s.toNat : Int)) (h : (x / 2147483648 == 1) = false) : x * 2 % 4294967296 = ((step s).toNat : Int) := by
  subst hx
  have hl := s.isLt
  have hm : s.msb = false := by rw [BitVec.msb_eq_decide]; simp at h ⊢; omega
  unfold step
  rw [hm, shl1]
  rfl
theorem steps_succ (k : Nat) (s : BitVec 32) : steps (k + 1) s = step (steps k s) := steps_add k 1 s
theorem high_word (c : UInt8) : (c.toNat : Int) * (16777216 : Int) = ((high c).toNat : Int) := by
  have := c.toNat_lt
  unfold high
  rw [BitVec.toNat_ofNat]; omega
theorem ret_int {k : IntKind} {a b : Int} (h : a = b) : Ending.returned (.int k a) = .returned (.int k b) := by rw [h]

theorem below_drewN {B : Nat} {v w : World} (h : Below B v w) (n : Nat) : Below B v (w.drewN n) := ⟨h.os, h.tape, h.output, h.size, h.block⟩
/-- what is made behind some draws is made. -/
theorem below_from {w w' : World} {n : Nat} (h : Below (w.drewN n).heap.size (w.drewN n) w') : Below w.heap.size w w' := ⟨h.os, h.tape, h.output, h.size, h.block⟩

/-! ### slices of bytes -/
/-- A slice of n bytes with room for c: its first n cells hold the bytes l, in a block below B. -/
structure Row8 (w : World) (B : Nat) (a : Option Addr) (n c : Nat) (l : List UInt8) : Prop where
  len : l.length = n
  room : n ≤ c
  cap : c ≤ maxLen
  none_ : a = none → c = 0
  cells : 0 < n → ∃ b off, a = some ⟨b, off, none⟩ ∧ b < B ∧ ∀ i d, l[i]? = some d → w.cell? ⟨b, off + i, none⟩ = some (.int .u8 (d.toNat : Int))

section
variable {w w' : World} {B B' n c : Nat} {a : Option Addr} {l : List UInt8}
theorem Row8.nil : Row8 w B none 0 0 [] := ⟨rfl, Nat.le_refl _, by unfold maxLen; omega, fun _ => rfl, fun h => absurd h (by omega)⟩
theorem Row8.at_ (h : Row8 w B a n c l) {k : Nat} (hk : k < n) : ∃ b off d, a = some ⟨b, off, none⟩ ∧ b < B ∧ l[k]? = some d ∧ w.cell? ⟨b, off + k, none⟩ = some (.int .u8 (d.toNat : Int)) := by
  obtain ⟨b, off, e, hb, hc⟩ := h.cells (by omega)
  have hl : k < l.length := by have := h.len; omega
  exact ⟨b, off, l[k], e, hb, List.getElem?_eq_getElem hl, hc k _ (List.getElem?_eq_getElem hl)⟩
theorem Row8.keep (h : Row8 w B a n c l) (hk : ∀ p : Addr, p.block < B → w'.cell? p = w.cell? p) : Row8 w' B a n c l :=
  ⟨h.len, h.room, h.cap, h.none_, fun hn => by
    obtain ⟨b, off, e, hb, hc⟩ := h.cells hn
    exact ⟨b, off, e, hb, fun i d hi => (hk ⟨b, off + i, none⟩ hb).trans (hc i d hi)⟩⟩
theorem Row8.below (h : Row8 w B a n c l) (hb : Below B w w') : Row8 w' B a n c l := h.keep fun _ hp => hb.cell hp
theorem Row8.drewN (h : Row8 w B a n c l) (k : Nat) : Row8 (w.drewN k) B a n c l := h.keep fun _ _ => rfl
theorem Row8.drew (h : Row8 w B a n c l) : Row8 w.drew B a n c l := h.keep fun _ _ => rfl
theorem Row8.more (h : Row8 w B a n c l) (hB : B ≤ B') : Row8 w B' a n c l :=
  ⟨h.len, h.room, h.cap, h.none_, fun hn => by
    obtain ⟨b, off, e, hb, hc⟩ := h.cells hn
    exact ⟨b, off, e, by omega, hc⟩⟩
/-- in the world of later on, below its own end. -/
theorem Row8.later (h : Row8 w w.heap.size a n c l) (hb : Below w.heap.size w w') : Row8 w' w'.heap.size a n c l := (h.below hb).more hb.size
theorem Row8.take (h : Row8 w B a n c l) {k : Nat} (hk : k ≤ n) : Row8 w B a k c (l.take k) := by
  refine ⟨by rw [List.length_take, h.len]; omega, by have := h.room; omega, h.cap, h.none_, fun hn => ?_⟩
  obtain ⟨b, off, e, hb, hc⟩ := h.cells (by omega)
  refine ⟨b, off, e, hb, fun i d hi => hc i d ?_⟩
  rw [List.getElem?_take] at hi
  split at hi
  · exact hi
  · cases hi
theorem Row8.drop {b off : Nat} (h : Row8 w B (some ⟨b, off, none⟩) n c l) {k : Nat} (hk : k < n) : Row8 w B (some ⟨b, off + k, none⟩) (n - k) (c - k) (l.drop k) := by
  refine ⟨by rw [List.length_drop, h.len], by have := h.room; omega, by have := h.cap; omega, (fun e => by cases e), fun hn => ?_⟩
  obtain ⟨b', off', e, hb, hc⟩ := h.cells (by omega)
  injection e with e
  injection e with e1 e2
  subst e1 e2
  refine ⟨_, _, rfl, hb, fun i d hi => ?_⟩
  rw [List.getElem?_drop] at hi
  rw [Nat.add_assoc]
  exact hc _ d hi
end

/-- bytes as a row's cells. -/
def cells8 (l : List UInt8) : List Value := l.map fun c => .int .u8 (c.toNat : Int)
theorem cells8_length (l : List UInt8) : (cells8 l).length = l.length := by simp [cells8]
theorem cells8_append (l m : List UInt8) : cells8 (l ++ m) = cells8 l ++ cells8 m := by simp [cells8]
theorem cells8_one (l : List UInt8) : ∀ u ∈ cells8 l, u.oneCell' = true := by
  intro u hu
  simp only [cells8, List.mem_map] at hu
  obtain ⟨c, _, rfl⟩ := hu
  rfl
theorem cells8_get (l : List UInt8) (i : Nat) : (cells8 l)[i]? = (l[i]?).map fun c => .int .u8 (c.toNat : Int) := by simp [cells8]

/-- A slice that the call made is such a row, too. -/
theorem Row8.own {w : World} {base : Nat} {e : TypeId} {a : Option Addr} {n c : Nat} {l : List UInt8} (h : w.ownsRow base e 1 (.slice a n c) n (cells8 l)) : Row8 w w.heap.size a n c l := by
  have hlen : l.length = n := by have := h.1; rw [cells8_length] at this; omega
  rcases h.2 with ⟨hv, h0⟩ | ⟨g, cap, cur, hv, hg, hh, hnc, hcm, _, _⟩
  · injection hv with h1 h2 h3
    subst h1 h3
    subst h0
    rw [List.eq_nil_of_length_eq_zero hlen]
    exact Row8.nil
  · injection hv with h1 h2 h3
    subst h1 h3
    refine ⟨hlen, hnc, hcm, (fun e => by cases e), fun hn => ⟨g, 0, rfl, ?_, fun i d hi => ?_⟩⟩
    · exact (h.lt g rfl).2
    · have hc := h.cells (g := g) rfl i (.int .u8 (d.toNat : Int)) (by rw [cells8_get, hi]; rfl)
      by_cases h0 : i = 0
      · subst h0; simpa [Addr.add] using hc
      · simpa [Addr.add, h0] using hc
/-- What the append's law asks of what is appended. -/
theorem Row8.news {w : World} {B : Nat} {a : Addr} {n c : Nat} {l : List UInt8} (h : Row8 w B (some a) n c l) : ∀ j u, (cells8 l)[j]? = some u → w.cell? (a.add j) = some u := by
  intro j u hj
  rw [cells8_get] at hj
  cases hl : l[j]? with
  | none => rw [hl] at hj; cases hj
  | some d =>
    rw [hl] at hj
    simp at hj
    subst hj
    have hlt : j < l.length := by
      rcases Nat.lt_or_ge j l.length with h' | h'
      · exact h'
      · rw [List.getElem?_eq_none h'] at hl; cases hl
    obtain ⟨b, off, e, _, hc⟩ := h.cells (by have := h.len; omega)
    injection e with e
    subst e
    have := hc j d hl
    by_cases h0 : j = 0
    · subst h0; simpa [Addr.add] using this
    · simpa [Addr.add, h0] using this

/-- A slice of bytes that came in. -/
theorem Row8.of_row {w : World} {a : Option Addr} {len cap : Nat} {zs : List Int}
    (h : (a = none ∧ len = 0 ∧ cap = 0 ∧ zs = []) ∨ ∃ x, a = some x ∧ len ≤ cap ∧ cap ≤ maxLen ∧ zs.length = cap ∧ (∀ i, i < zs.length → w.cell? (x.add i) = some (.int .u8 (zs.getD i 0))) ∧ ∀ n ∈ zs, (Lit.int .u8 n).wf = true) :
    ∃ l, Row8 w w.heap.size a len cap l := by
  rcases h with ⟨rfl, rfl, rfl, rfl⟩ | ⟨x, rfl, hl, hm, hz, hc, hw⟩
  · exact ⟨[], Row8.nil⟩
  · refine ⟨(zs.take len).map fun n => UInt8.ofNat n.toNat, ⟨by simp; omega, hl, hm, (fun e => by cases e), fun hn => ?_⟩⟩
    obtain ⟨b, off, spot⟩ := x
    have h0 := hc 0 (by omega)
    have hspot : spot = none := by simpa [Addr.add] using World.cell?_spot h0
    subst hspot
    have hb : b < w.heap.size := by
      have := block_lt_of_cell h0
      simpa [Addr.add] using this
    refine ⟨b, off, rfl, hb, fun i d hi => ?_⟩
    rw [List.getElem?_map, List.getElem?_take] at hi
    split at hi
    · rename_i hlt
      have hiz : i < zs.length := by omega
      rw [List.getElem?_eq_getElem hiz] at hi
      simp at hi
      subst hi
      have h1 := hc i hiz
      have hwf := hw zs[i] (List.getElem_mem hiz)
      have hbd := bounds_u8 hwf
      have e1 : zs.getD i 0 = zs[i] := by rw [List.getD_eq_getElem?_getD, List.getElem?_eq_getElem hiz]; rfl
      rw [e1] at h1
      have e2 : ((UInt8.ofNat zs[i].toNat).toNat : Int) = zs[i] := by rw [UInt8.toNat_ofNat']; omega
      rw [e2]
      by_cases hi0 : i = 0
      · subst hi0; simpa [Addr.add] using h1
      · simpa [Addr.add, hi0] using h1
    · cases hi

/-! ### what is made -/
/-- A slice of the bytes l that the call made; what was there ahead of it is as it was. -/
def Made (w : World) (E : TypeId) (l : List UInt8) (v : Value) (w' : World) : Prop :=
  w'.ownsRow w.heap.size E 1 v l.length (cells8 l) ∧ Below w.heap.size w w'
theorem Made.slice {w w' : World} {E : TypeId} {l : List UInt8} {v : Value} (h : Made w E l v w') : ∃ a c, v = .slice a l.length c ∧ Row8 w' w'.heap.size a l.length c l ∧ Below w.heap.size w w' := by
  rcases h.1.2 with ⟨hv, h0⟩ | ⟨g, cap, cur, hv, _⟩
  · refine ⟨none, 0, by rw [hv, h0], ?_, h.2⟩
    have := h.1
    rw [hv] at this
    have e : l.length = 0 := h0
    rw [e] at this ⊢
    exact Row8.own this
  · have := h.1
    rw [hv] at this
    exact ⟨_, _, hv, Row8.own this, h.2⟩
theorem below_dr {w w' : World} (h : Below w.drew.heap.size w.drew w') : Below w.heap.size w w' := ⟨h.os, h.tape, h.output, h.size, h.block⟩
/-- What is owned from a later block on is owned from an earlier one on. -/
theorem owns_mono {w : World} {base base' : Nat} {e : TypeId} {size : Nat} {v : Value} {n : Nat} {xs : List Value} (h : w.ownsRow base e size v n xs) (hb : base' ≤ base) : w.ownsRow base' e size v n xs := by
  refine ⟨h.1, ?_⟩
  rcases h.2 with h2 | ⟨g, cap, cur, hv, hg, r⟩
  · exact Or.inl h2
  · exact Or.inr ⟨g, cap, cur, hv, by omega, r⟩
/-- What is made later is made. -/
theorem made_later {w w1 w2 : World} {E : TypeId} {l : List UInt8} {v : Value} (hb : Below w.heap.size w w1) (h : Made w1 E l v w2) : Made w E l v w2 :=
  ⟨owns_mono h.1 hb.size, hb.trans (h.2.mono hb.size)⟩
/-- The call returns such a slice. -/
def RetMade (w : World) (E : TypeId) (l : List UInt8) (e : Ending) (w' : World) : Prop := ∃ v, e = .returned v ∧ Made w E l v w'

/-- The string of bytes. -/
def str (l : List UInt8) : ByteArray := ⟨l.toArray⟩
theorem str_eq (l m : List UInt8) : ((str l).toList == (str m).toList) = decide (l = m) := by
  have e : ∀ k : List UInt8, (str k).toList = k := by intro k; simp [str, ByteArray.toList_eq]
  rw [e, e]
  by_cases h : l = m <;> simp [h]
theorem conv_str {P : Program} {w : World} {B : Nat} {a : Option Addr} {n c : Nat} {l : List UInt8} (h : Row8 w B a n c l) {src dst e : TypeId}
    (hs : P.underlying src = some (.slice e)) (he : P.underlying e = some (.int .u8)) (hd : P.underlying dst = some .string) :
    (convert src dst (.slice a n c)).run P w = .ok (.string (str l)) w := by
  rcases Nat.eq_zero_or_pos n with rfl | hn
  · have hl : l = [] := List.eq_nil_of_length_eq_zero h.len
    subst hl
    cases a with
    | none => exact run_convert_bytes_nil w src e hs he _ _ dst hd
    | some x =>
      rw [run_convert_bytes_string w src dst e _ _ _ hs he hd, run_bytesToString w x 0 c [] (by simpa using run_loadCells_list (P := P) w x [] (by simp))]
      rfl
  · obtain ⟨b, off, rfl, _, hc⟩ := h.cells hn
    have hl := h.len
    rw [run_convert_bytes_arg w src e hs he b off n c (l.map fun d => (d.toNat : Int)) (by simpa using hl) (fun i hi => by
      have hil : i < l.length := by omega
      rw [hc i l[i] (List.getElem?_eq_getElem hil)]
      simp [List.getElem?_eq_getElem hil]) dst hd]
    congr 2
    unfold strOfNums str
    congr 1
    rw [List.map_map]
    refine congrArg List.toArray (Eq.trans (List.map_congr_left fun d _ => ?_) (List.map_id l))
    simp
end Go.Proofs.YtliejllegabdnaaDoor.Sm
