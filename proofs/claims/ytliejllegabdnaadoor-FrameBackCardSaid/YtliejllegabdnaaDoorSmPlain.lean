/- The mathematics of chapter 2's sums: what a step of the register does (it is linear, and no two registers come to one), what bits fed one by one come to, and that two rows of bits that are unlike only within 32 of them leave unlike registers. No program in it. -/
import Derived.Laws.BitsAllLaws
namespace Go.Proofs.YtliejllegabdnaaDoor.Sm
set_option maxHeartbeats 400000

/-! ### the register as a word of 32 bits -/
def pol : BitVec 32 := 79764919#32
def step (r : BitVec 32) : BitVec 32 := if r.msb then (r <<< 1) ^^^ pol else r <<< 1
def steps : Nat → BitVec 32 → BitVec 32
  | 0, r => r
  | n + 1, r => steps n (step r)

theorem step_xor (x y : BitVec 32) : step (x ^^^ y) = step x ^^^ step y := by
  unfold step
  rw [BitVec.msb_xor, BitVec.shiftLeft_xor_distrib]
  cases hx : x.msb <;> cases hy : y.msb <;> simp
  · rw [BitVec.xor_assoc]
  · rw [BitVec.xor_assoc, BitVec.xor_assoc, BitVec.xor_comm pol]
  · rw [BitVec.xor_assoc, BitVec.xor_comm pol, BitVec.xor_assoc, BitVec.xor_self, BitVec.xor_zero]

theorem xor_zero_iff (x y : BitVec 32) : x ^^^ y = 0#32 ↔ x = y := by
  constructor
  · intro h
    have : (x ^^^ y) ^^^ y = 0#32 ^^^ y := by rw [h]
    rwa [BitVec.xor_assoc, BitVec.xor_self, BitVec.xor_zero, BitVec.zero_xor] at this
  · rintro rfl; exact BitVec.xor_self

theorem step_zero_iff (z : BitVec 32) : step z = 0#32 ↔ z = 0#32 := by
  constructor
  · intro h
    unfold step at h
    cases hm : z.msb
    · rw [hm] at h
      simp only [Bool.false_eq_true, if_false] at h
      have hm' := hm
      rw [BitVec.msb_eq_decide] at hm'
      have h2 := congrArg BitVec.toNat h
      rw [BitVec.toNat_shiftLeft] at h2
      simp [Nat.shiftLeft_eq] at h2 hm'
      apply BitVec.eq_of_toNat_eq
      simp
      omega
    · rw [hm] at h
      simp only [if_true] at h
      rw [xor_zero_iff] at h
      have h2 := congrArg BitVec.toNat h
      rw [BitVec.toNat_shiftLeft] at h2
      simp [Nat.shiftLeft_eq, pol] at h2
      omega
  · rintro rfl; rfl

theorem step_inj {x y : BitVec 32} (h : step x = step y) : x = y := by
  rw [← xor_zero_iff, ← step_xor, step_zero_iff, xor_zero_iff] at h
  exact h
theorem steps_inj : ∀ (n : Nat) {x y : BitVec 32}, steps n x = steps n y → x = y
  | 0, _, _, h => h
  | n + 1, _, _, h => step_inj (steps_inj n h)
theorem steps_xor : ∀ (n : Nat) (x y : BitVec 32), steps n (x ^^^ y) = steps n x ^^^ steps n y
  | 0, _, _ => rfl
  | n + 1, x, y => by show steps n (step (x ^^^ y)) = _; rw [step_xor, steps_xor n]; rfl
theorem steps_add : ∀ (m n : Nat) (x : BitVec 32), steps (m + n) x = steps n (steps m x)
  | 0, n, x => by rw [Nat.zero_add]; rfl
  | m + 1, n, x => by rw [Nat.add_right_comm]; exact steps_add m n (step x)

/-! ### bits, fed one by one -/
def top (b : Bool) : BitVec 32 := if b then 2147483648#32 else 0#32
def fed (r : BitVec 32) : List Bool → BitVec 32
  | [] => r
  | b :: l => fed (step (r ^^^ top b)) l
theorem fed_append (r : BitVec 32) : ∀ (l m : List Bool), fed r (l ++ m) = fed (fed r l) m := by
  intro l
  induction l generalizing r with
  | nil => intro m; rfl
  | cons b l ih => intro m; exact ih _ m
theorem fed_inj : ∀ (l : List Bool) {x y : BitVec 32}, fed x l = fed y l → x = y
  | [], _, _, h => h
  | b :: l, x, y, h => by
    have h1 := step_inj (fed_inj l h)
    have h2 : (x ^^^ top b) ^^^ top b = (y ^^^ top b) ^^^ top b := by rw [h1]
    rwa [BitVec.xor_assoc, BitVec.xor_self, BitVec.xor_zero, BitVec.xor_assoc, BitVec.xor_self, BitVec.xor_zero] at h2

/-- up to 32 bits as a word, the first one on top. -/
def word : List Bool → BitVec 32
  | [] => 0#32
  | b :: l => top b ^^^ (word l >>> 1)

theorem word_nat : ∀ (l : List Bool), l.length ≤ 32 → (word l).toNat % 2 ^ (32 - l.length) = 0
  | [], _ => by simp [word]
  | b :: l, h => by
    have h' : l.length + 1 ≤ 32 := h
    have ih := word_nat l (by omega)
    have hw : (word l).toNat < 2 ^ 32 := (word l).isLt
    have hs : (word (b :: l)).toNat = (top b).toNat ^^^ (word l).toNat / 2 := by
      show (top b ^^^ (word l >>> 1)).toNat = _
      rw [BitVec.toNat_xor, BitVec.toNat_ushiftRight, Nat.shiftRight_eq_div_pow]
    have h2 : (word l).toNat / 2 % 2 ^ (32 - (l.length + 1)) = 0 := by
      have e : 32 - l.length = (32 - (l.length + 1)) + 1 := by omega
      rw [e, Nat.pow_succ] at ih
      generalize 2 ^ (32 - (l.length + 1)) = q at *
      obtain ⟨c, hc⟩ := Nat.dvd_of_mod_eq_zero ih
      rw [hc, show q * 2 * c = 2 * (q * c) by rw [Nat.mul_comm q 2, Nat.mul_assoc], Nat.mul_div_cancel_left _ (by omega), Nat.mul_mod_right]
    rw [hs]
    show _ % 2 ^ (32 - (l.length + 1)) = 0
    rw [Nat.xor_mod_two_pow, h2, Nat.xor_zero]
    cases b
    · simp [top]
    · show 2147483648 % 2 ^ (32 - (l.length + 1)) = 0
      apply Nat.mod_eq_zero_of_dvd
      rw [show 2147483648 = 2 ^ 31 by decide]
      exact Nat.pow_dvd_pow 2 (by omega)

theorem step_half (x : BitVec 32) (h : x.toNat % 2 = 0) : step (x >>> 1) = x := by
  have hx : x.toNat < 4294967296 := x.isLt
  have hm : (x >>> 1).msb = false := by
    rw [BitVec.msb_eq_decide, BitVec.toNat_ushiftRight, Nat.shiftRight_eq_div_pow]
    simp
    omega
  unfold step
  rw [hm]
  simp only [Bool.false_eq_true, if_false]
  apply BitVec.eq_of_toNat_eq
  rw [BitVec.toNat_shiftLeft, BitVec.toNat_ushiftRight, Nat.shiftRight_eq_div_pow, Nat.shiftLeft_eq]
  omega

theorem fed_word (r : BitVec 32) : ∀ (l : List Bool), l.length ≤ 32 → fed r l = steps l.length (r ^^^ word l) := by
  intro l
  induction l generalizing r with
  | nil => intro _; simp [fed, word, steps]
  | cons b l ih =>
    intro h
    have h' : l.length + 1 ≤ 32 := h
    show fed (step (r ^^^ top b)) l = steps l.length (step (r ^^^ (top b ^^^ (word l >>> 1))))
    rw [ih _ (by omega), ← BitVec.xor_assoc, step_xor (r ^^^ top b) (word l >>> 1), step_half]
    have hw := word_nat l (by omega)
    have e : 32 - l.length = (31 - l.length) + 1 := by omega
    rw [e, Nat.pow_succ] at hw
    generalize 2 ^ (31 - l.length) = q at *
    obtain ⟨c, hc⟩ := Nat.dvd_of_mod_eq_zero hw
    rw [hc, show q * 2 * c = 2 * (q * c) by rw [Nat.mul_comm q 2, Nat.mul_assoc], Nat.mul_mod_right]

theorem top_msb (b : Bool) (x : BitVec 32) : (top b ^^^ (x >>> 1)).msb = b := by
  rw [BitVec.msb_xor]
  have : (x >>> 1).msb = false := by
    have hx : x.toNat < 4294967296 := x.isLt
    rw [BitVec.msb_eq_decide, BitVec.toNat_ushiftRight, Nat.shiftRight_eq_div_pow]
    simp
    omega
  rw [this]
  cases b <;> decide

theorem word_inj : ∀ (l m : List Bool), l.length = m.length → l.length ≤ 32 → word l = word m → l = m
  | [], [], _, _, _ => rfl
  | b :: l, c :: m, hl, h, e => by
    have h' : l.length + 1 ≤ 32 := h
    have hl' : l.length + 1 = m.length + 1 := hl
    have e' : top b ^^^ (word l >>> 1) = top c ^^^ (word m >>> 1) := e
    have hb : b = c := by
      have := congrArg BitVec.msb e'
      rwa [top_msb, top_msb] at this
    subst hb
    have e2 : word l >>> 1 = word m >>> 1 := by
      have : top b ^^^ (top b ^^^ (word l >>> 1)) = top b ^^^ (top b ^^^ (word m >>> 1)) := by rw [e']
      rwa [← BitVec.xor_assoc, ← BitVec.xor_assoc, BitVec.xor_self, BitVec.zero_xor, BitVec.zero_xor] at this
    have even : ∀ k : List Bool, k.length + 1 ≤ 32 → (word k).toNat % 2 = 0 := by
      intro k hk
      have hw := word_nat k (by omega)
      have e : 32 - k.length = (31 - k.length) + 1 := by omega
      rw [e, Nat.pow_succ] at hw
      generalize 2 ^ (31 - k.length) = q at *
      obtain ⟨c, hc⟩ := Nat.dvd_of_mod_eq_zero hw
      rw [hc, show q * 2 * c = 2 * (q * c) by rw [Nat.mul_comm q 2, Nat.mul_assoc], Nat.mul_mod_right]
    have e3 : word l = word m := by
      have := congrArg step e2
      rwa [step_half _ (even l h'), step_half _ (even m (by omega))] at this
    rw [word_inj l m (by omega) (by omega) e3]

/-- Two rows of bits of one length that are alike but for at most 32 in a row: their registers are alike just where they are. -/
theorem fed_burst (r : BitVec 32) (p u v s : List Bool) (hl : u.length = v.length) (hu : u.length ≤ 32) : fed r (p ++ u ++ s) = fed r (p ++ v ++ s) ↔ u = v := by
  constructor
  · intro h
    rw [fed_append, fed_append, fed_append, fed_append] at h
    have h1 := fed_inj s h
    rw [fed_word _ u hu, fed_word _ v (by omega), hl] at h1
    have h2 := steps_inj _ h1
    apply word_inj u v hl hu
    have : fed r p ^^^ (fed r p ^^^ word u) = fed r p ^^^ (fed r p ^^^ word v) := by rw [h2]
    rwa [← BitVec.xor_assoc, ← BitVec.xor_assoc, BitVec.xor_self, BitVec.zero_xor, BitVec.zero_xor] at this
  · rintro rfl; rfl

/-! ### bytes -/
def bits8 (c : UInt8) : List Bool := [c.toBitVec.getLsbD 7, c.toBitVec.getLsbD 6, c.toBitVec.getLsbD 5, c.toBitVec.getLsbD 4, c.toBitVec.getLsbD 3, c.toBitVec.getLsbD 2, c.toBitVec.getLsbD 1, c.toBitVec.getLsbD 0]
def allBits (l : List UInt8) : List Bool := l.flatMap bits8
def high (c : UInt8) : BitVec 32 := BitVec.ofNat 32 (c.toNat * 16777216)
def one (r : BitVec 32) (c : UInt8) : BitVec 32 := steps 8 (r ^^^ high c)
def reg (r : BitVec 32) (l : List UInt8) : BitVec 32 := l.foldl one r

theorem word_bits8_all : ∀ c : BitVec 8, word [c.getLsbD 7, c.getLsbD 6, c.getLsbD 5, c.getLsbD 4, c.getLsbD 3, c.getLsbD 2, c.getLsbD 1, c.getLsbD 0] = BitVec.ofNat 32 (c.toNat * 16777216) := by decide +kernel
theorem word_bits8 (c : UInt8) : word (bits8 c) = high c := word_bits8_all c.toBitVec
theorem one_fed (r : BitVec 32) (c : UInt8) : one r c = fed r (bits8 c) := by
  rw [fed_word r (bits8 c) (by simp [bits8]), word_bits8]
  rfl
theorem reg_fed : ∀ (l : List UInt8) (r : BitVec 32), reg r l = fed r (allBits l)
  | [], _ => rfl
  | c :: l, r => by
    show reg (one r c) l = fed r (bits8 c ++ allBits l)
    rw [fed_append, ← one_fed, reg_fed l]
theorem reg_append (r : BitVec 32) (l m : List UInt8) : reg r (l ++ m) = reg (reg r l) m := by simp [reg, List.foldl_append]

theorem bits8_inj_all : ∀ c d : BitVec 8, [c.getLsbD 7, c.getLsbD 6, c.getLsbD 5, c.getLsbD 4, c.getLsbD 3, c.getLsbD 2, c.getLsbD 1, c.getLsbD 0] = [d.getLsbD 7, d.getLsbD 6, d.getLsbD 5, d.getLsbD 4, d.getLsbD 3, d.getLsbD 2, d.getLsbD 1, d.getLsbD 0] → c = d := by
  intro c d h
  simp only [List.cons.injEq, and_true] at h
  obtain ⟨h7, h6, h5, h4, h3, h2, h1, h0⟩ := h
  apply BitVec.eq_of_getLsbD_eq
  intro i hi
  match i, hi with
  | 0, _ => exact h0
  | 1, _ => exact h1
  | 2, _ => exact h2
  | 3, _ => exact h3
  | 4, _ => exact h4
  | 5, _ => exact h5
  | 6, _ => exact h6
  | 7, _ => exact h7
theorem bits8_inj {c d : UInt8} (h : bits8 c = bits8 d) : c = d := UInt8.toBitVec_inj.1 (bits8_inj_all _ _ h)
theorem bits8_length (c : UInt8) : (bits8 c).length = 8 := rfl
theorem allBits_length : ∀ l : List UInt8, (allBits l).length = 8 * l.length
  | [] => rfl
  | c :: l => by
    show (bits8 c ++ allBits l).length = 8 * (l.length + 1)
    rw [List.length_append, allBits_length l, bits8_length]; omega
theorem allBits_inj : ∀ {l m : List UInt8}, l.length = m.length → allBits l = allBits m → l = m
  | [], [], _, _ => rfl
  | c :: l, d :: m, hl, h => by
    have h' : bits8 c ++ allBits l = bits8 d ++ allBits m := h
    obtain ⟨h1, h2⟩ := List.append_inj h' (by rw [bits8_length, bits8_length])
    rw [bits8_inj h1, allBits_inj (by simpa using hl) h2]

theorem allBits_get : ∀ (l : List UInt8) (p : Nat), p < 8 * l.length → (allBits l)[p]? = some ((l.getD (p / 8) 0).toBitVec.getLsbD (7 - p % 8))
  | [], p, h => by simp at h
  | c :: l, p, h => by
    show (bits8 c ++ allBits l)[p]? = _
    by_cases hp : p < 8
    · rw [List.getElem?_append_left (by rw [bits8_length]; exact hp)]
      match p, hp with
      | 0, _ => rfl
      | 1, _ => rfl
      | 2, _ => rfl
      | 3, _ => rfl
      | 4, _ => rfl
      | 5, _ => rfl
      | 6, _ => rfl
      | 7, _ => rfl
    · rw [List.getElem?_append_right (by rw [bits8_length]; omega), bits8_length]
      have h' : p < 8 * (l.length + 1) := h
      rw [allBits_get l (p - 8) (by omega)]
      have e1 : p / 8 = (p - 8) / 8 + 1 := by omega
      have e2 : (p - 8) % 8 = p % 8 := by omega
      rw [e1, e2]
      rfl

/-- Registers of rows of one length that are alike outside of 32 bits from a place on. -/
theorem reg_burst (r : BitVec 32) (l m : List UInt8) (hl : l.length = m.length) (at_ : Nat)
    (h : ∀ p, p < at_ ∨ at_ + 32 ≤ p → (allBits l)[p]? = (allBits m)[p]?) : reg r l = reg r m ↔ l = m := by
  rw [reg_fed, reg_fed]
  have hb : (allBits l).length = (allBits m).length := by rw [allBits_length, allBits_length, hl]
  have cut : ∀ k : List Bool, k = k.take at_ ++ (k.drop at_).take 32 ++ k.drop (at_ + 32) := by
    intro k
    rw [List.append_assoc, ← List.drop_drop, List.take_append_drop, List.take_append_drop]
  have e1 : (allBits l).take at_ = (allBits m).take at_ := by
    apply List.ext_getElem?
    intro i
    rw [List.getElem?_take, List.getElem?_take]
    by_cases hi : i < at_
    · rw [if_pos hi, if_pos hi]; exact h i (.inl hi)
    · rw [if_neg hi, if_neg hi]
  have e2 : (allBits l).drop (at_ + 32) = (allBits m).drop (at_ + 32) := by
    apply List.ext_getElem?
    intro i
    rw [List.getElem?_drop, List.getElem?_drop]
    exact h _ (.inr (by omega))
  constructor
  · intro hf
    apply allBits_inj hl
    rw [cut (allBits l), cut (allBits m), e1, e2] at hf
    rw [cut (allBits l), cut (allBits m), e1, e2]
    rw [(fed_burst r _ _ _ _ (by simp [hb]) (by simp; omega)).1 hf]
  · rintro rfl; rfl

/-- Linear: of registers and rows alike. -/
theorem one_xor (x y : BitVec 32) (c d : UInt8) : one (x ^^^ y) (c ^^^ d) = one x c ^^^ one y d := by
  have hh : high (c ^^^ d) = high c ^^^ high d := by
    unfold high
    apply BitVec.eq_of_toNat_eq
    have e1 : c.toNat * 16777216 = c.toNat <<< 24 := by rw [Nat.shiftLeft_eq]
    have e2 : d.toNat * 16777216 = d.toNat <<< 24 := by rw [Nat.shiftLeft_eq]
    have e3 : (c ^^^ d).toNat * 16777216 = (c ^^^ d).toNat <<< 24 := by rw [Nat.shiftLeft_eq]
    have b1 := c.toNat_lt
    have b2 := d.toNat_lt
    have b3 := (c ^^^ d).toNat_lt
    rw [BitVec.toNat_xor, BitVec.toNat_ofNat, BitVec.toNat_ofNat, BitVec.toNat_ofNat, Nat.mod_eq_of_lt (by omega), Nat.mod_eq_of_lt (by omega), Nat.mod_eq_of_lt (by omega), e1, e2, e3, UInt8.toNat_xor, Nat.shiftLeft_xor_distrib]
  unfold one
  rw [hh, ← steps_xor]
  congr 1
  rw [BitVec.xor_assoc, BitVec.xor_assoc, ← BitVec.xor_assoc y, BitVec.xor_comm y (high c), BitVec.xor_assoc (high c)]
theorem reg_xor : ∀ (l m : List UInt8) (x y : BitVec 32), l.length = m.length → reg (x ^^^ y) (List.zipWith (· ^^^ ·) l m) = reg x l ^^^ reg y m
  | [], [], _, _, _ => rfl
  | c :: l, d :: m, x, y, h => by
    show reg (one (x ^^^ y) (c ^^^ d)) (List.zipWith (· ^^^ ·) l m) = reg (one x c) l ^^^ reg (one y d) m
    rw [one_xor, reg_xor l m _ _ (by simpa using h)]

/-! ### the sum -/
def more (s : BitVec 32) (l : List UInt8) : BitVec 32 := ~~~ reg (~~~ s) l
def of (l : List UInt8) : BitVec 32 := more 0#32 l
theorem more_append (s : BitVec 32) (l m : List UInt8) : more s (l ++ m) = more (more s l) m := by
  unfold more; rw [reg_append, BitVec.not_not]
theorem more_nil (s : BitVec 32) : more s [] = s := by unfold more; show ~~~ ~~~ s = s; rw [BitVec.not_not]
theorem of_append (l m : List UInt8) : of (l ++ m) = more (of l) m := more_append _ _ _
theorem of_eq_iff (l m : List UInt8) : of l = of m ↔ reg (~~~ 0#32) l = reg (~~~ 0#32) m := by
  unfold of more
  constructor
  · intro h
    have : ~~~ ~~~ reg (~~~ 0#32) l = ~~~ ~~~ reg (~~~ 0#32) m := by rw [h]
    rwa [BitVec.not_not, BitVec.not_not] at this
  · intro h; rw [h]
theorem of_mixes (a b c : List UInt8) (h1 : a.length = b.length) (h2 : a.length = c.length) :
    of (List.zipWith (· ^^^ ·) (List.zipWith (· ^^^ ·) a b) c) = of a ^^^ of b ^^^ of c := by
  unfold of more
  have e : (~~~ 0#32 : BitVec 32) = (~~~ 0#32 ^^^ ~~~ 0#32) ^^^ ~~~ 0#32 := by decide
  have nx : ∀ x y z : BitVec 32, ~~~ (x ^^^ y ^^^ z) = ~~~ x ^^^ ~~~ y ^^^ ~~~ z := by
    intro x y z
    apply BitVec.eq_of_getLsbD_eq
    intro i hi
    simp [hi]
  conv => lhs; rw [e]
  rw [reg_xor _ _ _ _ (by simp [← h1, ← h2]), reg_xor _ _ _ _ h1]
  exact nx _ _ _

/-! ### sealed bytes -/
def tail4 (s : BitVec 32) : List UInt8 := [UInt8.ofNat (s.toNat / 16777216), UInt8.ofNat (s.toNat / 65536), UInt8.ofNat (s.toNat / 256), UInt8.ofNat s.toNat]
def sealB (l : List UInt8) : List UInt8 := l ++ tail4 (of l)
def num4 (l : List UInt8) : Nat := l.foldl (fun n c => (n * 256 + c.toNat) % 4294967296) 0

theorem tail4_length (s : BitVec 32) : (tail4 s).length = 4 := rfl
theorem num4_tail4 (s : BitVec 32) : num4 (tail4 s) = s.toNat := by
  have h : s.toNat < 4294967296 := s.isLt
  simp [num4, tail4, UInt8.toNat_ofNat']
  omega
theorem tail4_num4 (l : List UInt8) (h : l.length = 4) (s : BitVec 32) : num4 l = s.toNat ↔ l = tail4 s := by
  constructor
  · intro hn
    match l, h with
    | [a, b, c, d], _ =>
      have ha := a.toNat_lt
      have hb := b.toNat_lt
      have hc := c.toNat_lt
      have hd := d.toNat_lt
      simp [num4] at hn
      unfold tail4
      rw [← hn]
      simp only [List.cons.injEq, and_true]
      refine ⟨?_, ?_, ?_, ?_⟩ <;> (apply UInt8.toNat_inj.1; rw [UInt8.toNat_ofNat']; omega)
  · rintro rfl; exact num4_tail4 s

theorem word_get : ∀ (l : List Bool) (i : Nat), i < 32 → (word l).getLsbD (31 - i) = l.getD i false
  | [], i, _ => by simp [word]
  | b :: l, 0, _ => by
    show (top b ^^^ (word l >>> 1)).getLsbD 31 = b
    have h := top_msb b (word l)
    rwa [BitVec.msb_eq_getLsbD_last] at h
  | b :: l, i + 1, h => by
    show (top b ^^^ (word l >>> 1)).getLsbD (31 - (i + 1)) = l.getD i false
    rw [← word_get l i (by omega), BitVec.getLsbD_xor, BitVec.getLsbD_ushiftRight]
    have e : 1 + (31 - (i + 1)) = 31 - i := by omega
    have t : (top b).getLsbD (31 - (i + 1)) = false := by
      cases b
      · simp [top]
      · show (2147483648#32).getLsbD (31 - (i + 1)) = false
        rw [show (2147483648#32) = BitVec.twoPow 32 31 by decide, BitVec.getLsbD_twoPow]
        simp
        omega
    rw [e, t, Bool.false_xor]
theorem byte_bit (n k j : Nat) (hj : j < 8) : (UInt8.ofNat (n / 2 ^ k)).toBitVec.getLsbD j = n.testBit (k + j) := by
  show (BitVec.ofNat 8 (n / 2 ^ k)).getLsbD j = _
  rw [BitVec.getLsbD_ofNat, Nat.testBit_div_two_pow]
  simp [hj, Nat.add_comm]
theorem word_tail4 (s : BitVec 32) : word (allBits (tail4 s)) = s := by
  apply BitVec.eq_of_getLsbD_eq
  intro i hi
  have hw := word_get (allBits (tail4 s)) (31 - i) (by omega)
  rw [show 31 - (31 - i) = i by omega] at hw
  rw [hw, List.getD_eq_getElem?_getD, allBits_get _ _ (by rw [tail4_length]; omega), Option.getD_some]
  have hq : (31 - i) / 8 = 0 ∨ (31 - i) / 8 = 1 ∨ (31 - i) / 8 = 2 ∨ (31 - i) / 8 = 3 := by omega
  show _ = s.toNat.testBit i
  rcases hq with q | q | q | q <;> rw [q]
  · show (UInt8.ofNat (s.toNat / 2 ^ 24)).toBitVec.getLsbD _ = _
    rw [byte_bit _ _ _ (by omega)]; congr 1; omega
  · show (UInt8.ofNat (s.toNat / 2 ^ 16)).toBitVec.getLsbD _ = _
    rw [byte_bit _ _ _ (by omega)]; congr 1; omega
  · show (UInt8.ofNat (s.toNat / 2 ^ 8)).toBitVec.getLsbD _ = _
    rw [byte_bit _ _ _ (by omega)]; congr 1; omega
  · have := byte_bit s.toNat 0 (7 - (31 - i) % 8) (by omega)
    rw [Nat.pow_zero, Nat.div_one] at this
    show (UInt8.ofNat s.toNat).toBitVec.getLsbD _ = _
    rw [this]; congr 1; omega
theorem reg_four (r s : BitVec 32) : reg r (tail4 s) = steps 32 (r ^^^ s) := by
  rw [reg_fed, fed_word _ _ (by rw [allBits_length]; simp [tail4]), allBits_length, tail4_length, word_tail4]
theorem four_of (l : List UInt8) (h : l.length = 4) : ∃ s : BitVec 32, l = tail4 s := by
  have hlt : num4 l < 4294967296 := by
    match l, h with
    | [a, b, c, d], _ => simp [num4]; omega
  refine ⟨BitVec.ofNat 32 (num4 l), (tail4_num4 l h _).1 ?_⟩
  rw [BitVec.toNat_ofNat, Nat.mod_eq_of_lt hlt]

theorem xor_not {w : Nat} (r : BitVec w) : r ^^^ ~~~ r = BitVec.allOnes w := by
  apply BitVec.eq_of_getLsbD_eq
  intro i hi
  rw [BitVec.getLsbD_xor, BitVec.getLsbD_not, BitVec.getLsbD_allOnes]
  cases r.getLsbD i <;> simp [hi]

/-- A row of bytes of which the last four are t: they are the sum just where the register behind all of them is what sealed bytes leave. -/
theorem sealed_iff (l t : List UInt8) (h : t.length = 4) : t = tail4 (of l) ↔ reg (~~~ 0#32) (l ++ t) = steps 32 (~~~ 0#32) := by
  obtain ⟨s, rfl⟩ := four_of t h
  rw [reg_append, reg_four]
  have hx : ∀ r : BitVec 32, r ^^^ ~~~ r = ~~~ 0#32 := by
    intro r
    rw [show (~~~ 0#32 : BitVec 32) = BitVec.allOnes 32 by decide]
    exact xor_not r
  constructor
  · intro e
    have e2 : s = of l := by
      apply BitVec.eq_of_toNat_eq
      rw [← num4_tail4 s, e, num4_tail4]
    rw [e2]
    congr 1
    exact hx _
  · intro e
    have e1 := steps_inj _ e
    have e2 : s = of l := by
      show s = ~~~ reg (~~~ 0#32) l
      have : reg (~~~ 0#32) l ^^^ (reg (~~~ 0#32) l ^^^ s) = reg (~~~ 0#32) l ^^^ (reg (~~~ 0#32) l ^^^ ~~~ reg (~~~ 0#32) l) := by rw [e1, hx]
      rwa [← BitVec.xor_assoc, ← BitVec.xor_assoc, BitVec.xor_self, BitVec.zero_xor, BitVec.zero_xor] at this
    rw [e2]

/-- Sealed bytes of which at most 32 bits in a row were turned are sealed just where none was. -/
theorem sealed_burst (b l t : List UInt8) (h : t.length = 4) (hl : l.length = b.length) (at_ : Nat)
    (hb : ∀ p, p < at_ ∨ at_ + 32 ≤ p → (allBits (l ++ t))[p]? = (allBits (sealB b))[p]?) : t = tail4 (of l) ↔ l ++ t = sealB b := by
  have h0 := (sealed_iff b (tail4 (of b)) (tail4_length _)).1 rfl
  rw [sealed_iff l t h, ← h0]
  exact reg_burst _ _ _ (by show _ = (b ++ tail4 (of b)).length; simp [hl, h, tail4_length]) at_ hb

/-! ### bits turned one by one -/
def flip1 (l : List UInt8) (p : Nat) : List UInt8 := l.set (p / 8) (l.getD (p / 8) 0 ^^^ UInt8.ofNat (128 / 2 ^ (p % 8)))
/-- rounds so many of the turning. -/
def turnTo (l : List UInt8) (at_ row : Nat) : Nat → List UInt8
  | 0 => l
  | k + 1 => if at_ + k < 8 * l.length ∧ row.testBit k then flip1 (turnTo l at_ row k) (at_ + k) else turnTo l at_ row k
theorem flip1_length (l : List UInt8) (p : Nat) : (flip1 l p).length = l.length := by simp [flip1]
theorem turnTo_length (l : List UInt8) (at_ row : Nat) : ∀ k, (turnTo l at_ row k).length = l.length
  | 0 => rfl
  | k + 1 => by
    unfold turnTo
    split
    · rw [flip1_length, turnTo_length l at_ row k]
    · exact turnTo_length l at_ row k
theorem mask_bit : ∀ q j : Fin 8, (UInt8.ofNat (128 / 2 ^ q.val)).toBitVec.getLsbD j.val = decide (q.val + j.val = 7) := by decide +kernel
theorem flip1_get (l : List UInt8) (p q : Nat) (hne : q ≠ p) : (allBits (flip1 l p))[q]? = (allBits l)[q]? := by
  by_cases hq : q < 8 * l.length
  · rw [allBits_get _ q (by rw [flip1_length]; exact hq), allBits_get _ q hq]
    congr 1
    unfold flip1
    rw [List.getD_eq_getElem?_getD, List.getElem?_set]
    by_cases hc : p / 8 = q / 8
    · rw [if_pos hc, if_pos (by omega), Option.getD_some, hc]
      show (((l.getD (q / 8) 0).toBitVec ^^^ (UInt8.ofNat (128 / 2 ^ (p % 8))).toBitVec).getLsbD _) = _
      rw [BitVec.getLsbD_xor, mask_bit ⟨p % 8, by omega⟩ ⟨7 - q % 8, by omega⟩]
      have : ¬ (p % 8 + (7 - q % 8) = 7) := by omega
      simp [this]
    · rw [if_neg hc, List.getD_eq_getElem?_getD]
  · rw [List.getElem?_eq_none (by rw [allBits_length, flip1_length]; omega), List.getElem?_eq_none (by rw [allBits_length]; omega)]
theorem turnTo_get (l : List UInt8) (at_ row q : Nat) : ∀ k, k ≤ 32 → (q < at_ ∨ at_ + 32 ≤ q) → (allBits (turnTo l at_ row k))[q]? = (allBits l)[q]?
  | 0, _, _ => rfl
  | k + 1, hk, h => by
    unfold turnTo
    split
    · rw [flip1_get _ _ _ (by omega), turnTo_get l at_ row q k (by omega) h]
    · exact turnTo_get l at_ row q k (by omega) h
/-- what the loop has come to when it ends: at 32 rounds, or where the row of bits ends. -/
theorem turnTo_end (l : List UInt8) (at_ row : Nat) (k : Nat) (h : 8 * l.length ≤ at_ + k) : ∀ j, turnTo l at_ row (k + j) = turnTo l at_ row k
  | 0 => rfl
  | j + 1 => by
    show turnTo l at_ row (k + j + 1) = _
    rw [turnTo, if_neg (by omega), turnTo_end l at_ row k h j]

theorem turned_of (l : List UInt8) (at_ row : Nat) : of l = of (turnTo l at_ row 32) ↔ l = turnTo l at_ row 32 := by
  rw [of_eq_iff]
  exact reg_burst _ _ _ (turnTo_length _ _ _ _).symm at_ fun p hp => (turnTo_get l at_ row p 32 (by omega) hp).symm
end Go.Proofs.YtliejllegabdnaaDoor.Sm
