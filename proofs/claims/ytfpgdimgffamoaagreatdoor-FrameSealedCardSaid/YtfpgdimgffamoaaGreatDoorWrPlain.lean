/- Numbers as bytes, the most significant one first: the plain mathematics of chapter 3. No function of the program in it. -/
namespace Go.Proofs.YtfpgdimgffamoaaGreatDoor.Wr

/-- n in k bytes. -/
def be (n : Nat) : Nat → List UInt8
  | 0 => []
  | k + 1 => UInt8.ofNat (n / 256 ^ k) :: be n k
/-- the number that bytes are. -/
def num (l : List UInt8) : Nat := l.foldl (fun n c => n * 256 + c.toNat) 0

theorem be_length (n k : Nat) : (be n k).length = k := by
  induction k with
  | zero => rfl
  | succ k ih => simp [be, ih]
theorem be_get (n k j : Nat) (h : j < k) : (be n k)[j]? = some (UInt8.ofNat (n / 256 ^ (k - 1 - j))) := by
  induction k generalizing j with
  | zero => omega
  | succ k ih =>
    cases j with
    | zero => simp [be]
    | succ j =>
      simp only [be, List.getElem?_cons_succ]
      rw [ih j (by omega)]
      congr 4
      omega
theorem be_take_succ (n k j : Nat) (h : j < k) : (be n k).take (j + 1) = (be n k).take j ++ [UInt8.ofNat (n / 256 ^ (k - 1 - j))] := by
  rw [List.take_add_one, be_get n k j h]; rfl

theorem foldl_num (l : List UInt8) : ∀ n, l.foldl (fun n c => n * 256 + c.toNat) n = n * 256 ^ l.length + num l := by
  induction l with
  | nil => intro n; simp [num]
  | cons c l ih =>
    intro n
    have h1 := ih (n * 256 + c.toNat)
    have h2 := ih c.toNat
    have h3 : num (c :: l) = c.toNat * 256 ^ l.length + num l := by
      simp only [num, List.foldl_cons, Nat.zero_mul, Nat.zero_add]
      rw [h2]; rfl
    rw [List.foldl_cons, h1, h3, List.length_cons, Nat.pow_succ, Nat.add_mul, Nat.add_assoc, Nat.mul_assoc, Nat.mul_comm 256]
theorem num_cons (c : UInt8) (l : List UInt8) : num (c :: l) = c.toNat * 256 ^ l.length + num l := by
  have := foldl_num l c.toNat
  simp only [num, List.foldl_cons, Nat.zero_mul, Nat.zero_add]
  rw [this]; rfl
theorem num_lt (l : List UInt8) : num l < 256 ^ l.length := by
  induction l with
  | nil => simp [num]
  | cons c l ih =>
    rw [num_cons, List.length_cons, Nat.pow_succ]
    have := c.toNat_lt
    have h : c.toNat * 256 ^ l.length ≤ 255 * 256 ^ l.length := Nat.mul_le_mul_right _ (by omega)
    omega
theorem num_snoc (l : List UInt8) (k : Nat) (c : UInt8) (h : l[k]? = some c) : num (l.take (k + 1)) = num (l.take k) * 256 + c.toNat := by
  rw [List.take_add_one, h]; simp [num]
theorem num_be (n k : Nat) : num (be n k) = n % 256 ^ k := by
  induction k with
  | zero => simp [be, num, Nat.mod_one]
  | succ k ih =>
    rw [be, num_cons, be_length, ih, UInt8.toNat_ofNat']
    have h := Nat.mod_mul (x := n) (a := 256 ^ k) (b := 256)
    have e : 256 ^ (k + 1) = 256 ^ k * 256 := Nat.pow_succ ..
    rw [e, h, Nat.mul_comm, Nat.add_comm]
theorem be_eq_of_mod {a b : Nat} : ∀ {k : Nat}, a % 256 ^ k = b % 256 ^ k → be a k = be b k
  | 0, _ => rfl
  | k + 1, h => by
    have e : ∀ x : Nat, x % 256 ^ (k + 1) % 256 ^ k = x % 256 ^ k := fun x => by rw [Nat.pow_succ, Nat.mod_mul_right_mod]
    have e2 : ∀ x : Nat, x / 256 ^ k % 256 = x % 256 ^ (k + 1) / 256 ^ k := fun x => by rw [Nat.pow_succ, Nat.mod_mul_right_div_self]
    have h1 : a % 256 ^ k = b % 256 ^ k := by rw [← e a, ← e b, h]
    have h2 : a / 256 ^ k % 256 = b / 256 ^ k % 256 := by rw [e2, e2, h]
    have h3 : UInt8.ofNat (a / 256 ^ k) = UInt8.ofNat (b / 256 ^ k) := by
      apply UInt8.toNat_inj.1
      rw [UInt8.toNat_ofNat', UInt8.toNat_ofNat']
      exact h2
    rw [be, be, be_eq_of_mod h1, h3]
theorem be_num (l : List UInt8) : be (num l) l.length = l := by
  induction l with
  | nil => rfl
  | cons c l ih =>
    have h := num_lt l
    have hc := c.toNat_lt
    rw [List.length_cons, be, num_cons]
    have h1 : (c.toNat * 256 ^ l.length + num l) / 256 ^ l.length = c.toNat := by
      rw [Nat.mul_comm, Nat.mul_add_div (Nat.pow_pos (by omega)), Nat.div_eq_of_lt h]; rfl
    have h2 : be (c.toNat * 256 ^ l.length + num l) l.length = be (num l) l.length := be_eq_of_mod (by rw [Nat.mul_comm, Nat.mul_add_mod])
    rw [h1, h2, ih]
    congr 1
    simp
theorem be_inj {a b k : Nat} (ha : a < 256 ^ k) (hb : b < 256 ^ k) (h : be a k = be b k) : a = b := by
  have h1 := num_be a k
  have h2 := num_be b k
  rw [h, h2, Nat.mod_eq_of_lt ha, Nat.mod_eq_of_lt hb] at h1
  exact h1.symm

/-- bytes come ahead of others of the same length just where their number is less. -/
theorem lt_num : ∀ (l m : List UInt8), l.length = m.length → (l < m ↔ num l < num m)
  | [], [], _ => by simp [num]
  | [], _ :: _, h => by simp at h
  | _ :: _, [], h => by simp at h
  | c :: l, d :: m, h => by
    have hl : l.length = m.length := by simpa using h
    have ih := lt_num l m hl
    have h1 := num_lt l
    have h2 := num_lt m
    rw [num_cons, num_cons, List.cons_lt_cons_iff, ih, hl]
    rw [hl] at h1
    rw [UInt8.lt_iff_toNat_lt]
    generalize 256 ^ m.length = p at *
    constructor
    · rintro (h3 | ⟨h3, h4⟩)
      · have : (c.toNat + 1) * p ≤ d.toNat * p := Nat.mul_le_mul_right _ h3
        rw [Nat.add_mul] at this
        omega
      · rw [h3]; omega
    · intro h3
      rcases Nat.lt_trichotomy c.toNat d.toNat with h4 | h4 | h4
      · exact .inl h4
      · refine .inr ⟨UInt8.toNat_inj.1 h4, ?_⟩
        rw [h4] at h3; omega
      · have : (d.toNat + 1) * p ≤ c.toNat * p := Nat.mul_le_mul_right _ h4
        rw [Nat.add_mul] at this
        omega
theorem be_lt {a b k : Nat} (ha : a < 256 ^ k) (hb : b < 256 ^ k) : be a k < be b k ↔ a < b := by
  rw [lt_num _ _ (by rw [be_length, be_length]), num_be, num_be, Nat.mod_eq_of_lt ha, Nat.mod_eq_of_lt hb]

/-! ### what the calls answer -/
/-- may a number have this width? -/
def wideB (k : Int) : Bool := decide (1 ≤ k ∧ k ≤ 7)
def plainB (n k : Int) : Bool := decide ((1 ≤ k ∧ k ≤ 7) ∧ 0 ≤ n ∧ n < 256 ^ k.toNat)
def plainL (n k : Int) : List UInt8 := if plainB n k = true then be n.toNat k.toNat else []
def signedB (n k : Int) : Bool := decide ((1 ≤ k ∧ k ≤ 7) ∧ -(256 ^ k.toNat / 2) ≤ n ∧ n < 256 ^ k.toNat / 2)
def signedL (n k : Int) : List UInt8 := if signedB n k = true then (if n < 0 then be (n + 256 ^ k.toNat).toNat k.toNat else be n.toNat k.toNat) else []
def numI (l : List UInt8) : Int := if l.length ≤ 7 then (num l : Int) else 0
def offI (l : List UInt8) : Int := if 1 ≤ l.length ∧ l.length ≤ 7 then (if 256 ^ l.length / 2 ≤ num l then (num l : Int) - 256 ^ l.length else num l) else 0

theorem pow_cases {k : Nat} (h : 1 ≤ k ∧ k ≤ 7) : (256 ^ k : Nat) = 256 ∨ (256 ^ k : Nat) = 65536 ∨ (256 ^ k : Nat) = 16777216 ∨ (256 ^ k : Nat) = 4294967296 ∨ (256 ^ k : Nat) = 1099511627776 ∨ (256 ^ k : Nat) = 281474976710656 ∨ (256 ^ k : Nat) = 72057594037927936 := by
  obtain ⟨h1, h2⟩ := h
  match k, h1, h2 with
  | 1, _, _ => simp
  | 2, _, _ => simp
  | 3, _, _ => simp
  | 4, _, _ => simp
  | 5, _, _ => simp
  | 6, _, _ => simp
  | 7, _, _ => simp
theorem pow_le {k : Nat} (h : k ≤ 7) : (256 ^ k : Nat) ≤ 72057594037927936 := by
  have := Nat.pow_le_pow_right (n := 256) (by omega) h
  simpa using this
theorem pow_cast (k : Nat) : (256 : Int) ^ k = ((256 ^ k : Nat) : Int) := by simp

/-- what was written is read. -/
theorem numI_plain {n k : Int} (h : plainB n k = true) : numI (plainL n k) = n := by
  unfold plainB at h
  have h' := of_decide_eq_true h
  rw [pow_cast] at h'
  have e : plainL n k = be n.toNat k.toNat := by unfold plainL plainB; rw [if_pos h]
  rw [e]
  unfold numI
  rw [be_length, if_pos (by omega), num_be, Nat.mod_eq_of_lt (by omega)]
  omega
theorem offI_signed {n k : Int} (h : signedB n k = true) : offI (signedL n k) = n := by
  unfold signedB at h
  have h' := of_decide_eq_true h
  rw [pow_cast] at h'
  have hp := pow_cases (k := k.toNat) (by omega)
  have e : signedL n k = if n < 0 then be (n + 256 ^ k.toNat).toNat k.toNat else be n.toNat k.toNat := by unfold signedL signedB; rw [if_pos h]
  rw [e, pow_cast]
  unfold offI
  split
  · rw [be_length, if_pos (by omega), num_be, pow_cast]
    generalize (256 ^ k.toNat : Nat) = p at *
    rw [Nat.mod_eq_of_lt (by omega), if_pos (by omega)]
    omega
  · rw [be_length, if_pos (by omega), num_be, pow_cast]
    generalize (256 ^ k.toNat : Nat) = p at *
    rw [Nat.mod_eq_of_lt (by omega), if_neg (by omega)]
    omega
/-- what is read is written so. -/
theorem back_plain {l : List UInt8} (h1 : 1 ≤ l.length) (h7 : l.length ≤ 7) : plainB (numI l) l.length = true ∧ plainL (numI l) l.length = l := by
  have hl := num_lt l
  have e : numI l = (num l : Int) := by unfold numI; rw [if_pos h7]
  have hb : plainB (numI l) l.length = true := by
    unfold plainB
    rw [e, pow_cast]
    refine decide_eq_true ⟨by omega, by omega, ?_⟩
    rw [Int.toNat_natCast]
    omega
  refine ⟨hb, ?_⟩
  unfold plainL
  rw [if_pos hb, e, Int.toNat_natCast, Int.toNat_natCast, be_num]
theorem back_signed {l : List UInt8} (h1 : 1 ≤ l.length) (h7 : l.length ≤ 7) : signedB (offI l) l.length = true ∧ signedL (offI l) l.length = l := by
  have hl := num_lt l
  have hp := pow_cases ⟨h1, h7⟩
  have e : offI l = if 256 ^ l.length / 2 ≤ num l then (num l : Int) - 256 ^ l.length else num l := by unfold offI; rw [if_pos ⟨h1, h7⟩]
  have hb : signedB (offI l) l.length = true := by
    unfold signedB
    rw [e, pow_cast, Int.toNat_natCast, pow_cast]
    refine decide_eq_true ⟨by omega, ?_⟩
    generalize (256 ^ l.length : Nat) = p at *
    split <;> omega
  refine ⟨hb, ?_⟩
  unfold signedL
  rw [if_pos hb, e, Int.toNat_natCast, pow_cast]
  have hbe : be (num l) l.length = l := be_num l
  by_cases hh : 256 ^ l.length / 2 ≤ num l
  · rw [if_pos hh]
    generalize (256 ^ l.length : Nat) = p at *
    rw [if_pos (by omega)]
    have e2 : ((num l : Int) - (p : Int) + (p : Int)).toNat = num l := by omega
    rw [e2, hbe]
  · rw [if_neg hh, if_neg (by omega), Int.toNat_natCast, hbe]
/-- a number is at least half of all just where its first byte is at least 128. -/
theorem first_half {c : UInt8} {l : List UInt8} : 256 ^ (c :: l).length / 2 ≤ num (c :: l) ↔ 128 ≤ c.toNat := by
  rw [num_cons, List.length_cons, Nat.pow_succ]
  have h := num_lt l
  generalize 256 ^ l.length = p at *
  have e : p * 256 / 2 = 128 * p := by omega
  rw [e]
  constructor
  · intro h1
    rcases Nat.lt_or_ge c.toNat 128 with h2 | h2
    · have : (c.toNat + 1) * p ≤ 128 * p := Nat.mul_le_mul_right _ h2
      rw [Nat.add_mul] at this
      omega
    · exact h2
  · intro h1
    have : 128 * p ≤ c.toNat * p := Nat.mul_le_mul_right _ h1
    omega
end Go.Proofs.YtfpgdimgffamoaaGreatDoor.Wr
