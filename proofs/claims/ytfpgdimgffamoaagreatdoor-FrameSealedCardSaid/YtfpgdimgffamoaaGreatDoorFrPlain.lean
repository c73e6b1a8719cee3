/- Frames as bytes: the plain mathematics of chapter 4. No function of the program in it. -/
import Derived.Test.YtfpgdimgffamoaaGreatDoorWrPlain
namespace Go.Proofs.YtfpgdimgffamoaaGreatDoor.Fr
open Go.Proofs.YtfpgdimgffamoaaGreatDoor.Wr

/-! ### reading one thing behind another -/
/-- What reads bytes from a place on: what it reads, and the place behind it; or an error's number, and where. -/
def Par (α : Type) : Type := List UInt8 → Nat → Except (Int × Nat) (α × Nat)
def ret {α : Type} (a : α) : Par α := fun _ pos => .ok (a, pos)
def bind {α β : Type} (p : Par α) (q : α → Par β) : Par β := fun x pos => match p x pos with
  | .error e => .error e
  | .ok r => q r.1 x r.2
/-- a number's field. -/
def numP (k : Nat) (lo hi : Int) : Par Int := fun x pos =>
  if x.length < pos + k then .error (2, pos) else if lo ≤ (num ((x.drop pos).take k) : Int) ∧ (num ((x.drop pos).take k) : Int) ≤ hi then .ok ((num ((x.drop pos).take k) : Int), pos + k) else .error (6, pos)
def offP : Par Int := fun x pos =>
  if x.length < pos + 6 then .error (2, pos) else if -1099511627776 ≤ offI ((x.drop pos).take 6) ∧ offI ((x.drop pos).take 6) ≤ 1099511627776 then .ok (offI ((x.drop pos).take 6), pos + 6) else .error (6, pos)
def takeP (k : Nat) : Par (List UInt8) := fun x pos => if x.length < pos + k then .error (2, pos) else .ok ((x.drop pos).take k, pos + k)
def repP : Nat → Par (List Int)
  | 0 => ret []
  | k + 1 => bind (numP 1 0 201) fun a => bind (repP k) fun l => ret (a :: l)
def agesP : Par (List Int) := bind (numP 1 1 6) fun n => repP n.toNat
def bodyP : Par (List UInt8) := bind (numP 1 0 24) fun n => takeP n.toNat

/-- What is written as bs is read as a, whatever stands around it; of less of it there is too little. -/
structure Good {α : Type} (p : Par α) (a : α) (bs : List UInt8) : Prop where
  yes : ∀ pre post, p (pre ++ (bs ++ post)) pre.length = .ok (a, pre.length + bs.length)
  cut : ∀ pre k, k < bs.length → ∃ at_, p (pre ++ bs.take k) pre.length = .error (2, at_)
theorem ret_good {α : Type} (a : α) : Good (ret a) a [] := ⟨fun _ _ => rfl, fun _ _ h => absurd h (by simp)⟩
theorem bind_good {α β : Type} {p : Par α} {q : α → Par β} {a : α} {b : β} {bs cs : List UInt8} (hp : Good p a bs) (hq : Good (q a) b cs) : Good (bind p q) b (bs ++ cs) := by
  refine ⟨fun pre post => ?_, fun pre k hk => ?_⟩
  · have h1 := hp.yes pre (cs ++ post)
    have h2 := hq.yes (pre ++ bs) post
    rw [List.append_assoc, List.length_append] at h2
    unfold bind
    rw [List.append_assoc, h1]
    show q a _ _ = _
    rw [h2, List.length_append, Nat.add_assoc]
  · by_cases h : k < bs.length
    · obtain ⟨at_, h1⟩ := hp.cut pre k h
      refine ⟨at_, ?_⟩
      unfold bind
      rw [List.take_append_of_le_length (by omega), h1]
    · have e : (bs ++ cs).take k = bs ++ cs.take (k - bs.length) := by
        rw [List.take_append, List.take_of_length_le (by omega)]
      rw [List.length_append] at hk
      obtain ⟨at_, h2⟩ := hq.cut (pre ++ bs) (k - bs.length) (by omega)
      refine ⟨at_, ?_⟩
      have h1 := hp.yes pre (cs.take (k - bs.length))
      unfold bind
      rw [e, h1]
      show q a _ _ = _
      rw [List.append_assoc, List.length_append] at h2
      exact h2
theorem bind_ret_good {α β : Type} {p : Par α} {f : α → β} {a : α} {bs : List UInt8} (hp : Good p a bs) : Good (bind p fun a => ret (f a)) (f a) bs := by
  have := bind_good hp (ret_good (f a)) (q := fun a => ret (f a))
  rwa [List.append_nil] at this
theorem mid (pre bs post : List UInt8) : ((pre ++ (bs ++ post)).drop pre.length).take bs.length = bs := by
  rw [List.drop_left, List.take_left]
theorem num_good {k : Nat} {lo hi n : Int} (h0 : 0 ≤ lo) (h1 : lo ≤ n) (h2 : n ≤ hi) (h3 : hi < 256 ^ k) : Good (numP k lo hi) n (be n.toNat k) := by
  have hl := be_length n.toNat k
  rw [pow_cast] at h3
  refine ⟨fun pre post => ?_, fun pre j hj => ⟨pre.length, ?_⟩⟩
  · have hm := mid pre (be n.toNat k) post
    rw [hl] at hm
    have hv : (num (be n.toNat k) : Int) = n := by rw [num_be, Nat.mod_eq_of_lt (by omega)]; omega
    unfold numP
    rw [hm, hv, if_neg (by simp [hl]), if_pos ⟨h1, h2⟩, hl]
  · unfold numP
    rw [hl] at hj
    rw [if_pos (by rw [List.length_append, List.length_take]; omega)]
theorem signedL_length {n k : Int} (h : signedB n k = true) : (signedL n k).length = k.toNat := by
  unfold signedL
  rw [if_pos h]
  split <;> rw [be_length]
theorem off_good {n : Int} (h1 : -1099511627776 ≤ n) (h2 : n ≤ 1099511627776) : Good offP n (signedL n 6) := by
  have hb : signedB n 6 = true := by
    unfold signedB
    rw [pow_cast]
    refine decide_eq_true ⟨by omega, ?_⟩
    have : (256 ^ (6 : Int).toNat : Nat) = 281474976710656 := by decide
    rw [this]
    omega
  have hl : (signedL n 6).length = 6 := signedL_length hb
  have hv := offI_signed hb
  refine ⟨fun pre post => ?_, fun pre j hj => ⟨pre.length, ?_⟩⟩
  · have hm := mid pre (signedL n 6) post
    rw [hl] at hm
    unfold offP
    rw [hm, hv, if_neg (by simp [hl]), if_pos ⟨h1, h2⟩, hl]
  · unfold offP
    rw [hl] at hj
    rw [if_pos (by rw [List.length_append, List.length_take]; omega)]
theorem take_good (l : List UInt8) : Good (takeP l.length) l l := by
  refine ⟨fun pre post => ?_, fun pre j hj => ⟨pre.length, ?_⟩⟩
  · unfold takeP
    rw [mid, if_neg (by simp)]
  · unfold takeP
    rw [if_pos (by rw [List.length_append, List.length_take]; omega)]
/-- ages, one behind the other. -/
def agesB (l : List Int) : List UInt8 := l.flatMap fun a => be a.toNat 1
theorem rep_good : ∀ (l : List Int), (∀ a ∈ l, 0 ≤ a ∧ a ≤ 201) → Good (repP l.length) l (agesB l)
  | [], _ => ret_good []
  | a :: l, h => by
    have h1 := h a (by simp)
    have ih := rep_good l fun b hb => h b (by simp [hb])
    have hg := bind_good (num_good (k := 1) (lo := 0) (hi := 201) (n := a) (by omega) h1.1 h1.2 (by decide)) (bind_ret_good (f := fun l => a :: l) ih) (q := fun a => bind (repP l.length) fun l => ret (a :: l))
    exact hg
def agesOk (l : List Int) : Bool := decide (1 ≤ l.length ∧ l.length ≤ 6) && l.all fun a => decide (0 ≤ a ∧ a ≤ 201)
theorem agesOk_iff {l : List Int} : agesOk l = true ↔ (1 ≤ l.length ∧ l.length ≤ 6) ∧ ∀ a ∈ l, 0 ≤ a ∧ a ≤ 201 := by
  unfold agesOk
  simp [List.all_eq_true]
theorem ages_good {l : List Int} (h : agesOk l = true) : Good agesP l (be l.length 1 ++ agesB l) := by
  obtain ⟨h1, h2⟩ := agesOk_iff.1 h
  have hn := num_good (k := 1) (lo := 1) (hi := 6) (n := (l.length : Int)) (by omega) (by omega) (by omega) (by decide)
  have hr := rep_good l h2
  rw [Int.toNat_natCast] at hn
  exact bind_good hn (q := fun n => repP n.toNat) (by rw [Int.toNat_natCast]; exact hr)
theorem body_good {l : List UInt8} (h : l.length ≤ 24) : Good bodyP l (be l.length 1 ++ l) := by
  have hn := num_good (k := 1) (lo := 0) (hi := 24) (n := (l.length : Int)) (by omega) (by omega) (by omega) (by decide)
  rw [Int.toNat_natCast] at hn
  exact bind_good hn (q := fun n => takeP n.toNat) (by rw [Int.toNat_natCast]; exact take_good l)

/-- What is read was written so. -/
def Back {α : Type} (p : Par α) (R : α → List UInt8 → Prop) : Prop :=
  ∀ x pos a pos', pos ≤ x.length → p x pos = .ok (a, pos') → ∃ bs, R a bs ∧ x.drop pos = bs ++ x.drop pos' ∧ pos' = pos + bs.length ∧ pos' ≤ x.length
theorem ret_back {α : Type} {a : α} {R : α → List UInt8 → Prop} (h : R a []) : Back (ret a) R := by
  intro x pos b pos' hp he
  unfold ret at he
  injection he with he
  injection he with h1 h2
  subst h1 h2
  exact ⟨[], h, rfl, rfl, hp⟩
theorem bind_back {α β : Type} {p : Par α} {q : α → Par β} {R : α → List UInt8 → Prop} {S : β → List UInt8 → Prop} (hp : Back p R) (hq : ∀ a bs, R a bs → Back (q a) fun b cs => S b (bs ++ cs)) : Back (bind p q) S := by
  intro x pos b pos' hpos he
  unfold bind at he
  cases h1 : p x pos with
  | error e => rw [h1] at he; cases he
  | ok r =>
    rw [h1] at he
    obtain ⟨a, m⟩ := r
    obtain ⟨bs, hR, e1, e2, e3⟩ := hp x pos a m hpos h1
    obtain ⟨cs, hS, f1, f2, f3⟩ := hq a bs hR x m b pos' e3 he
    exact ⟨bs ++ cs, hS, by rw [e1, f1, List.append_assoc], by rw [List.length_append]; omega, f3⟩
theorem piece {x : List UInt8} {pos k : Nat} (h : ¬ x.length < pos + k) : x.drop pos = (x.drop pos).take k ++ x.drop (pos + k) ∧ ((x.drop pos).take k).length = k := by
  constructor
  · rw [← List.drop_drop, List.take_append_drop]
  · rw [List.length_take, List.length_drop]; omega
theorem num_back (k : Nat) (lo hi : Int) : Back (numP k lo hi) fun n bs => lo ≤ n ∧ n ≤ hi ∧ bs = be n.toNat k := by
  intro x pos a pos' hpos he
  unfold numP at he
  split at he
  · cases he
  · rename_i hl
    obtain ⟨e1, e2⟩ := piece hl
    split at he
    · rename_i hr
      injection he with he
      injection he with h1 h2
      subst h1 h2
      refine ⟨(x.drop pos).take k, ⟨hr.1, hr.2, ?_⟩, e1, by rw [e2], by omega⟩
      have h := be_num ((x.drop pos).take k)
      rw [e2] at h
      rw [Int.toNat_natCast]
      exact h.symm
    · cases he
theorem off_back : Back offP fun n bs => -1099511627776 ≤ n ∧ n ≤ 1099511627776 ∧ bs = signedL n 6 := by
  intro x pos a pos' hpos he
  unfold offP at he
  split at he
  · cases he
  · rename_i hl
    obtain ⟨e1, e2⟩ := piece hl
    split at he
    · rename_i hr
      injection he with he
      injection he with h1 h2
      subst h1 h2
      refine ⟨(x.drop pos).take 6, ⟨hr.1, hr.2, ?_⟩, e1, by rw [e2], by omega⟩
      have h := (back_signed (l := (x.drop pos).take 6) (by omega) (by omega)).2
      rw [e2] at h
      exact h.symm
    · cases he
theorem take_back (k : Nat) : Back (takeP k) fun l bs => l = bs ∧ bs.length = k := by
  intro x pos a pos' hpos he
  unfold takeP at he
  split at he
  · cases he
  · rename_i hl
    obtain ⟨e1, e2⟩ := piece hl
    injection he with he
    injection he with h1 h2
    subst h1 h2
    exact ⟨_, ⟨rfl, e2⟩, e1, by rw [e2], by omega⟩
theorem rep_back : ∀ k : Nat, Back (repP k) fun l bs => l.length = k ∧ (∀ a ∈ l, 0 ≤ a ∧ a ≤ 201) ∧ bs = agesB l
  | 0 => ret_back ⟨rfl, by simp, rfl⟩
  | k + 1 => by
    refine bind_back (num_back 1 0 201) ?_
    rintro a bs ⟨h1, h2, rfl⟩
    refine bind_back (rep_back k) ?_
    rintro l cs ⟨g1, g2, rfl⟩
    refine ret_back ⟨by rw [List.length_cons, g1], ?_, ?_⟩
    · intro b hb
      rcases List.mem_cons.1 hb with rfl | hb
      · exact ⟨h1, h2⟩
      · exact g2 b hb
    · rw [List.append_nil]; rfl
theorem ages_back : Back agesP fun l bs => agesOk l = true ∧ bs = be l.length 1 ++ agesB l := by
  refine bind_back (num_back 1 1 6) ?_
  rintro n bs ⟨h1, h2, rfl⟩
  intro x pos l pos' hpos he
  obtain ⟨cs, ⟨g1, g2, g3⟩, g4⟩ := rep_back n.toNat x pos l pos' hpos he
  refine ⟨cs, ⟨agesOk_iff.2 ⟨by omega, g2⟩, ?_⟩, g4⟩
  rw [g1, g3]
theorem body_back : Back bodyP fun l bs => l.length ≤ 24 ∧ bs = be l.length 1 ++ l := by
  refine bind_back (num_back 1 0 24) ?_
  rintro n bs ⟨h1, h2, rfl⟩
  intro x pos l pos' hpos he
  obtain ⟨cs, ⟨g1, g2⟩, g4⟩ := take_back n.toNat x pos l pos' hpos he
  subst g1
  exact ⟨l, ⟨by omega, by rw [g2]⟩, g4⟩

/-! ### frames -/
structure Frame where
  kind : Int
  part : Int
  node : Int
  wait : Int
  mask : Int
  link : Int
  flag : Bool
  cycle : Int
  offset : Int
  ages : List Int
  frm : Int
  to : Int
  seq : Int
  body : List UInt8
/-- frames are the same where all that they have is. -/
theorem frame_eq {a b : Frame} : a = b ↔ a.kind = b.kind ∧ a.part = b.part ∧ a.node = b.node ∧ a.wait = b.wait ∧ a.mask = b.mask ∧ a.link = b.link ∧ a.flag = b.flag ∧ a.cycle = b.cycle ∧ a.offset = b.offset ∧ a.ages = b.ages ∧ a.frm = b.frm ∧ a.to = b.to ∧ a.seq = b.seq ∧ a.body = b.body := by
  cases a
  cases b
  simp
instance frameDec : DecidableEq Frame := fun _ _ => decidable_of_iff _ frame_eq.symm
/-- a frame of which nothing is told but whose it is. -/
def bare (k p n : Int) : Frame := ⟨k, p, n, 0, 0, 0, false, 0, 0, [], 0, 0, 0, []⟩
/-- a frame with what its kind has alone. -/
def spare (f : Frame) : Frame :=
  if f.kind = 1 then { bare f.kind f.part f.node with wait := f.wait }
  else if f.kind = 2 then { bare f.kind f.part f.node with cycle := f.cycle, mask := f.mask, ages := f.ages }
  else if f.kind = 3 then { bare f.kind f.part f.node with link := f.link, flag := f.flag, cycle := f.cycle, offset := f.offset }
  else if f.kind = 4 then { bare f.kind f.part f.node with link := f.link, ages := f.ages }
  else if f.kind = 5 then { bare f.kind f.part f.node with link := f.link, frm := f.frm, to := f.to, seq := f.seq, body := f.body }
  else bare f.kind f.part f.node
/-- numbers within what every frame has. -/
def rangeB (f : Frame) : Bool := decide ((0 ≤ f.wait ∧ f.wait ≤ 60000) ∧ (0 ≤ f.mask ∧ f.mask ≤ 4095) ∧ (0 ≤ f.link ∧ f.link ≤ 9) ∧ (0 ≤ f.cycle ∧ f.cycle ≤ 1099511627776) ∧ (-1099511627776 ≤ f.offset ∧ f.offset ≤ 1099511627776) ∧ (0 ≤ f.frm ∧ f.frm ≤ 5) ∧ (0 ≤ f.to ∧ f.to ≤ 5) ∧ f.body.length ≤ 24)
def headB (f : Frame) : Bool := decide ((1 ≤ f.kind ∧ f.kind ≤ 5) ∧ (0 ≤ f.part ∧ f.part ≤ 5) ∧ (0 ≤ f.node ∧ f.node ≤ 11))
/-- is a frame valid? -/
def mayB (f : Frame) : Bool := headB f && decide (f = spare f) && (!decide (f.kind = 2 ∨ f.kind = 4) || agesOk f.ages) && (!decide (f.kind = 5) || decide (1 ≤ f.seq ∧ f.seq ≤ 2147483648)) && rangeB f
theorem may_iff {f : Frame} : mayB f = true ↔ ((1 ≤ f.kind ∧ f.kind ≤ 5) ∧ (0 ≤ f.part ∧ f.part ≤ 5) ∧ (0 ≤ f.node ∧ f.node ≤ 11)) ∧ f = spare f ∧ ((f.kind = 2 ∨ f.kind = 4) → agesOk f.ages = true) ∧ (f.kind = 5 → 1 ≤ f.seq ∧ f.seq ≤ 2147483648) ∧ ((0 ≤ f.wait ∧ f.wait ≤ 60000) ∧ (0 ≤ f.mask ∧ f.mask ≤ 4095) ∧ (0 ≤ f.link ∧ f.link ≤ 9) ∧ (0 ≤ f.cycle ∧ f.cycle ≤ 1099511627776) ∧ (-1099511627776 ≤ f.offset ∧ f.offset ≤ 1099511627776) ∧ (0 ≤ f.frm ∧ f.frm ≤ 5) ∧ (0 ≤ f.to ∧ f.to ≤ 5) ∧ f.body.length ≤ 24) := by
  unfold mayB headB rangeB
  simp only [Bool.and_eq_true, Bool.or_eq_true, Bool.not_eq_true', decide_eq_true_eq, decide_eq_false_iff_not]
  constructor
  · rintro ⟨⟨⟨⟨h1, h2⟩, h3⟩, h4⟩, h5⟩
    exact ⟨h1, h2, fun h => h3.resolve_left fun n => n h, fun h => h4.resolve_left fun n => n h, h5⟩
  · rintro ⟨h1, h2, h3, h4, h5⟩
    refine ⟨⟨⟨⟨h1, h2⟩, ?_⟩, ?_⟩, h5⟩
    · by_cases h : f.kind = 2 ∨ f.kind = 4
      · exact .inr (h3 h)
      · exact .inl h
    · by_cases h : f.kind = 5
      · exact .inr (h4 h)
      · exact .inl h

/-- the bytes behind the first three. -/
def tailL (f : Frame) : List UInt8 :=
  if f.kind = 1 then be f.wait.toNat 2
  else if f.kind = 2 then be f.cycle.toNat 6 ++ (be f.mask.toNat 2 ++ (be f.ages.length 1 ++ agesB f.ages))
  else if f.kind = 3 then be f.link.toNat 1 ++ (be f.flag.toNat 1 ++ (be f.cycle.toNat 6 ++ signedL f.offset 6))
  else if f.kind = 4 then be f.link.toNat 1 ++ (be f.ages.length 1 ++ agesB f.ages)
  else be f.link.toNat 1 ++ (be f.frm.toNat 1 ++ (be f.to.toNat 1 ++ (be f.seq.toNat 4 ++ (be f.body.length 1 ++ f.body))))
def enc (f : Frame) : List UInt8 := be f.kind.toNat 1 ++ (be f.part.toNat 1 ++ (be f.node.toNat 1 ++ tailL f))
def tailP (k p n : Int) : Par Frame :=
  if k = 1 then bind (numP 2 0 60000) fun w => ret { bare k p n with wait := w }
  else if k = 2 then bind (numP 6 0 1099511627776) fun c => bind (numP 2 0 4095) fun m => bind agesP fun l => ret { bare k p n with cycle := c, mask := m, ages := l }
  else if k = 3 then bind (numP 1 0 9) fun l => bind (numP 1 0 1) fun v => bind (numP 6 0 1099511627776) fun c => bind offP fun o => ret { bare k p n with link := l, flag := decide (v = 1), cycle := c, offset := o }
  else if k = 4 then bind (numP 1 0 9) fun l => bind agesP fun g => ret { bare k p n with link := l, ages := g }
  else bind (numP 1 0 9) fun l => bind (numP 1 0 5) fun a => bind (numP 1 0 5) fun b => bind (numP 4 1 2147483648) fun s => bind bodyP fun y => ret { bare k p n with link := l, frm := a, to := b, seq := s, body := y }
def frameP : Par Frame := bind (numP 1 1 5) fun k => bind (numP 1 0 5) fun p => bind (numP 1 0 11) fun n => tailP k p n

theorem tail_good {f : Frame} (h : mayB f = true) : Good (tailP f.kind f.part f.node) f (tailL f) := by
  obtain ⟨⟨hk, _, _⟩, hs, ha, hq, r1, r2, r3, r4, r5, r6, r7, r8⟩ := may_iff.1 h
  have hk' : f.kind = 1 ∨ f.kind = 2 ∨ f.kind = 3 ∨ f.kind = 4 ∨ f.kind = 5 := by omega
  have n2 : ∀ {n : Int}, 0 ≤ n ∧ n ≤ 9 → Good (numP 1 0 9) n (be n.toNat 1) := fun h => num_good (by omega) h.1 h.2 (by decide)
  have n5 : ∀ {n : Int}, 0 ≤ n ∧ n ≤ 5 → Good (numP 1 0 5) n (be n.toNat 1) := fun h => num_good (by omega) h.1 h.2 (by decide)
  have nc : Good (numP 6 0 1099511627776) f.cycle (be f.cycle.toNat 6) := num_good (by omega) r4.1 r4.2 (by decide)
  rcases hk' with e | e | e | e | e
  · have e1 : tailP f.kind f.part f.node = bind (numP 2 0 60000) fun w => ret { bare f.kind f.part f.node with wait := w } := by unfold tailP; rw [if_pos e]
    have e2 : tailL f = be f.wait.toNat 2 := by unfold tailL; rw [if_pos e]
    have e3 : f = { bare f.kind f.part f.node with wait := f.wait } := by rw [spare, if_pos e] at hs; exact hs
    rw [e1, e2]
    have g := bind_ret_good (f := fun w => { bare f.kind f.part f.node with wait := w }) (num_good (k := 2) (lo := 0) (hi := 60000) (by omega) r1.1 r1.2 (by decide))
    rw [← e3] at g
    exact g
  · have e0 : ¬ f.kind = 1 := by omega
    have e1 : tailP f.kind f.part f.node = bind (numP 6 0 1099511627776) fun c => bind (numP 2 0 4095) fun m => bind agesP fun l => ret { bare f.kind f.part f.node with cycle := c, mask := m, ages := l } := by unfold tailP; rw [if_neg e0, if_pos e]
    have e2 : tailL f = be f.cycle.toNat 6 ++ (be f.mask.toNat 2 ++ (be f.ages.length 1 ++ agesB f.ages)) := by unfold tailL; rw [if_neg e0, if_pos e]
    have e3 : f = { bare f.kind f.part f.node with cycle := f.cycle, mask := f.mask, ages := f.ages } := by rw [spare, if_neg e0, if_pos e] at hs; exact hs
    rw [e1, e2]
    have g := bind_ret_good (f := fun l => { bare f.kind f.part f.node with cycle := f.cycle, mask := f.mask, ages := l }) (ages_good (ha (.inl e)))
    rw [← e3] at g
    have g2 := bind_good (num_good (k := 2) (lo := 0) (hi := 4095) (n := f.mask) (by omega) r2.1 r2.2 (by decide)) g (q := fun m => bind agesP fun l => ret { bare f.kind f.part f.node with cycle := f.cycle, mask := m, ages := l })
    exact bind_good nc g2 (q := fun c => bind (numP 2 0 4095) fun m => bind agesP fun l => ret { bare f.kind f.part f.node with cycle := c, mask := m, ages := l })
  · have e0 : ¬ f.kind = 1 := by omega
    have e0' : ¬ f.kind = 2 := by omega
    have e1 : tailP f.kind f.part f.node = bind (numP 1 0 9) fun l => bind (numP 1 0 1) fun v => bind (numP 6 0 1099511627776) fun c => bind offP fun o => ret { bare f.kind f.part f.node with link := l, flag := decide (v = 1), cycle := c, offset := o } := by unfold tailP; rw [if_neg e0, if_neg e0', if_pos e]
    have e2 : tailL f = be f.link.toNat 1 ++ (be f.flag.toNat 1 ++ (be f.cycle.toNat 6 ++ signedL f.offset 6)) := by unfold tailL; rw [if_neg e0, if_neg e0', if_pos e]
    have e3 : f = { bare f.kind f.part f.node with link := f.link, flag := f.flag, cycle := f.cycle, offset := f.offset } := by rw [spare, if_neg e0, if_neg e0', if_pos e] at hs; exact hs
    have ev : decide ((f.flag.toNat : Int) = 1) = f.flag := by cases f.flag <;> rfl
    rw [e1, e2]
    have g := bind_ret_good (f := fun o => { bare f.kind f.part f.node with link := f.link, flag := decide ((f.flag.toNat : Int) = 1), cycle := f.cycle, offset := o }) (off_good r5.1 r5.2)
    rw [ev, ← e3] at g
    have g2 := bind_good nc (b := f) (q := fun c => bind offP fun o => ret { bare f.kind f.part f.node with link := f.link, flag := decide ((f.flag.toNat : Int) = 1), cycle := c, offset := o }) (by rw [ev]; exact g)
    have nf : Good (numP 1 0 1) (f.flag.toNat : Int) (be f.flag.toNat 1) := by
      have := num_good (k := 1) (lo := 0) (hi := 1) (n := (f.flag.toNat : Int)) (by omega) (by omega) (by cases f.flag <;> decide) (by decide)
      rwa [Int.toNat_natCast] at this
    have g3 := bind_good nf g2 (q := fun v => bind (numP 6 0 1099511627776) fun c => bind offP fun o => ret { bare f.kind f.part f.node with link := f.link, flag := decide (v = 1), cycle := c, offset := o })
    exact bind_good (n2 r3) g3 (q := fun l => bind (numP 1 0 1) fun v => bind (numP 6 0 1099511627776) fun c => bind offP fun o => ret { bare f.kind f.part f.node with link := l, flag := decide (v = 1), cycle := c, offset := o })
  · have e0 : ¬ f.kind = 1 := by omega
    have e0' : ¬ f.kind = 2 := by omega
    have e0'' : ¬ f.kind = 3 := by omega
    have e1 : tailP f.kind f.part f.node = bind (numP 1 0 9) fun l => bind agesP fun g => ret { bare f.kind f.part f.node with link := l, ages := g } := by unfold tailP; rw [if_neg e0, if_neg e0', if_neg e0'', if_pos e]
    have e2 : tailL f = be f.link.toNat 1 ++ (be f.ages.length 1 ++ agesB f.ages) := by unfold tailL; rw [if_neg e0, if_neg e0', if_neg e0'', if_pos e]
    have e3 : f = { bare f.kind f.part f.node with link := f.link, ages := f.ages } := by rw [spare, if_neg e0, if_neg e0', if_neg e0'', if_pos e] at hs; exact hs
    rw [e1, e2]
    have g := bind_ret_good (f := fun l => { bare f.kind f.part f.node with link := f.link, ages := l }) (ages_good (ha (.inr e)))
    rw [← e3] at g
    exact bind_good (n2 r3) g (q := fun l => bind agesP fun g => ret { bare f.kind f.part f.node with link := l, ages := g })
  · have e0 : ¬ f.kind = 1 := by omega
    have e0' : ¬ f.kind = 2 := by omega
    have e0'' : ¬ f.kind = 3 := by omega
    have e4 : ¬ f.kind = 4 := by omega
    have hq' := hq e
    have e1 : tailP f.kind f.part f.node = bind (numP 1 0 9) fun l => bind (numP 1 0 5) fun a => bind (numP 1 0 5) fun b => bind (numP 4 1 2147483648) fun s => bind bodyP fun y => ret { bare f.kind f.part f.node with link := l, frm := a, to := b, seq := s, body := y } := by unfold tailP; rw [if_neg e0, if_neg e0', if_neg e0'', if_neg e4]
    have e2 : tailL f = be f.link.toNat 1 ++ (be f.frm.toNat 1 ++ (be f.to.toNat 1 ++ (be f.seq.toNat 4 ++ (be f.body.length 1 ++ f.body)))) := by unfold tailL; rw [if_neg e0, if_neg e0', if_neg e0'', if_neg e4]
    have e3 : f = { bare f.kind f.part f.node with link := f.link, frm := f.frm, to := f.to, seq := f.seq, body := f.body } := by rw [spare, if_neg e0, if_neg e0', if_neg e0'', if_neg e4, if_pos e] at hs; exact hs
    rw [e1, e2]
    have g := bind_ret_good (f := fun y => { bare f.kind f.part f.node with link := f.link, frm := f.frm, to := f.to, seq := f.seq, body := y }) (body_good r8)
    rw [← e3] at g
    have g2 := bind_good (num_good (k := 4) (lo := 1) (hi := 2147483648) (n := f.seq) (by omega) hq'.1 hq'.2 (by decide)) g (q := fun s => bind bodyP fun y => ret { bare f.kind f.part f.node with link := f.link, frm := f.frm, to := f.to, seq := s, body := y })
    have g3 := bind_good (n5 r7) g2 (q := fun b => bind (numP 4 1 2147483648) fun s => bind bodyP fun y => ret { bare f.kind f.part f.node with link := f.link, frm := f.frm, to := b, seq := s, body := y })
    have g4 := bind_good (n5 r6) g3 (q := fun a => bind (numP 1 0 5) fun b => bind (numP 4 1 2147483648) fun s => bind bodyP fun y => ret { bare f.kind f.part f.node with link := f.link, frm := a, to := b, seq := s, body := y })
    exact bind_good (n2 r3) g4 (q := fun l => bind (numP 1 0 5) fun a => bind (numP 1 0 5) fun b => bind (numP 4 1 2147483648) fun s => bind bodyP fun y => ret { bare f.kind f.part f.node with link := l, frm := a, to := b, seq := s, body := y })
theorem frame_good {f : Frame} (h : mayB f = true) : Good frameP f (enc f) := by
  obtain ⟨⟨hk, hp, hn⟩, _⟩ := may_iff.1 h
  have g := bind_good (num_good (k := 1) (lo := 0) (hi := 11) (n := f.node) (by omega) hn.1 hn.2 (by decide)) (tail_good h) (q := fun n => tailP f.kind f.part n)
  have g2 := bind_good (num_good (k := 1) (lo := 0) (hi := 5) (n := f.part) (by omega) hp.1 hp.2 (by decide)) g (q := fun p => bind (numP 1 0 11) fun n => tailP f.kind p n)
  exact bind_good (num_good (k := 1) (lo := 1) (hi := 5) (n := f.kind) (by omega) hk.1 hk.2 (by decide)) g2 (q := fun k => bind (numP 1 0 5) fun p => bind (numP 1 0 11) fun n => tailP k p n)

/-! ### what is read was written so -/
theorem flag_back {v : Int} (h0 : 0 ≤ v) (h1 : v ≤ 1) : (decide (v = 1)).toNat = v.toNat := by
  have : v = 0 ∨ v = 1 := by omega
  rcases this with rfl | rfl <;> rfl
theorem frame_back : Back frameP fun f bs => mayB f = true ∧ bs = enc f := by
  refine bind_back (num_back 1 1 5) ?_
  rintro k bk ⟨k1, k2, rfl⟩
  refine bind_back (num_back 1 0 5) ?_
  rintro p bp ⟨p1, p2, rfl⟩
  refine bind_back (num_back 1 0 11) ?_
  rintro n bn ⟨n1, n2, rfl⟩
  have fin : ∀ (f : Frame) (bs : List UInt8), f.kind = k → f.part = p → f.node = n → (f = spare f ∧ ((f.kind = 2 ∨ f.kind = 4) → agesOk f.ages = true) ∧ (f.kind = 5 → 1 ≤ f.seq ∧ f.seq ≤ 2147483648) ∧ ((0 ≤ f.wait ∧ f.wait ≤ 60000) ∧ (0 ≤ f.mask ∧ f.mask ≤ 4095) ∧ (0 ≤ f.link ∧ f.link ≤ 9) ∧ (0 ≤ f.cycle ∧ f.cycle ≤ 1099511627776) ∧ (-1099511627776 ≤ f.offset ∧ f.offset ≤ 1099511627776) ∧ (0 ≤ f.frm ∧ f.frm ≤ 5) ∧ (0 ≤ f.to ∧ f.to ≤ 5) ∧ f.body.length ≤ 24)) → bs = tailL f → mayB f = true ∧ be k.toNat 1 ++ (be p.toNat 1 ++ (be n.toNat 1 ++ bs)) = enc f := by
    intro f bs hk hp hn hv hb
    subst hk hp hn hb
    exact ⟨may_iff.2 ⟨⟨⟨k1, k2⟩, ⟨p1, p2⟩, ⟨n1, n2⟩⟩, hv⟩, rfl⟩
  unfold tailP
  by_cases e1 : k = 1
  · subst e1
    rw [if_pos rfl]
    refine bind_back (num_back 2 0 60000) ?_
    rintro w bw ⟨w1, w2, rfl⟩
    exact ret_back (fin _ _ rfl rfl rfl ⟨rfl, by simp [bare], by simp [bare], by simp [bare]; omega⟩ (by simp [tailL, bare]))
  rw [if_neg e1]
  by_cases e2 : k = 2
  · subst e2
    rw [if_pos rfl]
    refine bind_back (num_back 6 0 1099511627776) ?_
    rintro c bc ⟨c1, c2, rfl⟩
    refine bind_back (num_back 2 0 4095) ?_
    rintro m bm ⟨m1, m2, rfl⟩
    refine bind_back ages_back ?_
    rintro l bl ⟨l1, rfl⟩
    exact ret_back (fin _ _ rfl rfl rfl ⟨rfl, fun _ => l1, by simp [bare], by simp [bare]; omega⟩ (by simp [tailL, bare]))
  rw [if_neg e2]
  by_cases e3 : k = 3
  · subst e3
    rw [if_pos rfl]
    refine bind_back (num_back 1 0 9) ?_
    rintro l bl ⟨l1, l2, rfl⟩
    refine bind_back (num_back 1 0 1) ?_
    rintro v bv ⟨v1, v2, rfl⟩
    refine bind_back (num_back 6 0 1099511627776) ?_
    rintro c bc ⟨c1, c2, rfl⟩
    refine bind_back off_back ?_
    rintro o bo ⟨o1, o2, rfl⟩
    exact ret_back (fin _ _ rfl rfl rfl ⟨rfl, by simp [bare], by simp [bare], by simp [bare]; omega⟩ (by simp [tailL, bare, flag_back v1 v2]))
  rw [if_neg e3]
  by_cases e4 : k = 4
  · subst e4
    rw [if_pos rfl]
    refine bind_back (num_back 1 0 9) ?_
    rintro l bl ⟨l1, l2, rfl⟩
    refine bind_back ages_back ?_
    rintro g bg ⟨g1, rfl⟩
    exact ret_back (fin _ _ rfl rfl rfl ⟨rfl, fun _ => g1, by simp [bare], by simp [bare]; omega⟩ (by simp [tailL, bare]))
  rw [if_neg e4]
  obtain rfl : k = 5 := by omega
  refine bind_back (num_back 1 0 9) ?_
  rintro l bl ⟨l1, l2, rfl⟩
  refine bind_back (num_back 1 0 5) ?_
  rintro a ba ⟨a1, a2, rfl⟩
  refine bind_back (num_back 1 0 5) ?_
  rintro b bb ⟨b1, b2, rfl⟩
  refine bind_back (num_back 4 1 2147483648) ?_
  rintro s bs ⟨s1, s2, rfl⟩
  refine bind_back body_back ?_
  rintro y bY ⟨y1, rfl⟩
  exact ret_back (fin _ _ rfl rfl rfl ⟨rfl, by simp [bare], fun _ => ⟨s1, s2⟩, by simp [bare]; omega⟩ (by simp [tailL, bare]))

/-! ### a frame's bytes, whole -/
/-- of the bytes ahead of the sum (at least three): the frame; or an error's number, and where. -/
def readX (x : List UInt8) : Except (Int × Nat) Frame :=
  if 1 ≤ num (x.take 1) ∧ num (x.take 1) ≤ 5 then
    match frameP x 0 with
    | .error e => .error e
    | .ok r => if r.2 < x.length then .error (3, r.2) else .ok r.1
  else .error (5, 0)
theorem enc_length (f : Frame) : 3 ≤ (enc f).length := by
  unfold enc
  simp only [List.length_append, be_length]
  omega
theorem enc_kind {f : Frame} (h : mayB f = true) (k : Nat) (post : List UInt8) (hk : 1 ≤ k) : 1 ≤ num (((enc f).take k ++ post).take 1) ∧ num (((enc f).take k ++ post).take 1) ≤ 5 := by
  obtain ⟨⟨h1, _, _⟩, _⟩ := may_iff.1 h
  obtain ⟨j, rfl⟩ : ∃ j, k = j + 1 := ⟨k - 1, by omega⟩
  have e : ((enc f).take (j + 1) ++ post).take 1 = be f.kind.toNat 1 := by simp [enc, be]
  rw [e, num_be, Nat.mod_eq_of_lt (by omega)]
  omega
/-- what was written is read. -/
theorem read_enc {f : Frame} (h : mayB f = true) : readX (enc f) = .ok f := by
  have hk := enc_kind h (enc f).length [] (by have := enc_length f; omega)
  rw [List.take_length, List.append_nil] at hk
  have g := (frame_good h).yes [] []
  simp only [List.nil_append, List.append_nil, List.length_nil, Nat.zero_add] at g
  unfold readX
  rw [if_pos hk, g]
  simp
/-- of less of it there is too little. -/
theorem read_cut {f : Frame} (h : mayB f = true) {k : Nat} (h1 : 1 ≤ k) (hk : k < (enc f).length) : ∃ at_, readX ((enc f).take k) = .error (2, at_) := by
  have hk' := enc_kind h k [] h1
  rw [List.append_nil] at hk'
  obtain ⟨at_, g⟩ := (frame_good h).cut [] k hk
  simp only [List.nil_append, List.length_nil] at g
  refine ⟨at_, ?_⟩
  unfold readX
  rw [if_pos hk', g]
/-- of more of it there is too much. -/
theorem read_more {f : Frame} (h : mayB f = true) {m : List UInt8} (hm : m ≠ []) : readX (enc f ++ m) = .error (3, (enc f).length) := by
  have hk := enc_kind h (enc f).length m (by have := enc_length f; omega)
  rw [List.take_length] at hk
  have g := (frame_good h).yes [] m
  simp only [List.nil_append, List.length_nil, Nat.zero_add] at g
  unfold readX
  rw [if_pos hk, g]
  have : 0 < m.length := List.length_pos_iff.2 hm
  simp [this]
/-- what is read was written so. -/
theorem read_back {x : List UInt8} {f : Frame} (h : readX x = .ok f) : mayB f = true ∧ enc f = x := by
  unfold readX at h
  split at h
  · cases h1 : frameP x 0 with
    | error e => rw [h1] at h; cases h
    | ok r =>
      rw [h1] at h
      obtain ⟨a, pos⟩ := r
      by_cases hp : pos < x.length
      · simp [hp] at h
      · simp [hp] at h
        subst h
        obtain ⟨bs, ⟨m1, m2⟩, e1, e2, e3⟩ := frame_back x 0 a pos (by omega) h1
        rw [List.drop_zero, List.drop_of_length_le (by omega), List.append_nil] at e1
        exact ⟨m1, by rw [← m2, e1]⟩
  · cases h
/-- unlike frames have unlike bytes. -/
theorem enc_inj {f g : Frame} (hf : mayB f = true) (hg : mayB g = true) : enc f = enc g ↔ f = g := by
  constructor
  · intro h
    have h1 := read_enc hf
    rw [h, read_enc hg] at h1
    injection h1 with h1
    exact h1.symm
  · intro h; rw [h]
theorem enc_le {f : Frame} (h : mayB f = true) : (enc f).length ≤ 100 := by
  obtain ⟨⟨hk, _, _⟩, _, ha, _, _, _, _, _, _, _, _, r8⟩ := may_iff.1 h
  have hal : ∀ l : List Int, (agesB l).length = l.length := by
    intro l
    induction l with
    | nil => rfl
    | cons a l ih =>
      have : agesB (a :: l) = be a.toNat 1 ++ agesB l := rfl
      rw [this, List.length_append, be_length, ih, List.length_cons]
      omega
  have hs : (signedL f.offset 6).length ≤ 6 := by
    by_cases hb : signedB f.offset 6 = true
    · rw [signedL_length hb]; decide
    · unfold signedL; rw [if_neg hb]; simp
  have hag : (f.kind = 2 ∨ f.kind = 4) → f.ages.length ≤ 6 := fun h => (agesOk_iff.1 (ha h)).1.2
  unfold enc tailL
  split
  · simp only [List.length_append, be_length]; omega
  · split
    · have := hag (by omega)
      simp only [List.length_append, be_length, hal]; omega
    · split
      · simp only [List.length_append, be_length]; omega
      · split
        · have := hag (by omega)
          simp only [List.length_append, be_length, hal]; omega
        · simp only [List.length_append, be_length]; omega
end Go.Proofs.YtfpgdimgffamoaaGreatDoor.Fr
