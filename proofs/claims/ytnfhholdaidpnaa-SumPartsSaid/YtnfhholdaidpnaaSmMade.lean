/- What chapter 2's calls that make bytes (sum.Seal, and the copies beneath it) and the document's own answers to them return. -/
import Derived.Test.YtnfhholdaidpnaaSm
import Derived.Test.YtnfhholdaidpnaaSmMem
import Derived.WalkSpells
namespace Go.Proofs.Ytnfhholdaidpnaa.Sm
open Go.ChangeShapes Go.WideShapes Go.ChangeAt Go.RowKit
set_option maxHeartbeats 400000

theorem byte_info : (Try.prog.info? 5).map (fun i => (i.zero, i.size, i.bytes)) = some (some (.int .u8 0), 1, 1) := by kernel_rfl

theorem copyR_calls (a : Option Addr) (n c : Nat) (l : List UInt8) (w : World) (hr : Row8 w w.heap.size a n c l) (hn : n ≤ 1000000000) :
    Calls Try.prog 24 #[.slice a n c] w fun e w' => RetMade w 5 l e w' := by
  obtain ⟨i0, hi0, hz0, hz1, hz2⟩ := info_parts byte_info
  have HR := hid hr
  clear hr
  go_enter Try.func24, Try.ntmps24
  go_wp2_with (at_builtin; refine wpList_append_row _ rfl _ _ _ rfl w.heap.size 5 i0 _ Try.underlying22 hi0 hz0 hz1 hz2 rfl (.slice none 0 0) [] rfl (World.ownsRow_nil _ _ _ _) _ a n c l rfl HR.out (by simp; omega) (Nat.le_refl _) ?_; intro v1 w1 hown hgrow hlt)
  go_ret
  exact ⟨_, rfl, hown, (Below.refl _ _).grown hgrow (Nat.le_refl _) hlt⟩

theorem clone_calls (a : Option Addr) (n c : Nat) (l : List UInt8) (w : World) (hr : Row8 w w.heap.size a n c l) (hn : n ≤ 1000000000) :
    Calls Try.prog 23 #[.slice a n c] w fun e w' => RetMade w 5 l e w' := by
  obtain ⟨i0, hi0, hz0, hz1, hz2⟩ := info_parts byte_info
  cases a with
  | none =>
    have h1 := hr.none_ rfl
    have h2 : n = 0 := by have := hr.room; omega
    subst h1 h2
    have h3 : l = [] := List.eq_nil_of_length_eq_zero hr.len
    subst h3
    clear hr
    have hq := fun w => Lib.run_eql_slice_nil (P := Try.prog) w 22 5 none 0 0 0 0 Try.underlying22
    go_enter Try.func23, Try.ntmps23
    go_wp2
    go_ret
    exact ⟨_, rfl, World.ownsRow_nil _ _ _ _, Below.refl _ _⟩
  | some x =>
    have HR := hid hr
    clear hr
    have hq := fun w => Lib.run_eql_slice_nil (P := Try.prog) w 22 5 (some x) n c 0 0 Try.underlying22
    go_enter Try.func23, Try.ntmps23
    go_wp2_with (at_builtin; refine wpList_append_row _ rfl _ _ _ rfl w.heap.size 5 i0 _ Try.underlying22 hi0 hz0 hz1 hz2 rfl _ [] rfl (World.ownsRow_made w #[] 0 (Nat.le_refl _) (by decide) rfl) _ (some x) n c l rfl ((HR.out.below ((Below.refl _ _).alloc (Nat.le_refl _) _))) (by simp; omega) (by simp) ?_; intro v1 w1 hown hgrow hlt)
    go_ret
    exact ⟨_, rfl, hown, ((Below.refl _ _).alloc (Nat.le_refl _) _).grown hgrow (by simp) hlt⟩

/-- the four bytes of a sum, as Go makes them. -/
theorem bytes_of (s : BitVec 32) : cells8 (tail4 s) = [.int .u8 ((s.toNat : Int) / 16777216), .int .u8 ((s.toNat : Int) / 65536 % 256), .int .u8 ((s.toNat : Int) / 256 % 256), .int .u8 ((s.toNat : Int) % 256)] := by
  have h : s.toNat < 4294967296 := s.isLt
  simp [cells8, tail4, UInt8.toNat_ofNat']
  omega

theorem seal_calls (a : Option Addr) (n c : Nat) (l : List UInt8) (w : World) (hr : Row8 w w.heap.size a n c l) (hn : n ≤ 1000000) :
    Calls Try.prog 18 #[.slice a n c] w fun e w' => RetMade w 5 (sealB l) e w' := by
  obtain ⟨i0, hi0, hz0, hz1, hz2⟩ := info_parts byte_info
  have HR := hid hr
  clear hr
  go_enter Try.func18, Try.ntmps18
  go_wp2_with (first | (go_at_call 12; refine (of_calls a n c l _ _ HR.out).mono ?_; rintro e w' ⟨rfl, rfl⟩) | (at_make; refine wpList_make_own _ rfl _ _ _ rfl w.heap.size 5 i0 _ 1 Try.underlying22 hi0 hz0 hz1 _ _ _ (n + 4) rfl rfl (by omega) (by rw [hz2]; omega) (by unfold maxLen; omega) (Nat.le_refl _) ?_; intro w1 hown1 hgrow1; have hb1 : Below w.heap.size w w1 := (Below.refl _ _).grown hgrow1 (Nat.le_refl _) (fun k hk => by cases hk)) | (at_builtin; refine wpList_append_row _ rfl (.tmp 11) (.tmp 12) _ rfl w.heap.size 5 i0 _ Try.underlying22 hi0 hz0 hz1 hz2 rfl _ [] rfl hown1 _ a n c l rfl (HR.out.below hb1) (by simp; omega) hb1.size ?_; intro v2 w2 hown2 hgrow2 hlt2; have hb2 : Below w.heap.size w w2 := hb1.grown hgrow2 hb1.size hlt2) | (at_builtin; refine stop ?_))
  unfold Stop
  refine wpList_append_row _ rfl (.tmp 14) (.tmp 26) _ rfl w.heap.size 5 i0 _ Try.underlying22 hi0 hz0 hz1 hz2 rfl v2 ([] ++ l) rfl (hown2.alloc _) _ _ 4 4 (tail4 (of l)) rfl (Row8.lit w2 _ _ _ 4 rfl (by decide) (bytes_of (of l)).symm) (by simp; have := HR.out.len; omega) (by have := hb2.size; simp; omega) ?_
  intro v3 w3 hown3 hgrow3 hlt3
  go_wp2
  go_ret
  exact ⟨_, rfl, hown3, (hb2.alloc hb2.size _).grown hgrow3 (by have := hb2.size; simp; omega) hlt3⟩

theorem sealR_calls (a : Option Addr) (n c : Nat) (l : List UInt8) (w : World) (hr : Row8 w w.heap.size a n c l) (hn : n ≤ 1000000) :
    Calls Try.prog 19 #[.slice a n c] w fun e w' => RetMade w 5 (sealB l) e w' := by
  obtain ⟨i0, hi0, hz0, hz1, hz2⟩ := info_parts byte_info
  have HR := hid hr
  clear hr
  go_enter Try.func19, Try.ntmps19
  go_wp2_with (first | (go_at_call 10; refine (ofR_calls a n c l _ _ HR.out).mono ?_; rintro e w' ⟨rfl, rfl⟩) | (go_at_call 24; refine (copyR_calls a n c l _ HR.out (by omega)).mono ?_; rintro e w2 ⟨v2, rfl, hown2, hb2⟩) | (at_builtin; refine stop ?_))
  unfold Stop
  refine wpList_append_row _ rfl _ _ _ rfl w.heap.size 5 i0 _ Try.underlying22 hi0 hz0 hz1 hz2 rfl v2 l rfl (hown2.alloc _) _ _ 4 4 (tail4 (of l)) rfl (Row8.lit w2 _ _ _ 4 rfl (by decide) (bytes_of (of l)).symm) (by have := HR.out.len; omega) (by have := hb2.size; simp; omega) ?_
  intro v3 w3 hown3 hgrow3 hlt3
  go_wp2
  go_ret
  exact ⟨_, rfl, hown3, (hb2.alloc hb2.size _).grown hgrow3 (by have := hb2.size; simp; omega) hlt3⟩
end Go.Proofs.Ytnfhholdaidpnaa.Sm
