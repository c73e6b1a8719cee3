/- slices.Repeat of one number. -/
import Derived.Test.YtleflkgdbagmnaaDoorHpOne
namespace Go.Proofs.YtleflkgdbagmnaaDoor.Pl
open Go.RowKit Go.Proofs.YtleflkgdbagmnaaDoor.Sm Go.Proofs.YtleflkgdbagmnaaDoor.Dp
set_option maxHeartbeats 4000000
set_option maxRecDepth 100000
set_option linter.unusedVariables false
set_option linter.unusedSimpArgs false
def andU (a b : Int) : Int := IntKind.u64.wrap ((BitVec.ofInt 64 a &&& BitVec.ofInt 64 b).toNat : Int)
theorem andU_32 {n : Int} (h0 : 0 ≤ n) (h1 : n < 4294967296) : andU n 4294967295 = n := by
  obtain ⟨m, rfl⟩ := Int.eq_ofNat_of_zero_le h0
  unfold andU
  have e : ((BitVec.ofInt 64 (m : Int)) &&& (BitVec.ofInt 64 4294967295)).toNat = m := by
    rw [BitVec.toNat_and, BitVec.toNat_ofInt, BitVec.toNat_ofInt]
    have e1 : ((m : Int) % ((2 ^ 64 : Nat) : Int)).toNat = m := by omega
    have e2 : ((4294967295 : Int) % ((2 ^ 64 : Nat) : Int)).toNat = 2 ^ 32 - 1 := by decide
    rw [e1, e2, Nat.and_two_pow_sub_one_eq_mod]
    omega
  rw [e]
  show (m : Int) % 18446744073709551616 = m
  omega
theorem wrap_u64 {n : Int} (h0 : 0 ≤ n) (h1 : n < 4294967296) : IntKind.u64.wrap n = n := by
  show n % 18446744073709551616 = n
  omega
theorem bits_Mul64_pc (n : Int) (h0 : 0 ≤ n) (h1 : n < 1000000) : PC Tryd.prog [] 47 [D.v (.int .u64 1), D.v (.int .u64 n)] (· = D.t [D.v (.int .u64 0), D.v (.int .u64 n)]) := by
 refine PC.of (N := 51) Tryd.func47 rfl rfl (Nat.le_of_ble_eq_true rfl) ?_
 refine PW.sr [0, 1] 0 trivial ?_
 refine PW.sr [0, 1, 6] 0 trivial ?_
 refine PW.sr [0, 1, 6, 7] 0 trivial ?_
 refine PW.sg ?_
 refine PL.row 3 [0, 1, 6, 7, 8] 0 (s' := { tab := [⟨0, [], D.v (.int .u64 1)⟩, ⟨1, [], D.v (.int .u64 n)⟩, ⟨6, [], D.v (.int .u64 1)⟩, ⟨7, [], D.v (.int .u64 0)⟩, ⟨8, [], D.v (.int .u64 (andU n 4294967295))⟩], mem := [] }) (p := True) (by kernel_rfl) (by kernel_rfl) (by kernel_rfl) (by kernel_rfl) (by kernel_rfl) trivial ?_
 refine PL.eq (s' := { tab := [⟨0, [], D.v (.int .u64 1)⟩, ⟨1, [], D.v (.int .u64 n)⟩, ⟨6, [], D.v (.int .u64 1)⟩, ⟨7, [], D.v (.int .u64 0)⟩, ⟨8, [], D.v (.int .u64 n)⟩], mem := [] }) (by rw [andU_32 h0 (by omega)]) ?_
 refine PL.nl ?_
 refine PW.sg ?_
 refine PL.row 3 [0, 1, 6, 7, 8, 9] 0 (s' := { tab := [⟨0, [], D.v (.int .u64 1)⟩, ⟨1, [], D.v (.int .u64 n)⟩, ⟨6, [], D.v (.int .u64 1)⟩, ⟨7, [], D.v (.int .u64 0)⟩, ⟨8, [], D.v (.int .u64 n)⟩, ⟨9, [], D.v (.int .u64 (n.fdiv 4294967296))⟩], mem := [] }) (p := True) (by kernel_rfl) (by kernel_rfl) (by kernel_rfl) (by kernel_rfl) (by kernel_rfl) trivial ?_
 refine PL.eq (s' := { tab := [⟨0, [], D.v (.int .u64 1)⟩, ⟨1, [], D.v (.int .u64 n)⟩, ⟨6, [], D.v (.int .u64 1)⟩, ⟨7, [], D.v (.int .u64 0)⟩, ⟨8, [], D.v (.int .u64 n)⟩, ⟨9, [], D.v (.int .u64 0)⟩], mem := [] }) (by rw [show n.fdiv 4294967296 = 0 by rw [Int.fdiv_eq_ediv_of_nonneg _ (by omega)]; omega]) ?_
 refine PL.nl ?_
 refine PW.sg ?_
 refine PL.row 4 [0, 1, 6, 7, 8, 9, 10] 0 (s' := { tab := [⟨0, [], D.v (.int .u64 1)⟩, ⟨1, [], D.v (.int .u64 n)⟩, ⟨6, [], D.v (.int .u64 1)⟩, ⟨7, [], D.v (.int .u64 0)⟩, ⟨8, [], D.v (.int .u64 n)⟩, ⟨9, [], D.v (.int .u64 0)⟩, ⟨10, [], D.v (.int .u64 (IntKind.u64.wrap (1 * n)))⟩], mem := [] }) (p := True) (by kernel_rfl) (by kernel_rfl) (by kernel_rfl) (by kernel_rfl) (by kernel_rfl) trivial ?_
 refine PL.eq (s' := { tab := [⟨0, [], D.v (.int .u64 1)⟩, ⟨1, [], D.v (.int .u64 n)⟩, ⟨6, [], D.v (.int .u64 1)⟩, ⟨7, [], D.v (.int .u64 0)⟩, ⟨8, [], D.v (.int .u64 n)⟩, ⟨9, [], D.v (.int .u64 0)⟩, ⟨10, [], D.v (.int .u64 n)⟩], mem := [] }) (by rw [Int.one_mul, wrap_u64 h0 (by omega)]) ?_
 refine PL.nl ?_
 refine PW.sg ?_
 refine PL.row 7 [0, 1, 6, 7, 9, 11] 0 (s' := { tab := [⟨0, [], D.v (.int .u64 1)⟩, ⟨1, [], D.v (.int .u64 n)⟩, ⟨6, [], D.v (.int .u64 1)⟩, ⟨7, [], D.v (.int .u64 0)⟩, ⟨9, [], D.v (.int .u64 0)⟩, ⟨11, [], D.v (.int .u64 (IntKind.u64.wrap ((IntKind.u64.wrap (0 * n)) + (n.fdiv 4294967296))))⟩], mem := [] }) (p := True) (by kernel_rfl) (by kernel_rfl) (by kernel_rfl) (by kernel_rfl) (by kernel_rfl) trivial ?_
 refine PL.eq (s' := { tab := [⟨0, [], D.v (.int .u64 1)⟩, ⟨1, [], D.v (.int .u64 n)⟩, ⟨6, [], D.v (.int .u64 1)⟩, ⟨7, [], D.v (.int .u64 0)⟩, ⟨9, [], D.v (.int .u64 0)⟩, ⟨11, [], D.v (.int .u64 0)⟩], mem := [] }) (by rw [Int.zero_mul, show n.fdiv 4294967296 = 0 by rw [Int.fdiv_eq_ediv_of_nonneg _ (by omega)]; omega]; rfl) ?_
 refine PL.nl ?_
 refine PW.sr [0, 1, 6, 7, 9, 11, 12] 0 trivial ?_
 refine PW.sr [0, 1, 6, 7, 9, 12, 13] 0 trivial ?_
 refine PW.sr [0, 1, 7, 9, 12, 13] 0 trivial ?_
 refine PW.sr [0, 1, 4] 0 trivial ?_
 refine PW.sg ?_
 refine PL.row 4 [4, 5] 0 (s' := { tab := [⟨4, [], D.v (.int .u64 0)⟩, ⟨5, [], D.v (.int .u64 (IntKind.u64.wrap (1 * n)))⟩], mem := [] }) (p := True) (by kernel_rfl) (by kernel_rfl) (by kernel_rfl) (by kernel_rfl) (by kernel_rfl) trivial ?_
 refine PL.eq (s' := { tab := [⟨4, [], D.v (.int .u64 0)⟩, ⟨5, [], D.v (.int .u64 n)⟩], mem := [] }) (by rw [Int.one_mul, wrap_u64 h0 (by omega)]) ?_
 refine PL.nl ?_
 refine PW.ret ?_
 refine retQ_ret (d := D.t [D.v (.int .u64 0), D.v (.int .u64 n)]) (ps := []) (by kernel_rfl) trivial ?_
 rfl
theorem bits_Mul_pc (n : Int) (h0 : 0 ≤ n) (h1 : n < 1000000) : PC Tryd.prog [] 39 [D.v (.int .u64 1), D.v (.int .u64 n)] (· = D.t [D.v (.int .u64 0), D.v (.int .u64 n)]) := by
 refine PC.of (N := 30) Tryd.func39 rfl rfl (Nat.le_of_ble_eq_true rfl) ?_
 refine PW.sr [0, 1] 0 trivial ?_
 refine PW.seq ?_
 refine PW.cd false (fun hz0 => by cases hz0) (fun hz0 => ?_)
 refine PW.skip ?_
 show PW _ _ _ _ _
 refine PW.sg ?_
 refine PL.rw 2 [23, 24] 0 trivial ?_
 refine PL.gc (A := []) (fun _ => bits_Mul64_pc n h0 h1) ?_
 refine PL.rw 5 [8, 9] 0 trivial ?_
 refine PL.nl ?_
 refine PW.sr [4, 5] 0 trivial ?_
 refine PW.ret ?_
 refine retQ_ret (d := D.t [D.v (.int .u64 0), D.v (.int .u64 n)]) (ps := []) (by kernel_rfl) trivial ?_
 rfl
theorem slices_Repeat_pi (c : Config) (h1 : 1 ≤ c.parts.length) (h2 : c.parts.length < 1000000) : PI Tryd.prog [] 30 [D.h 2 1, I (c.parts.length : Int)] [Obj.var 25 (Config.d c), Obj.var 25 (Config.d c), Obj.row 3 1 1 (fun k => ([[I (c.parts.length : Int)]][k]?).getD [])] (fun d obs => d = D.h 3 c.parts.length ∧ obs = [Obj.var 25 (Config.d c), Obj.var 25 (Config.d c), Obj.row 3 1 1 (fun k => ([[I (c.parts.length : Int)]][k]?).getD []), Obj.row 3 1 c.parts.length (fun j => [I ((List.replicate c.parts.length (c.parts.length : Int)).getD j default)])]) := by
 refine PI.of (N := 48) Tryd.func30 rfl rfl (Nat.le_of_ble_eq_true rfl) ?_
 refine PW.sr [0, 1] 3 trivial ?_
 refine PW.seq ?_
 refine PW.sr [0, 1, 10] 3 trivial ?_
 refine PW.cd (decide ((c.parts.length : Int) < (0 : Int))) (fun hz0 => ?_) (fun hz0 => ?_)
 ·try simp only [boolS, isB_true, isB_false] at hz0
  exfalso; omega
 ·try simp only [boolS, isB_true, isB_false] at hz0
  refine PW.skip ?_
  show PW _ _ _ _ _
  refine PW.sg ?_
  refine PL.rw 5 [0, 15, 17] 3 trivial ?_
  refine PL.gc (G := []) (f := 39) (ds0 := [D.v (.int .u64 1), D.v (.int .u64 (IntKind.u64.wrap (c.parts.length : Int)))]) (d := D.t [D.v (.int .u64 0), D.v (.int .u64 (c.parts.length : Int))]) (A := []) (fun _ => (wrap_u64 (n := (c.parts.length : Int)) (by omega) (by omega)).symm ▸ bits_Mul_pc (c.parts.length : Int) (by omega) (by omega)) ?_
  refine PL.rw 5 [0, 5, 6] 3 trivial ?_
  refine PL.nl ?_
  refine PW.seq ?_
  refine PW.sr [0, 6, 26] 3 trivial ?_
  refine PW.cd (false || (decide ((c.parts.length : Int) > (9223372036854775807 : Int)))) (fun hz1 => ?_) (fun hz1 => ?_)
  ·try simp only [boolS, isB_true, isB_false] at hz1
   exfalso; simp at hz1; omega
  ·try simp only [boolS, isB_true, isB_false] at hz1
   refine PW.skip ?_
   show PW _ _ _ _ _
   refine PW.sg ?_
   refine PL.row 2 [0, 29] 3 (s' := { tab := [⟨0, [], D.h 2 1⟩, ⟨29, [], I (IntKind.i64.wrap (c.parts.length : Int))⟩], mem := [Obj.var 25 (Config.d c), Obj.var 25 (Config.d c), Obj.row 3 1 1 (fun k => ([[I (c.parts.length : Int)]][k]?).getD [])], fx := 3 }) (p := True) (by kernel_rfl) (by kernel_rfl) (by kernel_rfl) (by kernel_rfl) (by kernel_rfl) trivial ?_
   refine PL.eq (s' := { tab := [⟨0, [], D.h 2 1⟩, ⟨29, [], I (c.parts.length : Int)⟩], mem := [Obj.var 25 (Config.d c), Obj.var 25 (Config.d c), Obj.row 3 1 1 (fun k => ([[I (c.parts.length : Int)]][k]?).getD [])], fx := 3 }) (by rw [Ev.wrap_i64 (x := (c.parts.length : Int)) (by omega) (by omega)]) ?_
   refine PL.rw 2 [0, 7] 4 (p := ((c.parts.length : Int) = (c.parts.length : Int) ∧ 0 ≤ (c.parts.length : Int) ∧ ((8 : Nat) : Int) * (c.parts.length : Int) ≤ 281474976710656 ∧ (c.parts.length : Int) ≤ 9223372036854775807)) (by omega) ?_
   refine PL.nl ?_
   refine PW.sr [7, 8] 4 (p := (0 + c.parts.length ≤ c.parts.length ∧ 1 ≤ 1)) (by omega) ?_
   refine PW.seq ?_
   refine PW.block ?_
   refine PW.loopR (α := Nat) (fun m => { tab := [⟨7, [], D.h 3 c.parts.length⟩, ⟨8, [], I (m : Int)⟩], mem := [Obj.var 25 (Config.d c), Obj.var 25 (Config.d c), Obj.row 3 1 1 (fun k => ([[I (c.parts.length : Int)]][k]?).getD []), Obj.row 3 1 c.parts.length (fun j => if j < m then [I (c.parts.length : Int)] else [I 0])], fx := 3 }) (fun m => 1 ≤ m ∧ m ≤ c.parts.length) (fun m => c.parts.length - m) [7, 8] 4 (1) (s1 := { tab := [⟨7, [], D.h 3 c.parts.length⟩, ⟨8, [], I ((min 1 c.parts.length : Nat) : Int)⟩], mem := [Obj.var 25 (Config.d c), Obj.var 25 (Config.d c), Obj.row 3 1 1 (fun k => ([[I (c.parts.length : Int)]][k]?).getD []), Obj.row 3 1 c.parts.length (fun j => if 0 ≤ j ∧ j < 0 + min 1 c.parts.length then (fun k => ([[I (c.parts.length : Int)]][k]?).getD []) (j - 0) else (fun _ => [I 0]) j)], fx := 3 }) (by kernel_rfl) (by kernel_rfl) ?_ ?_ ?_
   ·rw [show min 1 c.parts.length = 1 by omega]
    exact ⟨rfl, rfl, rfl, .same (.same (.same (.row rfl (fun j hj => by
      (try dsimp only)
      by_cases hj1 : j < 1
      · obtain rfl : j = 0 := by omega
        rfl
      · rw [if_neg (by omega), if_neg hj1]) .nil)))⟩
   ·omega
   rintro m hinv
   show PW _ _ _ _ _
   refine PW.seq ?_
   refine PW.sr [7, 8, 37] 4 trivial ?_
   refine PW.cd (decide ((m : Int) < (c.parts.length : Int))) (fun hz2 => ?_) (fun hz2 => ?_)
   ·try simp only [boolS, isB_true, isB_false] at hz2
    refine PW.skip ?_
    show PW _ _ _ _ _
    refine PW.block ?_
    refine PW.open [3] (by kernel_rfl) ?_
    refine PO.tk [0, 1, 2, 3, 4, 5, 6] 10 [7, 8, 38, 41, 44] 3 (p := (0 ≤ (m : Int) ∧ (m : Int) ≤ (c.parts.length : Int)) ∧ (0 ≤ (m : Int) ∧ (m : Int) ≤ (c.parts.length : Int))) (by omega) (fun _ _ h => h) ?_
    refine PO.one (n := 2) 7 (by kernel_rfl) ?_
    refine PO1.mm rfl [7, 8, 38, 45] 4 (p := (m + (c.parts.length - m) ≤ c.parts.length ∧ m ≤ c.parts.length)) (by omega) ?_
    refine PO.tk [8, 9] 2 [7, 8] 0 trivial (fun _ _ h => h) ?_
    refine PO.done (by kernel_rfl) ?_
    refine BackR.of (s1 := { tab := [⟨7, [], D.h 3 c.parts.length⟩, ⟨8, [], I (IntKind.i64.wrap ((m : Int) + ((min m (c.parts.length - m) : Nat) : Int)))⟩], mem := [Obj.var 25 (Config.d c), Obj.var 25 (Config.d c), Obj.row 3 1 1 (fun k => ([[I (c.parts.length : Int)]][k]?).getD []), Obj.row 3 1 c.parts.length (fun j => if m ≤ j ∧ j < m + min m (c.parts.length - m) then (fun j => if j < m then [I (c.parts.length : Int)] else [I 0]) (j - m) else (fun j => if j < m then [I (c.parts.length : Int)] else [I 0]) j)], fx := 3 }) (m + min m (c.parts.length - m)) (by kernel_rfl) (by kernel_rfl) ?_ ?_ ?_
    ·rw [show IntKind.i64.wrap ((m : Int) + ((min m (c.parts.length - m) : Nat) : Int)) = ((m + min m (c.parts.length - m) : Nat) : Int) by rw [Ev.wrap_i64 (by omega) (by omega)]; omega]
     exact ⟨rfl, rfl, rfl, .same (.same (.same (.row rfl (fun j hj => by
       (try dsimp only)
       (repeat' split) <;> first | rfl | (exfalso; omega)) .nil)))⟩
    ·omega
    ·omega
   ·try simp only [boolS, isB_true, isB_false] at hz2
    refine PW.exit ?_
    show PW _ _ _ _ _
    refine PW.sg ?_
    refine PL.rw 2 [4] 4 trivial ?_
    refine PL.rm 3 (t := 3) (z := 1) (n := c.parts.length) (fun j => if j < m then [I (c.parts.length : Int)] else [I 0]) (fun j => [I ((List.replicate c.parts.length (c.parts.length : Int)).getD j default)]) (fun j hj => by (try dsimp only); rw [if_pos (by omega), getD_rep _ _ _ _ hj]) ?_
    refine PL.nl ?_
    refine PW.ret ?_
    refine retI_r (d := D.h 3 c.parts.length) (ps := []) (mem := [Obj.var 25 (Config.d c), Obj.var 25 (Config.d c), Obj.row 3 1 1 (fun k => ([[I (c.parts.length : Int)]][k]?).getD []), Obj.row 3 1 c.parts.length (fun j => [I ((List.replicate c.parts.length (c.parts.length : Int)).getD j default)])]) trivial ?_
    exact ⟨rfl, rfl⟩
end Go.Proofs.YtleflkgdbagmnaaDoor.Pl
