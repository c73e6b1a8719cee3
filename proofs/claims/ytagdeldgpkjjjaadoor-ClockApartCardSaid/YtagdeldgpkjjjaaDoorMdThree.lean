/- The document's own Made. -/
import Derived.Test.YtagdeldgpkjjjaaDoorMdTwo
import Derived.Test.YtagdeldgpkjjjaaDoorDpC
namespace Go.Proofs.YtagdeldgpkjjjaaDoor.Pl
open Go.RowKit Go.Proofs.YtagdeldgpkjjjaaDoor.Sm Go.Proofs.YtagdeldgpkjjjaaDoor.Dp
set_option maxHeartbeats 4000000
set_option maxRecDepth 100000
set_option linter.unusedVariables false
set_option linter.unusedSimpArgs false
def cfg0 (ps : List Part) (ls : List Link) (cy dr ag lo li ca : Int) : Config := ⟨ps, ls, cy, 60, 100, 0, dr, 300000, ag, lo, li, ca, 12⟩
def cfg1 (ps : List Part) (ls : List Link) (cy dr ag lo li ca : Int) : Config := ⟨ps, ls, cy, 60, 100, 3 * edgeR (cfg0 ps ls cy dr ag lo li ca), dr, 300000, ag, lo, li, ca, 12⟩
theorem edge3 (c : Config) : IntKind.i64.wrap (3 * edgeR c) = 3 * edgeR c := by
  have := edgeR_in c
  exact Ev.wrap_i64 (by omega) (by omega)
theorem joinP_len (ps : List Part) (ls : List Link) (a b : Nat) : (joinP ps ls a b).length = ps.length := by simp [joinP, bump_len]
theorem netN_step {p : Nat} {sh : Int} {u : Nat} (h : 1 ≤ u) : netN p sh u = join (netN p sh (u - 1)) (if sh = 2 then 0 else u - 1) u := by
  obtain ⟨v, rfl⟩ : ∃ v, u = v + 1 := ⟨u - 1, by omega⟩
  rfl
theorem made_pc0 (n m : Int) (hm : andI n 65535 = m) (p : Nat) (hp : IntKind.i64.wrap (1 + (andI m 3)) = (p : Int)) (hp1 : 1 ≤ p) (hp4 : p ≤ 4) (sh cy dr lo ca ag li : Int) (hsh : andI (m.fdiv 4) 3 = sh) (hcy : IntKind.i64.wrap (20000 + (IntKind.i64.wrap (1000 * (andI (m.fdiv 16) 7)))) = cy) (hdr : IntKind.i64.wrap (20 * (andI (m.fdiv 128) 7)) = dr) (hlo : andI (m.fdiv 1024) 1 = lo) (hca : IntKind.i64.wrap ((IntKind.i64.wrap ((p : Int) * (IntKind.i64.wrap (lo + 1)))) + 2) = ca) (hag : IntKind.i64.wrap ((IntKind.i64.wrap ((IntKind.i64.wrap ((IntKind.i64.wrap ((p : Int) - 1)) * (IntKind.i64.wrap (lo + 1)))) + 1)) + (andI (m.fdiv 2048) 3)) = ag) (hli : IntKind.i64.wrap (ca + (andI (m.fdiv 8192) 1)) = li) : PC Tryd.prog [] 6 [I n] (· = D.r (Config.d (cfg1 (netOf p sh).1 (netOf p sh).2 cy dr ag lo li ca))) := by
 refine PC.of (N := 104) Tryd.func6 rfl rfl (Nat.le_of_ble_eq_true rfl) ?_
 have hpm : IntKind.i64.wrap ((p : Int) - 1) = ((p - 1 : Nat) : Int) := by rw [Ev.wrap_i64 (by omega) (by omega)]; omega
 refine PW.sr [0, 2] 1 trivial ?_
 refine PW.sg ?_
 refine PL.row 3 [0, 2] 1 (s' := { tab := [⟨0, [], I (andI n 65535)⟩, ⟨2, [], D.p 0 0 0 0⟩], mem := [Obj.var 26 [D.v (.slice none 0 0), D.v (.slice none 0 0), I 0, I 0, I 0, I 0, I 0, I 0, I 0, I 0, I 0, I 0, I 0]] }) (p := True) (by kernel_rfl) (by kernel_rfl) (by kernel_rfl) (by kernel_rfl) (by kernel_rfl) trivial ?_
 refine PL.eq (s' := { tab := [⟨0, [], I m⟩, ⟨2, [], D.p 0 0 0 0⟩], mem := [Obj.var 26 [D.v (.slice none 0 0), D.v (.slice none 0 0), I 0, I 0, I 0, I 0, I 0, I 0, I 0, I 0, I 0, I 0, I 0]] }) (by rw [hm]) ?_
 refine PL.nl ?_
 refine PW.sg ?_
 refine PL.row 4 [0, 2, 3] 1 (s' := { tab := [⟨0, [], I m⟩, ⟨2, [], D.p 0 0 0 0⟩, ⟨3, [], I (IntKind.i64.wrap (1 + (andI m 3)))⟩], mem := [Obj.var 26 [D.v (.slice none 0 0), D.v (.slice none 0 0), I 0, I 0, I 0, I 0, I 0, I 0, I 0, I 0, I 0, I 0, I 0]] }) (p := True) (by kernel_rfl) (by kernel_rfl) (by kernel_rfl) (by kernel_rfl) (by kernel_rfl) trivial ?_
 refine PL.eq (s' := { tab := [⟨0, [], I m⟩, ⟨2, [], D.p 0 0 0 0⟩, ⟨3, [], I (p : Int)⟩], mem := [Obj.var 26 [D.v (.slice none 0 0), D.v (.slice none 0 0), I 0, I 0, I 0, I 0, I 0, I 0, I 0, I 0, I 0, I 0, I 0]] }) (by rw [hp]) ?_
 refine PL.nl ?_
 refine PW.sg ?_
 refine PL.row 4 [0, 2, 3, 4] 1 (s' := { tab := [⟨0, [], I m⟩, ⟨2, [], D.p 0 0 0 0⟩, ⟨3, [], I (p : Int)⟩, ⟨4, [], I (andI (m.fdiv 4) 3)⟩], mem := [Obj.var 26 [D.v (.slice none 0 0), D.v (.slice none 0 0), I 0, I 0, I 0, I 0, I 0, I 0, I 0, I 0, I 0, I 0, I 0]] }) (p := True) (by kernel_rfl) (by kernel_rfl) (by kernel_rfl) (by kernel_rfl) (by kernel_rfl) trivial ?_
 refine PL.eq (s' := { tab := [⟨0, [], I m⟩, ⟨2, [], D.p 0 0 0 0⟩, ⟨3, [], I (p : Int)⟩, ⟨4, [], I sh⟩], mem := [Obj.var 26 [D.v (.slice none 0 0), D.v (.slice none 0 0), I 0, I 0, I 0, I 0, I 0, I 0, I 0, I 0, I 0, I 0, I 0]] }) (by rw [hsh]) ?_
 refine PL.nl ?_
 refine PW.sg ?_
 refine PL.row 15 [0, 2, 3, 4, 5] 2 (s' := { tab := [⟨0, [], I m⟩, ⟨2, [], D.p 0 0 0 0⟩, ⟨3, [], I (p : Int)⟩, ⟨4, [], I sh⟩, ⟨5, [], D.p 1 0 0 0⟩], mem := [Obj.var 26 [D.v (.slice none 0 0), D.v (.slice none 0 0), I 0, I 0, I 0, I 0, I 0, I 0, I 0, I 0, I 0, I 0, I 0], Obj.var 26 [D.v (.slice none 0 0), D.v (.slice none 0 0), I (IntKind.i64.wrap (20000 + (IntKind.i64.wrap (1000 * (andI (m.fdiv 16) 7))))), I 60, I 100, I 0, I (IntKind.i64.wrap (20 * (andI (m.fdiv 128) 7))), I 300000, I 0, I (andI (m.fdiv 1024) 1), I 0, I 0, I 12]] }) (p := True) (by kernel_rfl) (by kernel_rfl) (by kernel_rfl) (by kernel_rfl) (by kernel_rfl) trivial ?_
 refine PL.eq (s' := { tab := [⟨0, [], I m⟩, ⟨2, [], D.p 0 0 0 0⟩, ⟨3, [], I (p : Int)⟩, ⟨4, [], I sh⟩, ⟨5, [], D.p 1 0 0 0⟩], mem := [Obj.var 26 [D.v (.slice none 0 0), D.v (.slice none 0 0), I 0, I 0, I 0, I 0, I 0, I 0, I 0, I 0, I 0, I 0, I 0], Obj.var 26 [D.v (.slice none 0 0), D.v (.slice none 0 0), I cy, I 60, I 100, I 0, I dr, I 300000, I 0, I lo, I 0, I 0, I 12]] }) (by rw [hcy, hdr, hlo]) ?_
 refine PL.nl ?_
 refine PW.seq ?_
 refine PW.sr [0, 2, 3, 4, 5, 6] 2 trivial ?_
 refine PW.block ?_
 refine PW.bornC 1 0 41 2 (t0 := 26) (cs := [D.v (.slice none 0 0), D.v (.slice none 0 0), I cy, I 60, I 100, I 0, I dr, I 300000, I 0, I lo, I 0, I 0, I 12]) (s' := { tab := [⟨0, [], I m⟩, ⟨2, [], D.p 0 0 0 0⟩, ⟨3, [], I (p : Int)⟩, ⟨4, [], I sh⟩, ⟨5, [], D.p 1 0 0 0⟩, ⟨6, [], I 0⟩], mem := [Obj.var 26 [D.v (.slice none 0 0), D.v (.slice none 0 0), I 0, I 0, I 0, I 0, I 0, I 0, I 0, I 0, I 0, I 0, I 0], Obj.var 26 [D.h 2 0, D.v (.slice none 0 0), I cy, I 60, I 100, I 0, I dr, I 300000, I 0, I lo, I 0, I 0, I 12], Obj.row 41 2 0 (fun _ => [])] }) (by kernel_rfl) (by kernel_rfl) (by kernel_rfl) ?_
 refine PW.bornC 1 1 43 6 (t0 := 26) (cs := [D.h 2 0, D.v (.slice none 0 0), I cy, I 60, I 100, I 0, I dr, I 300000, I 0, I lo, I 0, I 0, I 12]) (s' := { tab := [⟨0, [], I m⟩, ⟨2, [], D.p 0 0 0 0⟩, ⟨3, [], I (p : Int)⟩, ⟨4, [], I sh⟩, ⟨5, [], D.p 1 0 0 0⟩, ⟨6, [], I 0⟩], mem := [Obj.var 26 [D.v (.slice none 0 0), D.v (.slice none 0 0), I 0, I 0, I 0, I 0, I 0, I 0, I 0, I 0, I 0, I 0, I 0], Obj.var 26 [D.h 2 0, D.h 3 0, I cy, I 60, I 100, I 0, I dr, I 300000, I 0, I lo, I 0, I 0, I 12], Obj.row 41 2 0 (fun _ => []), Obj.row 43 6 0 (fun _ => [])] }) (by kernel_rfl) (by kernel_rfl) (by kernel_rfl) ?_
 refine PW.loopR (α := Nat × List Part) (fun (i, xs) => { tab := [⟨0, [], I m⟩, ⟨2, [], D.p 0 0 0 0⟩, ⟨3, [], I (p : Int)⟩, ⟨4, [], I sh⟩, ⟨5, [], D.p 1 0 0 0⟩, ⟨6, [], I (i : Int)⟩], mem := [Obj.var 26 [D.v (.slice none 0 0), D.v (.slice none 0 0), I 0, I 0, I 0, I 0, I 0, I 0, I 0, I 0, I 0, I 0, I 0], Obj.var 26 [D.h 2 xs.length, D.h 3 0, I cy, I 60, I 100, I 0, I dr, I 300000, I 0, I lo, I 0, I 0, I 12], Obj.row 41 2 xs.length (fun j => Part.d (xs.getD j default)), Obj.row 43 6 0 (fun _ => [])] }) (fun (i, xs) => i ≤ p ∧ xs = List.replicate i ⟨5, 1⟩) (fun (i, xs) => p - i) [0, 2, 3, 4, 5, 6] 4 (0, []) (s1 := { tab := [⟨0, [], I m⟩, ⟨2, [], D.p 0 0 0 0⟩, ⟨3, [], I (p : Int)⟩, ⟨4, [], I sh⟩, ⟨5, [], D.p 1 0 0 0⟩, ⟨6, [], I 0⟩], mem := [Obj.var 26 [D.v (.slice none 0 0), D.v (.slice none 0 0), I 0, I 0, I 0, I 0, I 0, I 0, I 0, I 0, I 0, I 0, I 0], Obj.var 26 [D.h 2 0, D.h 3 0, I cy, I 60, I 100, I 0, I dr, I 300000, I 0, I lo, I 0, I 0, I 12], Obj.row 41 2 0 (fun _ => []), Obj.row 43 6 0 (fun _ => [])] }) (by kernel_rfl) (by kernel_rfl) ?_ ?_ ?_
 ·dsimp only
  exact ⟨rfl, rfl, rfl, (.same (.same (.row rfl (fun j hj => absurd hj (Nat.not_lt_zero _)) (.same .nil))))⟩
 ·dsimp only
  exact ⟨Nat.zero_le _, rfl⟩
 rintro ⟨i, xs⟩ hinv
 dsimp only at hinv
 have hxl : xs.length = i := by rw [hinv.2]; simp
 show PW _ _ _ _ _
 refine PW.seq ?_
 refine PW.sr [0, 2, 3, 4, 5, 6, 33] 4 trivial ?_
 refine PW.cd (decide ((i : Int) < (p : Int))) (fun hz0 => ?_) (fun hz0 => ?_)
 ·try simp only [boolS, isB_true, isB_false] at hz0
  refine PW.skip ?_
  show PW _ _ _ _ _
  refine PW.seq ?_
  refine PW.block ?_
  refine PW.region ?_
  refine PL.rw 5 [0, 2, 3, 4, 5, 6, 40] 5 (p := ((xs.length = xs.length ∧ 1 ≤ 1) ∧ (xs.length + 1) * 16 ≤ 140737488355328 ∧ xs.length + 1 ≤ 9223372036854775807)) (by omega) ?_
  refine PL.rm 2 (t := 41) (z := 2) (n := (xs.length + 1)) (fun j => if j < xs.length then (fun j => Part.d (xs.getD j default)) j else (fun k => ([[I 5, I 1]][k]?).getD []) (j - xs.length)) (fun j => Part.d ((xs ++ [(⟨5, 1⟩ : Part)]).getD j default)) (fun j hj => by (try dsimp only); rw [getD_app xs [(⟨5, 1⟩ : Part)] j default, show xs.length = xs.length from (by (try simp only [List.length_set, List.length_replicate, List.length_append, List.length_cons, List.length_nil]) <;> omega)]; split <;> first | rfl | (rename_i hjn; rw [show j - xs.length = 0 by omega]; rfl)) ?_
  refine PL.rw 2 [0, 2, 3, 4, 5, 6] 5 trivial ?_
  refine PL.nil ?_
  show PW _ _ _ _ _
  refine PW.rr [0, 2, 3, 4, 5, 6] 5 trivial ?_
  refine BackR.of (s1 := { tab := [⟨0, [], I m⟩, ⟨2, [], D.p 0 0 0 0⟩, ⟨3, [], I (p : Int)⟩, ⟨4, [], I sh⟩, ⟨5, [], D.p 1 0 0 0⟩, ⟨6, [], I (IntKind.i64.wrap ((i : Int) + 1))⟩], mem := [Obj.var 26 [D.v (.slice none 0 0), D.v (.slice none 0 0), I 0, I 0, I 0, I 0, I 0, I 0, I 0, I 0, I 0, I 0, I 0], Obj.var 26 [D.h 2 (xs.length + 1), D.h 3 0, I cy, I 60, I 100, I 0, I dr, I 300000, I 0, I lo, I 0, I 0, I 12], Obj.row 41 2 (xs.length + 1) (fun j => Part.d ((xs ++ [(⟨5, 1⟩ : Part)]).getD j default)), Obj.row 43 6 0 (fun _ => [])] }) (i + 1, xs ++ [(⟨5, 1⟩ : Part)]) (by kernel_rfl) (by kernel_rfl) ?_ ?_ ?_
  ·dsimp only
   rw [wrap1 i (by omega)]
   simp only [List.length_append, List.length_singleton]
   exact Rem.refl _
  ·dsimp only
   exact ⟨by omega, by rw [hinv.2, List.replicate_succ']⟩
  ·dsimp only
   ((repeat' (first | intro _ | refine And.intro ?_ ?_)) <;> first | omega | trivial | assumption | (rename_i hgd; simp only [Bool.and_eq_true, decide_eq_true_eq, and_true] at hgd; omega))
 ·try simp only [boolS, isB_true, isB_false] at hz0
  refine PW.exit ?_
  show PW _ _ _ _ _
  refine PW.seq ?_
  refine PW.sr [0, 2, 3, 4, 5, 7] 4 trivial ?_
  refine PW.block ?_
  refine PW.loopR (α := Nat × List Part × List Link) (fun (u, us, ys) => { tab := [⟨0, [], I m⟩, ⟨2, [], D.p 0 0 0 0⟩, ⟨3, [], I (p : Int)⟩, ⟨4, [], I sh⟩, ⟨5, [], D.p 1 0 0 0⟩, ⟨7, [], I (u : Int)⟩], mem := [Obj.var 26 [D.v (.slice none 0 0), D.v (.slice none 0 0), I 0, I 0, I 0, I 0, I 0, I 0, I 0, I 0, I 0, I 0, I 0], Obj.var 26 [D.h 2 us.length, D.h 3 ys.length, I cy, I 60, I 100, I 0, I dr, I 300000, I 0, I lo, I 0, I 0, I 12], Obj.row 41 2 us.length (fun j => Part.d (us.getD j default)), Obj.row 43 6 ys.length (fun j => Link.d (ys.getD j default))] }) (fun (u, us, ys) => 1 ≤ u ∧ u ≤ p ∧ netN p sh (u - 1) = (us, ys)) (fun (u, us, ys) => p - u) [0, 2, 3, 4, 5, 7] 4 (1, xs, []) (s1 := { tab := [⟨0, [], I m⟩, ⟨2, [], D.p 0 0 0 0⟩, ⟨3, [], I (p : Int)⟩, ⟨4, [], I sh⟩, ⟨5, [], D.p 1 0 0 0⟩, ⟨7, [], I 1⟩], mem := [Obj.var 26 [D.v (.slice none 0 0), D.v (.slice none 0 0), I 0, I 0, I 0, I 0, I 0, I 0, I 0, I 0, I 0, I 0, I 0], Obj.var 26 [D.h 2 xs.length, D.h 3 0, I cy, I 60, I 100, I 0, I dr, I 300000, I 0, I lo, I 0, I 0, I 12], Obj.row 41 2 xs.length (fun j => Part.d (xs.getD j default)), Obj.row 43 6 0 (fun _ => [])] }) (by kernel_rfl) (by kernel_rfl) ?_ ?_ ?_
  ·dsimp only
   exact ⟨rfl, rfl, rfl, (.same (.same (.same (.row rfl (fun j hj => absurd hj (Nat.not_lt_zero _)) .nil))))⟩
  ·dsimp only
   have hip : i = p := by omega
   refine ⟨by omega, by omega, ?_⟩
   rw [hinv.2, hip]
   rfl
  rintro ⟨u, us, ys⟩ hinv2
  dsimp only at hinv2
  have hul : us.length = p := by have h := (netN_len p sh (u - 1)).1; rw [hinv2.2.2] at h; exact h
  have hyl : ys.length = u - 1 := by have h := (netN_len p sh (u - 1)).2; rw [hinv2.2.2] at h; exact h
  have hum : IntKind.i64.wrap ((u : Int) - 1) = ((u - 1 : Nat) : Int) := by rw [Ev.wrap_i64 (by omega) (by omega)]; omega
  show PW _ _ _ _ _
  refine PW.seq ?_
  refine PW.sr [0, 2, 3, 4, 5, 7, 44] 4 trivial ?_
  refine PW.cd (decide ((u : Int) < (p : Int))) (fun hz1 => ?_) (fun hz1 => ?_)
  ·try simp only [boolS, isB_true, isB_false] at hz1
   refine PW.skip ?_
   show PW _ _ _ _ _
   refine PW.seq ?_
   refine PW.block ?_
   refine PW.sg ?_
   refine PL.row 3 [0, 2, 3, 4, 5, 7, 8] 4 (s' := { tab := [⟨0, [], I m⟩, ⟨2, [], D.p 0 0 0 0⟩, ⟨3, [], I (p : Int)⟩, ⟨4, [], I sh⟩, ⟨5, [], D.p 1 0 0 0⟩, ⟨7, [], I (u : Int)⟩, ⟨8, [], I (IntKind.i64.wrap ((u : Int) - 1))⟩], mem := [Obj.var 26 [D.v (.slice none 0 0), D.v (.slice none 0 0), I 0, I 0, I 0, I 0, I 0, I 0, I 0, I 0, I 0, I 0, I 0], Obj.var 26 [D.h 2 us.length, D.h 3 ys.length, I cy, I 60, I 100, I 0, I dr, I 300000, I 0, I lo, I 0, I 0, I 12], Obj.row 41 2 us.length (fun j => Part.d (us.getD j default)), Obj.row 43 6 ys.length (fun j => Link.d (ys.getD j default))] }) (p := True) (by kernel_rfl) (by kernel_rfl) (by kernel_rfl) (by kernel_rfl) (by kernel_rfl) trivial ?_
   refine PL.eq (s' := { tab := [⟨0, [], I m⟩, ⟨2, [], D.p 0 0 0 0⟩, ⟨3, [], I (p : Int)⟩, ⟨4, [], I sh⟩, ⟨5, [], D.p 1 0 0 0⟩, ⟨7, [], I (u : Int)⟩, ⟨8, [], I ((u - 1 : Nat) : Int)⟩], mem := [Obj.var 26 [D.v (.slice none 0 0), D.v (.slice none 0 0), I 0, I 0, I 0, I 0, I 0, I 0, I 0, I 0, I 0, I 0, I 0], Obj.var 26 [D.h 2 us.length, D.h 3 ys.length, I cy, I 60, I 100, I 0, I dr, I 300000, I 0, I lo, I 0, I 0, I 12], Obj.row 41 2 us.length (fun j => Part.d (us.getD j default)), Obj.row 43 6 ys.length (fun j => Link.d (ys.getD j default))] }) (by rw [hum]) ?_
   refine PL.nl ?_
   refine PW.join (α := Nat) (fun a => { tab := [⟨0, [], I m⟩, ⟨2, [], D.p 0 0 0 0⟩, ⟨3, [], I (p : Int)⟩, ⟨4, [], I sh⟩, ⟨5, [], D.p 1 0 0 0⟩, ⟨7, [], I (u : Int)⟩, ⟨8, [], I (a : Int)⟩], mem := [Obj.var 26 [D.v (.slice none 0 0), D.v (.slice none 0 0), I 0, I 0, I 0, I 0, I 0, I 0, I 0, I 0, I 0, I 0, I 0], Obj.var 26 [D.h 2 us.length, D.h 3 ys.length, I cy, I 60, I 100, I 0, I dr, I 300000, I 0, I lo, I 0, I 0, I 12], Obj.row 41 2 us.length (fun j => Part.d (us.getD j default)), Obj.row 43 6 ys.length (fun j => Link.d (ys.getD j default))] }) (fun a => a = if sh = 2 then 0 else u - 1) [0, 2, 3, 4, 5, 7, 8] 4 ?_ ?_
   ·skip
    rintro a hja
    have hal : a < p := by rw [hja]; split <;> omega
    show PW _ _ _ _ _
    refine PW.open [0, 1, 2, 3] (by kernel_rfl) ?_
    refine PO.tk [0, 2, 3] 9 [0, 2, 3, 4, 5, 7, 51, 53, 54] 6 trivial (fun _ _ h => h) ?_
    refine PO.next (n := 5) [1, 4] (by kernel_rfl) (by simp) ?_
    intro i hi
    simp only [List.mem_cons, List.not_mem_nil, or_false] at hi
    rcases hi with rfl | rfl
    ·skip
     refine PO1.val [0, 2, 3, 4, 5, 7, 52, 53, 54] 4 (s' := { tab := [⟨0, [], I m⟩, ⟨2, [], D.p 0 0 0 0⟩, ⟨3, [], I (p : Int)⟩, ⟨4, [], I sh⟩, ⟨5, [], D.p 1 0 0 0⟩, ⟨7, [], I (u : Int)⟩, ⟨52, [], D.h 3 ys.length⟩, ⟨53, [], I (a : Int)⟩, ⟨54, [], I (u : Int)⟩], mem := [Obj.var 26 [D.v (.slice none 0 0), D.v (.slice none 0 0), I 0, I 0, I 0, I 0, I 0, I 0, I 0, I 0, I 0, I 0, I 0], Obj.var 26 [D.h 2 us.length, D.h 3 ys.length, I cy, I 60, I 100, I 0, I dr, I 300000, I 0, I lo, I 0, I 0, I 12], Obj.row 41 2 us.length (fun j => Part.d (us.getD j default)), Obj.row 43 6 ys.length (fun j => Link.d (ys.getD j default))] }) (p := True) rfl (by kernel_rfl) (by kernel_rfl) (by kernel_rfl) (by kernel_rfl) (by kernel_rfl) (by kernel_rfl) (by kernel_rfl) (by kernel_rfl) (by trivial) ?_
     refine PO.one (n := 4) 4 (by kernel_rfl) ?_
     refine PO1.ci _ (drumlineref26_joined_pc us ys cy 60 100 0 dr 300000 0 lo 0 0 12 a u (by omega) (by omega) (by omega) (by omega)) ?_ rfl
     rintro _ _ ⟨rfl, rfl⟩
     refine PO.sel [0, 2, 3, 4, 5, 7, 52, 55] 4 rfl (by kernel_rfl) ?_
     refine PO.one (n := 3) 5 (by kernel_rfl) ?_
     refine PO1.mm rfl [0, 2, 3, 4, 5, 7, 52, 56] 5 trivial ?_
     refine PO.one (n := 2) 6 (by kernel_rfl) ?_
     refine PO1.mm rfl [0, 2, 3, 4, 5, 7, 57] 5 (p := ((ys.length = ys.length ∧ 1 ≤ 1) ∧ (ys.length + 1) * 48 ≤ 140737488355328 ∧ ys.length + 1 ≤ 9223372036854775807)) (by omega) ?_
     refine PO.rm 3 (t := 43) (z := 6) (n := (ys.length + 1)) (fun j => if j < ys.length then (fun j => Link.d (ys.getD j default)) j else (fun k => ([[I ((joinL ys a u).a), I ((joinL ys a u).b), I ((joinL ys a u).pa0), I ((joinL ys a u).pa1), I ((joinL ys a u).pb0), I ((joinL ys a u).pb1)]][k]?).getD []) (j - ys.length)) (fun j => Link.d ((ys ++ [(joinL ys a u)]).getD j default)) (fun j hj => by (try dsimp only); rw [getD_app ys [(joinL ys a u)] j default, show ys.length = ys.length from (by (try simp only [List.length_set, List.length_replicate, List.length_append, List.length_cons, List.length_nil]) <;> omega)]; split <;> first | rfl | (rename_i hjn; rw [show j - ys.length = 0 by omega]; rfl)) ?_
     refine PO.tk [7] 2 [0, 2, 3, 4, 5, 7, 57, 58] 1 trivial (fun _ _ h => h) ?_
     refine PO.one (n := 0) 8 (by kernel_rfl) ?_
     refine PO1.mm rfl [0, 2, 3, 4, 5, 7] 5 trivial ?_
     refine PO.done (by kernel_rfl) ?_
     show PW _ _ _ _ _
     refine PW.rr [0, 2, 3, 4, 5, 7] 5 trivial ?_
     refine BackR.of (s1 := { tab := [⟨0, [], I m⟩, ⟨2, [], D.p 0 0 0 0⟩, ⟨3, [], I (p : Int)⟩, ⟨4, [], I sh⟩, ⟨5, [], D.p 1 0 0 0⟩, ⟨7, [], I (IntKind.i64.wrap ((u : Int) + 1))⟩], mem := [Obj.var 26 [D.v (.slice none 0 0), D.v (.slice none 0 0), I 0, I 0, I 0, I 0, I 0, I 0, I 0, I 0, I 0, I 0, I 0], Obj.var 26 [D.h 2 us.length, D.h 3 (ys.length + 1), I cy, I 60, I 100, I 0, I dr, I 300000, I 0, I lo, I 0, I 0, I 12], Obj.row 41 2 us.length (fun j => Part.d ((joinP us ys a u).getD j default)), Obj.row 43 6 (ys.length + 1) (fun j => Link.d ((ys ++ [(joinL ys a u)]).getD j default))] }) (u + 1, joinP us ys a u, ys ++ [(joinL ys a u)]) (by kernel_rfl) (by kernel_rfl) ?_ ?_ ?_
     ·dsimp only
      rw [wrap1 u (by omega)]
      simp only [List.length_append, List.length_singleton, joinP_len]
      exact Rem.refl _
     ·dsimp only
      refine ⟨by omega, by omega, ?_⟩
      rw [show u + 1 - 1 = u by omega, netN_step (by omega), hinv2.2.2, ← hja]
      rfl
     ·dsimp only
      ((repeat' (first | intro _ | refine And.intro ?_ ?_)) <;> first | omega | trivial | assumption | (rename_i hgd; simp only [Bool.and_eq_true, decide_eq_true_eq, and_true] at hgd; omega))
    ·skip
     refine PO1.ci _ (drumlineref26_joined_pc us ys cy 60 100 0 dr 300000 0 lo 0 0 12 a u (by omega) (by omega) (by omega) (by omega)) ?_ rfl
     rintro _ _ ⟨rfl, rfl⟩
     refine PO.sel [0, 2, 3, 4, 5, 7, 51, 55] 4 rfl (by kernel_rfl) ?_
     refine PO.next (n := 4) [1, 5] (by kernel_rfl) (by simp) ?_
     intro i hi
     simp only [List.mem_cons, List.not_mem_nil, or_false] at hi
     rcases hi with rfl | rfl
     ·skip
      refine PO1.val [0, 2, 3, 4, 5, 7, 52, 55] 4 (s' := { tab := [⟨0, [], I m⟩, ⟨2, [], D.p 0 0 0 0⟩, ⟨3, [], I (p : Int)⟩, ⟨4, [], I sh⟩, ⟨5, [], D.p 1 0 0 0⟩, ⟨7, [], I (u : Int)⟩, ⟨52, [], D.h 3 ys.length⟩, ⟨55, [], D.r (Link.d (joinL ys a u))⟩], mem := [Obj.var 26 [D.v (.slice none 0 0), D.v (.slice none 0 0), I 0, I 0, I 0, I 0, I 0, I 0, I 0, I 0, I 0, I 0, I 0], Obj.var 26 [D.h 2 us.length, D.h 3 ys.length, I cy, I 60, I 100, I 0, I dr, I 300000, I 0, I lo, I 0, I 0, I 12], Obj.row 41 2 us.length (fun j => Part.d ((joinP us ys a u).getD j default)), Obj.row 43 6 ys.length (fun j => Link.d (ys.getD j default))] }) (p := True) rfl (by kernel_rfl) (by kernel_rfl) (by kernel_rfl) (by kernel_rfl) (by kernel_rfl) (by kernel_rfl) (by kernel_rfl) (by kernel_rfl) (by trivial) ?_
      refine PO.one (n := 3) 5 (by kernel_rfl) ?_
      refine PO1.mm rfl [0, 2, 3, 4, 5, 7, 52, 56] 5 trivial ?_
      refine PO.one (n := 2) 6 (by kernel_rfl) ?_
      refine PO1.mm rfl [0, 2, 3, 4, 5, 7, 57] 5 (p := ((ys.length = ys.length ∧ 1 ≤ 1) ∧ (ys.length + 1) * 48 ≤ 140737488355328 ∧ ys.length + 1 ≤ 9223372036854775807)) (by omega) ?_
      refine PO.rm 3 (t := 43) (z := 6) (n := (ys.length + 1)) (fun j => if j < ys.length then (fun j => Link.d (ys.getD j default)) j else (fun k => ([[I ((joinL ys a u).a), I ((joinL ys a u).b), I ((joinL ys a u).pa0), I ((joinL ys a u).pa1), I ((joinL ys a u).pb0), I ((joinL ys a u).pb1)]][k]?).getD []) (j - ys.length)) (fun j => Link.d ((ys ++ [(joinL ys a u)]).getD j default)) (fun j hj => by (try dsimp only); rw [getD_app ys [(joinL ys a u)] j default, show ys.length = ys.length from (by (try simp only [List.length_set, List.length_replicate, List.length_append, List.length_cons, List.length_nil]) <;> omega)]; split <;> first | rfl | (rename_i hjn; rw [show j - ys.length = 0 by omega]; rfl)) ?_
      refine PO.tk [7] 2 [0, 2, 3, 4, 5, 7, 57, 58] 1 trivial (fun _ _ h => h) ?_
      refine PO.one (n := 0) 8 (by kernel_rfl) ?_
      refine PO1.mm rfl [0, 2, 3, 4, 5, 7] 5 trivial ?_
      refine PO.done (by kernel_rfl) ?_
      show PW _ _ _ _ _
      refine PW.rr [0, 2, 3, 4, 5, 7] 5 trivial ?_
      refine BackR.of (s1 := { tab := [⟨0, [], I m⟩, ⟨2, [], D.p 0 0 0 0⟩, ⟨3, [], I (p : Int)⟩, ⟨4, [], I sh⟩, ⟨5, [], D.p 1 0 0 0⟩, ⟨7, [], I (IntKind.i64.wrap ((u : Int) + 1))⟩], mem := [Obj.var 26 [D.v (.slice none 0 0), D.v (.slice none 0 0), I 0, I 0, I 0, I 0, I 0, I 0, I 0, I 0, I 0, I 0, I 0], Obj.var 26 [D.h 2 us.length, D.h 3 (ys.length + 1), I cy, I 60, I 100, I 0, I dr, I 300000, I 0, I lo, I 0, I 0, I 12], Obj.row 41 2 us.length (fun j => Part.d ((joinP us ys a u).getD j default)), Obj.row 43 6 (ys.length + 1) (fun j => Link.d ((ys ++ [(joinL ys a u)]).getD j default))] }) (u + 1, joinP us ys a u, ys ++ [(joinL ys a u)]) (by kernel_rfl) (by kernel_rfl) ?_ ?_ ?_
      ·dsimp only
       rw [wrap1 u (by omega)]
       simp only [List.length_append, List.length_singleton, joinP_len]
       exact Rem.refl _
      ·dsimp only
       refine ⟨by omega, by omega, ?_⟩
       rw [show u + 1 - 1 = u by omega, netN_step (by omega), hinv2.2.2, ← hja]
       rfl
      ·dsimp only
       ((repeat' (first | intro _ | refine And.intro ?_ ?_)) <;> first | omega | trivial | assumption | (rename_i hgd; simp only [Bool.and_eq_true, decide_eq_true_eq, and_true] at hgd; omega))
     ·skip
      refine PO1.mm rfl [0, 2, 3, 4, 5, 7, 51, 56] 5 trivial ?_
      refine PO.one (n := 3) 1 (by kernel_rfl) ?_
      refine PO1.val [0, 2, 3, 4, 5, 7, 52, 56] 5 (s' := { tab := [⟨0, [], I m⟩, ⟨2, [], D.p 0 0 0 0⟩, ⟨3, [], I (p : Int)⟩, ⟨4, [], I sh⟩, ⟨5, [], D.p 1 0 0 0⟩, ⟨7, [], I (u : Int)⟩, ⟨52, [], D.h 3 ys.length⟩, ⟨56, [], D.h 4 1⟩], mem := [Obj.var 26 [D.v (.slice none 0 0), D.v (.slice none 0 0), I 0, I 0, I 0, I 0, I 0, I 0, I 0, I 0, I 0, I 0, I 0], Obj.var 26 [D.h 2 us.length, D.h 3 ys.length, I cy, I 60, I 100, I 0, I dr, I 300000, I 0, I lo, I 0, I 0, I 12], Obj.row 41 2 us.length (fun j => Part.d ((joinP us ys a u).getD j default)), Obj.row 43 6 ys.length (fun j => Link.d (ys.getD j default)), Obj.row 43 6 1 (fun k => ([[I ((joinL ys a u).a), I ((joinL ys a u).b), I ((joinL ys a u).pa0), I ((joinL ys a u).pa1), I ((joinL ys a u).pb0), I ((joinL ys a u).pb1)]][k]?).getD [])] }) (p := True) rfl (by kernel_rfl) (by kernel_rfl) (by kernel_rfl) (by kernel_rfl) (by kernel_rfl) (by kernel_rfl) (by kernel_rfl) (by kernel_rfl) (by trivial) ?_
      refine PO.one (n := 2) 6 (by kernel_rfl) ?_
      refine PO1.mm rfl [0, 2, 3, 4, 5, 7, 57] 5 (p := ((ys.length = ys.length ∧ 1 ≤ 1) ∧ (ys.length + 1) * 48 ≤ 140737488355328 ∧ ys.length + 1 ≤ 9223372036854775807)) (by omega) ?_
      refine PO.rm 3 (t := 43) (z := 6) (n := (ys.length + 1)) (fun j => if j < ys.length then (fun j => Link.d (ys.getD j default)) j else (fun k => ([[I ((joinL ys a u).a), I ((joinL ys a u).b), I ((joinL ys a u).pa0), I ((joinL ys a u).pa1), I ((joinL ys a u).pb0), I ((joinL ys a u).pb1)]][k]?).getD []) (j - ys.length)) (fun j => Link.d ((ys ++ [(joinL ys a u)]).getD j default)) (fun j hj => by (try dsimp only); rw [getD_app ys [(joinL ys a u)] j default, show ys.length = ys.length from (by (try simp only [List.length_set, List.length_replicate, List.length_append, List.length_cons, List.length_nil]) <;> omega)]; split <;> first | rfl | (rename_i hjn; rw [show j - ys.length = 0 by omega]; rfl)) ?_
      refine PO.tk [7] 2 [0, 2, 3, 4, 5, 7, 57, 58] 1 trivial (fun _ _ h => h) ?_
      refine PO.one (n := 0) 8 (by kernel_rfl) ?_
      refine PO1.mm rfl [0, 2, 3, 4, 5, 7] 5 trivial ?_
      refine PO.done (by kernel_rfl) ?_
      show PW _ _ _ _ _
      refine PW.rr [0, 2, 3, 4, 5, 7] 5 trivial ?_
      refine BackR.of (s1 := { tab := [⟨0, [], I m⟩, ⟨2, [], D.p 0 0 0 0⟩, ⟨3, [], I (p : Int)⟩, ⟨4, [], I sh⟩, ⟨5, [], D.p 1 0 0 0⟩, ⟨7, [], I (IntKind.i64.wrap ((u : Int) + 1))⟩], mem := [Obj.var 26 [D.v (.slice none 0 0), D.v (.slice none 0 0), I 0, I 0, I 0, I 0, I 0, I 0, I 0, I 0, I 0, I 0, I 0], Obj.var 26 [D.h 2 us.length, D.h 3 (ys.length + 1), I cy, I 60, I 100, I 0, I dr, I 300000, I 0, I lo, I 0, I 0, I 12], Obj.row 41 2 us.length (fun j => Part.d ((joinP us ys a u).getD j default)), Obj.row 43 6 (ys.length + 1) (fun j => Link.d ((ys ++ [(joinL ys a u)]).getD j default))] }) (u + 1, joinP us ys a u, ys ++ [(joinL ys a u)]) (by kernel_rfl) (by kernel_rfl) ?_ ?_ ?_
      ·dsimp only
       rw [wrap1 u (by omega)]
       simp only [List.length_append, List.length_singleton, joinP_len]
       exact Rem.refl _
      ·dsimp only
       refine ⟨by omega, by omega, ?_⟩
       rw [show u + 1 - 1 = u by omega, netN_step (by omega), hinv2.2.2, ← hja]
       rfl
      ·dsimp only
       ((repeat' (first | intro _ | refine And.intro ?_ ?_)) <;> first | omega | trivial | assumption | (rename_i hgd; simp only [Bool.and_eq_true, decide_eq_true_eq, and_true] at hgd; omega))
   ·skip
    refine PW.sr [0, 2, 3, 4, 5, 7, 8, 50] 4 trivial ?_
    refine PW.cd (sh == (2 : Int)) (fun hz2 => ?_) (fun hz2 => ?_)
    ·try simp only [boolS, isB_true, isB_false] at hz2
     refine PW.rr [0, 2, 3, 4, 5, 7, 8] 4 trivial ?_
     refine JoinR.of (s1 := { tab := [⟨0, [], I m⟩, ⟨2, [], D.p 0 0 0 0⟩, ⟨3, [], I (p : Int)⟩, ⟨4, [], I sh⟩, ⟨5, [], D.p 1 0 0 0⟩, ⟨7, [], I (u : Int)⟩, ⟨8, [], I 0⟩], mem := [Obj.var 26 [D.v (.slice none 0 0), D.v (.slice none 0 0), I 0, I 0, I 0, I 0, I 0, I 0, I 0, I 0, I 0, I 0, I 0], Obj.var 26 [D.h 2 us.length, D.h 3 ys.length, I cy, I 60, I 100, I 0, I dr, I 300000, I 0, I lo, I 0, I 0, I 12], Obj.row 41 2 us.length (fun j => Part.d (us.getD j default)), Obj.row 43 6 ys.length (fun j => Link.d (ys.getD j default))] }) (0) (by kernel_rfl) (by kernel_rfl) ?_ ?_
     ·exact Rem.refl _
     ·first | (rw [if_pos (by omega)]) | (rw [if_neg (by omega)])
    ·try simp only [boolS, isB_true, isB_false] at hz2
     refine PW.skip ?_
     refine JoinR.of (s1 := { tab := [⟨0, [], I m⟩, ⟨2, [], D.p 0 0 0 0⟩, ⟨3, [], I (p : Int)⟩, ⟨4, [], I sh⟩, ⟨5, [], D.p 1 0 0 0⟩, ⟨7, [], I (u : Int)⟩, ⟨8, [], I ((u - 1 : Nat) : Int)⟩], mem := [Obj.var 26 [D.v (.slice none 0 0), D.v (.slice none 0 0), I 0, I 0, I 0, I 0, I 0, I 0, I 0, I 0, I 0, I 0, I 0], Obj.var 26 [D.h 2 us.length, D.h 3 ys.length, I cy, I 60, I 100, I 0, I dr, I 300000, I 0, I lo, I 0, I 0, I 12], Obj.row 41 2 us.length (fun j => Part.d (us.getD j default)), Obj.row 43 6 ys.length (fun j => Link.d (ys.getD j default))] }) (u - 1) (by kernel_rfl) (by kernel_rfl) ?_ ?_
     ·exact Rem.refl _
     ·first | (rw [if_pos (by omega)]) | (rw [if_neg (by omega)])
  ·try simp only [boolS, isB_true, isB_false] at hz1
   refine PW.exit ?_
   show PW _ _ _ _ _
   refine PW.join (α := List Part × List Link) (fun (ps, ls) => { tab := [⟨0, [], I m⟩, ⟨2, [], D.p 0 0 0 0⟩, ⟨3, [], I (p : Int)⟩, ⟨5, [], D.p 1 0 0 0⟩], mem := [Obj.var 26 [D.v (.slice none 0 0), D.v (.slice none 0 0), I 0, I 0, I 0, I 0, I 0, I 0, I 0, I 0, I 0, I 0, I 0], Obj.var 26 [D.h 2 ps.length, D.h 3 ls.length, I cy, I 60, I 100, I 0, I dr, I 300000, I 0, I lo, I 0, I 0, I 12], Obj.row 41 2 ps.length (fun j => Part.d (ps.getD j default)), Obj.row 43 6 ls.length (fun j => Link.d (ls.getD j default))] }) (fun (ps, ls) => netOf p sh = (ps, ls) ∧ ps.length = p ∧ ls.length ≤ p) [0, 2, 3, 5] 4 ?_ ?_
   ·skip
    rintro ⟨ps, ls⟩ hj
    dsimp only at hj
    show PW _ _ _ _ _
    refine PW.sg ?_
    refine PL.row 7 [0, 2, 3, 5, 9] 4 (s' := { tab := [⟨0, [], I m⟩, ⟨2, [], D.p 0 0 0 0⟩, ⟨3, [], I (p : Int)⟩, ⟨5, [], D.p 1 0 0 0⟩, ⟨9, [], I (IntKind.i64.wrap ((IntKind.i64.wrap ((p : Int) * (IntKind.i64.wrap (lo + 1)))) + 2))⟩], mem := [Obj.var 26 [D.v (.slice none 0 0), D.v (.slice none 0 0), I 0, I 0, I 0, I 0, I 0, I 0, I 0, I 0, I 0, I 0, I 0], Obj.var 26 [D.h 2 ps.length, D.h 3 ls.length, I cy, I 60, I 100, I 0, I dr, I 300000, I 0, I lo, I 0, I 0, I 12], Obj.row 41 2 ps.length (fun j => Part.d (ps.getD j default)), Obj.row 43 6 ls.length (fun j => Link.d (ls.getD j default))] }) (p := True) (by kernel_rfl) (by kernel_rfl) (by kernel_rfl) (by kernel_rfl) (by kernel_rfl) trivial ?_
    refine PL.eq (s' := { tab := [⟨0, [], I m⟩, ⟨2, [], D.p 0 0 0 0⟩, ⟨3, [], I (p : Int)⟩, ⟨5, [], D.p 1 0 0 0⟩, ⟨9, [], I ca⟩], mem := [Obj.var 26 [D.v (.slice none 0 0), D.v (.slice none 0 0), I 0, I 0, I 0, I 0, I 0, I 0, I 0, I 0, I 0, I 0, I 0], Obj.var 26 [D.h 2 ps.length, D.h 3 ls.length, I cy, I 60, I 100, I 0, I dr, I 300000, I 0, I lo, I 0, I 0, I 12], Obj.row 41 2 ps.length (fun j => Part.d (ps.getD j default)), Obj.row 43 6 ls.length (fun j => Link.d (ls.getD j default))] }) (by rw [hca]) ?_
    refine PL.nl ?_
    refine PW.sg ?_
    refine PL.row 13 [0, 2, 5, 9] 4 (s' := { tab := [⟨0, [], I m⟩, ⟨2, [], D.p 0 0 0 0⟩, ⟨5, [], D.p 1 0 0 0⟩, ⟨9, [], I ca⟩], mem := [Obj.var 26 [D.v (.slice none 0 0), D.v (.slice none 0 0), I 0, I 0, I 0, I 0, I 0, I 0, I 0, I 0, I 0, I 0, I 0], Obj.var 26 [D.h 2 ps.length, D.h 3 ls.length, I cy, I 60, I 100, I 0, I dr, I 300000, I (IntKind.i64.wrap ((IntKind.i64.wrap ((IntKind.i64.wrap ((IntKind.i64.wrap ((p : Int) - 1)) * (IntKind.i64.wrap (lo + 1)))) + 1)) + (andI (m.fdiv 2048) 3))), I lo, I 0, I 0, I 12], Obj.row 41 2 ps.length (fun j => Part.d (ps.getD j default)), Obj.row 43 6 ls.length (fun j => Link.d (ls.getD j default))] }) (p := True) (by kernel_rfl) (by kernel_rfl) (by kernel_rfl) (by kernel_rfl) (by kernel_rfl) trivial ?_
    refine PL.eq (s' := { tab := [⟨0, [], I m⟩, ⟨2, [], D.p 0 0 0 0⟩, ⟨5, [], D.p 1 0 0 0⟩, ⟨9, [], I ca⟩], mem := [Obj.var 26 [D.v (.slice none 0 0), D.v (.slice none 0 0), I 0, I 0, I 0, I 0, I 0, I 0, I 0, I 0, I 0, I 0, I 0], Obj.var 26 [D.h 2 ps.length, D.h 3 ls.length, I cy, I 60, I 100, I 0, I dr, I 300000, I ag, I lo, I 0, I 0, I 12], Obj.row 41 2 ps.length (fun j => Part.d (ps.getD j default)), Obj.row 43 6 ls.length (fun j => Link.d (ls.getD j default))] }) (by rw [hag]) ?_
    refine PL.nl ?_
    refine PW.sg ?_
    refine PL.row 7 [2, 5, 9] 4 (s' := { tab := [⟨2, [], D.p 0 0 0 0⟩, ⟨5, [], D.p 1 0 0 0⟩, ⟨9, [], I ca⟩], mem := [Obj.var 26 [D.v (.slice none 0 0), D.v (.slice none 0 0), I 0, I 0, I 0, I 0, I 0, I 0, I 0, I 0, I 0, I 0, I 0], Obj.var 26 [D.h 2 ps.length, D.h 3 ls.length, I cy, I 60, I 100, I 0, I dr, I 300000, I ag, I lo, I (IntKind.i64.wrap (ca + (andI (m.fdiv 8192) 1))), I 0, I 12], Obj.row 41 2 ps.length (fun j => Part.d (ps.getD j default)), Obj.row 43 6 ls.length (fun j => Link.d (ls.getD j default))] }) (p := True) (by kernel_rfl) (by kernel_rfl) (by kernel_rfl) (by kernel_rfl) (by kernel_rfl) trivial ?_
    refine PL.eq (s' := { tab := [⟨2, [], D.p 0 0 0 0⟩, ⟨5, [], D.p 1 0 0 0⟩, ⟨9, [], I ca⟩], mem := [Obj.var 26 [D.v (.slice none 0 0), D.v (.slice none 0 0), I 0, I 0, I 0, I 0, I 0, I 0, I 0, I 0, I 0, I 0, I 0], Obj.var 26 [D.h 2 ps.length, D.h 3 ls.length, I cy, I 60, I 100, I 0, I dr, I 300000, I ag, I lo, I li, I 0, I 12], Obj.row 41 2 ps.length (fun j => Part.d (ps.getD j default)), Obj.row 43 6 ls.length (fun j => Link.d (ls.getD j default))] }) (by rw [hli]) ?_
    refine PL.nl ?_
    refine PW.sg ?_
    refine PL.row 3 [2, 5] 4 (s' := { tab := [⟨2, [], D.p 0 0 0 0⟩, ⟨5, [], D.p 1 0 0 0⟩], mem := [Obj.var 26 [D.v (.slice none 0 0), D.v (.slice none 0 0), I 0, I 0, I 0, I 0, I 0, I 0, I 0, I 0, I 0, I 0, I 0], Obj.var 26 [D.h 2 ps.length, D.h 3 ls.length, I cy, I 60, I 100, I 0, I dr, I 300000, I ag, I lo, I li, I ca, I 12], Obj.row 41 2 ps.length (fun j => Part.d (ps.getD j default)), Obj.row 43 6 ls.length (fun j => Link.d (ls.getD j default))] }) (p := True) (by kernel_rfl) (by kernel_rfl) (by kernel_rfl) (by kernel_rfl) (by kernel_rfl) trivial ?_
    refine PL.eq (s' := { tab := [⟨2, [], D.p 0 0 0 0⟩, ⟨5, [], D.p 1 0 0 0⟩], mem := [Obj.var 26 [D.v (.slice none 0 0), D.v (.slice none 0 0), I 0, I 0, I 0, I 0, I 0, I 0, I 0, I 0, I 0, I 0, I 0], Obj.var 26 [D.h 2 ps.length, D.h 3 ls.length, I cy, I 60, I 100, I 0, I dr, I 300000, I ag, I lo, I li, I ca, I 12], Obj.row 41 2 ps.length (fun j => Part.d (ps.getD j default)), Obj.row 43 6 ls.length (fun j => Link.d (ls.getD j default))] }) (by rfl) ?_
    refine PL.nl ?_
    refine PW.sg ?_
    refine PL.rw 1 [2, 5, 99] 4 trivial ?_
    refine PL.bo (ps := [ps.length ≤ ps.length, ls.length ≤ ls.length]) (show (ps.length ≤ ps.length) ∧ (ls.length ≤ ls.length) from by ((repeat' (first | intro _ | refine And.intro ?_ ?_)) <;> first | omega | trivial | assumption | (rename_i hgd; simp only [Bool.and_eq_true, decide_eq_true_eq, and_true] at hgd; omega))) (drumlineref5_Edge_pc (cfg0 ps ls cy dr ag lo li ca) (by show ps.length < 1000000; omega) (by show ls.length < 1000000; omega)) ?_
    refine PL.row 3 [2, 5] 4 (s' := { tab := [⟨2, [], D.p 0 0 0 0⟩, ⟨5, [], D.p 1 0 0 0⟩], mem := [Obj.var 26 [D.v (.slice none 0 0), D.v (.slice none 0 0), I 0, I 0, I 0, I 0, I 0, I 0, I 0, I 0, I 0, I 0, I 0], Obj.var 26 [D.h 2 ps.length, D.h 3 ls.length, I cy, I 60, I 100, I (IntKind.i64.wrap (3 * (edgeR (cfg0 ps ls cy dr ag lo li ca)))), I dr, I 300000, I ag, I lo, I li, I ca, I 12], Obj.row 41 2 ps.length (fun j => Part.d (ps.getD j default)), Obj.row 43 6 ls.length (fun j => Link.d (ls.getD j default))] }) (p := True) (by kernel_rfl) (by kernel_rfl) (by kernel_rfl) (by kernel_rfl) (by kernel_rfl) trivial ?_
    refine PL.eq (s' := { tab := [⟨2, [], D.p 0 0 0 0⟩, ⟨5, [], D.p 1 0 0 0⟩], mem := [Obj.var 26 [D.v (.slice none 0 0), D.v (.slice none 0 0), I 0, I 0, I 0, I 0, I 0, I 0, I 0, I 0, I 0, I 0, I 0], Obj.var 26 [D.h 2 ps.length, D.h 3 ls.length, I cy, I 60, I 100, I (3 * edgeR (cfg0 ps ls cy dr ag lo li ca)), I dr, I 300000, I ag, I lo, I li, I ca, I 12], Obj.row 41 2 ps.length (fun j => Part.d (ps.getD j default)), Obj.row 43 6 ls.length (fun j => Link.d (ls.getD j default))] }) (by rw [edge3]) ?_
    refine PL.nl ?_
    refine PW.sr [2] 4 trivial ?_
    refine PW.ret ?_
    refine retQ_ret (d := D.r [D.s ps.length 2 (fun j => Part.d (ps.getD j default)), D.s ls.length 6 (fun j => Link.d (ls.getD j default)), I cy, I 60, I 100, I (3 * edgeR (cfg0 ps ls cy dr ag lo li ca)), I dr, I 300000, I ag, I lo, I li, I ca, I 12]) (ps := [ps.length ≤ ps.length, ls.length ≤ ls.length]) (by kernel_rfl) (show (ps.length ≤ ps.length) ∧ (ls.length ≤ ls.length) from by ((repeat' (first | intro _ | refine And.intro ?_ ?_)) <;> first | omega | trivial | assumption | (rename_i hgd; simp only [Bool.and_eq_true, decide_eq_true_eq, and_true] at hgd; omega))) ?_
    rw [hj.1]
    rfl
   ·skip
    refine PW.sr [0, 2, 3, 5, 64] 4 trivial ?_
    refine PW.cd ((sh == (1 : Int)) && (decide ((p : Int) > (2 : Int)))) (fun hz3 => ?_) (fun hz3 => ?_)
    ·try simp only [boolS, isB_true, isB_false] at hz3
     refine PW.open [0, 1, 2, 3] (by kernel_rfl) ?_
     refine PO.tk [0, 2, 3] 9 [0, 2, 3, 5, 65, 68] 6 trivial (fun _ _ h => h) ?_
     refine PO.next (n := 5) [1, 4] (by kernel_rfl) (by simp) ?_
     intro i hi
     simp only [List.mem_cons, List.not_mem_nil, or_false] at hi
     rcases hi with rfl | rfl
     ·skip
      refine PO1.val [0, 2, 3, 5, 66, 68] 4 (s' := { tab := [⟨0, [], I m⟩, ⟨2, [], D.p 0 0 0 0⟩, ⟨3, [], I (p : Int)⟩, ⟨5, [], D.p 1 0 0 0⟩, ⟨66, [], D.h 3 ys.length⟩, ⟨68, [], I (IntKind.i64.wrap ((p : Int) - 1))⟩], mem := [Obj.var 26 [D.v (.slice none 0 0), D.v (.slice none 0 0), I 0, I 0, I 0, I 0, I 0, I 0, I 0, I 0, I 0, I 0, I 0], Obj.var 26 [D.h 2 us.length, D.h 3 ys.length, I cy, I 60, I 100, I 0, I dr, I 300000, I 0, I lo, I 0, I 0, I 12], Obj.row 41 2 us.length (fun j => Part.d (us.getD j default)), Obj.row 43 6 ys.length (fun j => Link.d (ys.getD j default))] }) (p := True) rfl (by kernel_rfl) (by kernel_rfl) (by kernel_rfl) (by kernel_rfl) (by kernel_rfl) (by kernel_rfl) (by kernel_rfl) (by kernel_rfl) (by trivial) ?_
      refine PO.one (n := 4) 4 (by kernel_rfl) ?_
      refine PO1.ci _ (hpm ▸ drumlineref26_joined_pc us ys cy 60 100 0 dr 300000 0 lo 0 0 12 0 (p - 1) (by omega) (by omega) (by omega) (by omega)) ?_ rfl
      rintro _ _ ⟨rfl, rfl⟩
      refine PO.sel [0, 2, 3, 5, 66, 69] 4 rfl (by kernel_rfl) ?_
      refine PO.one (n := 3) 5 (by kernel_rfl) ?_
      refine PO1.mm rfl [0, 2, 3, 5, 66, 70] 5 trivial ?_
      refine PO.one (n := 2) 6 (by kernel_rfl) ?_
      refine PO1.mm rfl [0, 2, 3, 5, 71] 5 (p := ((ys.length = ys.length ∧ 1 ≤ 1) ∧ (ys.length + 1) * 48 ≤ 140737488355328 ∧ ys.length + 1 ≤ 9223372036854775807)) (by omega) ?_
      refine PO.rm 3 (t := 43) (z := 6) (n := (ys.length + 1)) (fun j => if j < ys.length then (fun j => Link.d (ys.getD j default)) j else (fun k => ([[I ((joinL ys 0 (p - 1)).a), I ((joinL ys 0 (p - 1)).b), I ((joinL ys 0 (p - 1)).pa0), I ((joinL ys 0 (p - 1)).pa1), I ((joinL ys 0 (p - 1)).pb0), I ((joinL ys 0 (p - 1)).pb1)]][k]?).getD []) (j - ys.length)) (fun j => Link.d ((ys ++ [(joinL ys 0 (p - 1))]).getD j default)) (fun j hj => by (try dsimp only); rw [getD_app ys [(joinL ys 0 (p - 1))] j default, show ys.length = ys.length from (by (try simp only [List.length_set, List.length_replicate, List.length_append, List.length_cons, List.length_nil]) <;> omega)]; split <;> first | rfl | (rename_i hjn; rw [show j - ys.length = 0 by omega]; rfl)) ?_
      refine PO.tk [7] 2 [0, 2, 3, 5, 71, 72] 1 trivial (fun _ _ h => h) ?_
      refine PO.one (n := 0) 8 (by kernel_rfl) ?_
      refine PO1.mm rfl [0, 2, 3, 5] 5 trivial ?_
      refine PO.done (by kernel_rfl) ?_
      refine JoinR.of (s1 := { tab := [⟨0, [], I m⟩, ⟨2, [], D.p 0 0 0 0⟩, ⟨3, [], I (p : Int)⟩, ⟨5, [], D.p 1 0 0 0⟩], mem := [Obj.var 26 [D.v (.slice none 0 0), D.v (.slice none 0 0), I 0, I 0, I 0, I 0, I 0, I 0, I 0, I 0, I 0, I 0, I 0], Obj.var 26 [D.h 2 us.length, D.h 3 (ys.length + 1), I cy, I 60, I 100, I 0, I dr, I 300000, I 0, I lo, I 0, I 0, I 12], Obj.row 41 2 us.length (fun j => Part.d ((joinP us ys 0 (p - 1)).getD j default)), Obj.row 43 6 (ys.length + 1) (fun j => Link.d ((ys ++ [(joinL ys 0 (p - 1))]).getD j default))] }) (joinP us ys 0 (p - 1), ys ++ [(joinL ys 0 (p - 1))]) (by kernel_rfl) (by kernel_rfl) ?_ ?_
      ·dsimp only
       try simp only [joinP_len, List.length_append, List.length_singleton]
       exact Rem.refl _
      ·dsimp only
       have hpu : p - 1 = u - 1 := by omega
       refine ⟨?_, by (try simp only [joinP_len, List.length_append, List.length_singleton]) <;> omega, by (try simp only [joinP_len, List.length_append, List.length_singleton]) <;> omega⟩
       unfold netOf
       first | (rw [if_pos ⟨by omega, by omega⟩, hpu, hinv2.2.2]; rfl) | (rw [if_neg (by omega), hpu, hinv2.2.2])
     ·skip
      refine PO1.ci _ (hpm ▸ drumlineref26_joined_pc us ys cy 60 100 0 dr 300000 0 lo 0 0 12 0 (p - 1) (by omega) (by omega) (by omega) (by omega)) ?_ rfl
      rintro _ _ ⟨rfl, rfl⟩
      refine PO.sel [0, 2, 3, 5, 65, 69] 4 rfl (by kernel_rfl) ?_
      refine PO.next (n := 4) [1, 5] (by kernel_rfl) (by simp) ?_
      intro i hi
      simp only [List.mem_cons, List.not_mem_nil, or_false] at hi
      rcases hi with rfl | rfl
      ·skip
       refine PO1.val [0, 2, 3, 5, 66, 69] 4 (s' := { tab := [⟨0, [], I m⟩, ⟨2, [], D.p 0 0 0 0⟩, ⟨3, [], I (p : Int)⟩, ⟨5, [], D.p 1 0 0 0⟩, ⟨66, [], D.h 3 ys.length⟩, ⟨69, [], D.r (Link.d (joinL ys 0 (p - 1)))⟩], mem := [Obj.var 26 [D.v (.slice none 0 0), D.v (.slice none 0 0), I 0, I 0, I 0, I 0, I 0, I 0, I 0, I 0, I 0, I 0, I 0], Obj.var 26 [D.h 2 us.length, D.h 3 ys.length, I cy, I 60, I 100, I 0, I dr, I 300000, I 0, I lo, I 0, I 0, I 12], Obj.row 41 2 us.length (fun j => Part.d ((joinP us ys 0 (p - 1)).getD j default)), Obj.row 43 6 ys.length (fun j => Link.d (ys.getD j default))] }) (p := True) rfl (by kernel_rfl) (by kernel_rfl) (by kernel_rfl) (by kernel_rfl) (by kernel_rfl) (by kernel_rfl) (by kernel_rfl) (by kernel_rfl) (by trivial) ?_
       refine PO.one (n := 3) 5 (by kernel_rfl) ?_
       refine PO1.mm rfl [0, 2, 3, 5, 66, 70] 5 trivial ?_
       refine PO.one (n := 2) 6 (by kernel_rfl) ?_
       refine PO1.mm rfl [0, 2, 3, 5, 71] 5 (p := ((ys.length = ys.length ∧ 1 ≤ 1) ∧ (ys.length + 1) * 48 ≤ 140737488355328 ∧ ys.length + 1 ≤ 9223372036854775807)) (by omega) ?_
       refine PO.rm 3 (t := 43) (z := 6) (n := (ys.length + 1)) (fun j => if j < ys.length then (fun j => Link.d (ys.getD j default)) j else (fun k => ([[I ((joinL ys 0 (p - 1)).a), I ((joinL ys 0 (p - 1)).b), I ((joinL ys 0 (p - 1)).pa0), I ((joinL ys 0 (p - 1)).pa1), I ((joinL ys 0 (p - 1)).pb0), I ((joinL ys 0 (p - 1)).pb1)]][k]?).getD []) (j - ys.length)) (fun j => Link.d ((ys ++ [(joinL ys 0 (p - 1))]).getD j default)) (fun j hj => by (try dsimp only); rw [getD_app ys [(joinL ys 0 (p - 1))] j default, show ys.length = ys.length from (by (try simp only [List.length_set, List.length_replicate, List.length_append, List.length_cons, List.length_nil]) <;> omega)]; split <;> first | rfl | (rename_i hjn; rw [show j - ys.length = 0 by omega]; rfl)) ?_
       refine PO.tk [7] 2 [0, 2, 3, 5, 71, 72] 1 trivial (fun _ _ h => h) ?_
       refine PO.one (n := 0) 8 (by kernel_rfl) ?_
       refine PO1.mm rfl [0, 2, 3, 5] 5 trivial ?_
       refine PO.done (by kernel_rfl) ?_
       refine JoinR.of (s1 := { tab := [⟨0, [], I m⟩, ⟨2, [], D.p 0 0 0 0⟩, ⟨3, [], I (p : Int)⟩, ⟨5, [], D.p 1 0 0 0⟩], mem := [Obj.var 26 [D.v (.slice none 0 0), D.v (.slice none 0 0), I 0, I 0, I 0, I 0, I 0, I 0, I 0, I 0, I 0, I 0, I 0], Obj.var 26 [D.h 2 us.length, D.h 3 (ys.length + 1), I cy, I 60, I 100, I 0, I dr, I 300000, I 0, I lo, I 0, I 0, I 12], Obj.row 41 2 us.length (fun j => Part.d ((joinP us ys 0 (p - 1)).getD j default)), Obj.row 43 6 (ys.length + 1) (fun j => Link.d ((ys ++ [(joinL ys 0 (p - 1))]).getD j default))] }) (joinP us ys 0 (p - 1), ys ++ [(joinL ys 0 (p - 1))]) (by kernel_rfl) (by kernel_rfl) ?_ ?_
       ·dsimp only
        try simp only [joinP_len, List.length_append, List.length_singleton]
        exact Rem.refl _
       ·dsimp only
        have hpu : p - 1 = u - 1 := by omega
        refine ⟨?_, by (try simp only [joinP_len, List.length_append, List.length_singleton]) <;> omega, by (try simp only [joinP_len, List.length_append, List.length_singleton]) <;> omega⟩
        unfold netOf
        first | (rw [if_pos ⟨by omega, by omega⟩, hpu, hinv2.2.2]; rfl) | (rw [if_neg (by omega), hpu, hinv2.2.2])
      ·skip
       refine PO1.mm rfl [0, 2, 3, 5, 65, 70] 5 trivial ?_
       refine PO.one (n := 3) 1 (by kernel_rfl) ?_
       refine PO1.val [0, 2, 3, 5, 66, 70] 5 (s' := { tab := [⟨0, [], I m⟩, ⟨2, [], D.p 0 0 0 0⟩, ⟨3, [], I (p : Int)⟩, ⟨5, [], D.p 1 0 0 0⟩, ⟨66, [], D.h 3 ys.length⟩, ⟨70, [], D.h 4 1⟩], mem := [Obj.var 26 [D.v (.slice none 0 0), D.v (.slice none 0 0), I 0, I 0, I 0, I 0, I 0, I 0, I 0, I 0, I 0, I 0, I 0], Obj.var 26 [D.h 2 us.length, D.h 3 ys.length, I cy, I 60, I 100, I 0, I dr, I 300000, I 0, I lo, I 0, I 0, I 12], Obj.row 41 2 us.length (fun j => Part.d ((joinP us ys 0 (p - 1)).getD j default)), Obj.row 43 6 ys.length (fun j => Link.d (ys.getD j default)), Obj.row 43 6 1 (fun k => ([[I ((joinL ys 0 (p - 1)).a), I ((joinL ys 0 (p - 1)).b), I ((joinL ys 0 (p - 1)).pa0), I ((joinL ys 0 (p - 1)).pa1), I ((joinL ys 0 (p - 1)).pb0), I ((joinL ys 0 (p - 1)).pb1)]][k]?).getD [])] }) (p := True) rfl (by kernel_rfl) (by kernel_rfl) (by kernel_rfl) (by kernel_rfl) (by kernel_rfl) (by kernel_rfl) (by kernel_rfl) (by kernel_rfl) (by trivial) ?_
       refine PO.one (n := 2) 6 (by kernel_rfl) ?_
       refine PO1.mm rfl [0, 2, 3, 5, 71] 5 (p := ((ys.length = ys.length ∧ 1 ≤ 1) ∧ (ys.length + 1) * 48 ≤ 140737488355328 ∧ ys.length + 1 ≤ 9223372036854775807)) (by omega) ?_
       refine PO.rm 3 (t := 43) (z := 6) (n := (ys.length + 1)) (fun j => if j < ys.length then (fun j => Link.d (ys.getD j default)) j else (fun k => ([[I ((joinL ys 0 (p - 1)).a), I ((joinL ys 0 (p - 1)).b), I ((joinL ys 0 (p - 1)).pa0), I ((joinL ys 0 (p - 1)).pa1), I ((joinL ys 0 (p - 1)).pb0), I ((joinL ys 0 (p - 1)).pb1)]][k]?).getD []) (j - ys.length)) (fun j => Link.d ((ys ++ [(joinL ys 0 (p - 1))]).getD j default)) (fun j hj => by (try dsimp only); rw [getD_app ys [(joinL ys 0 (p - 1))] j default, show ys.length = ys.length from (by (try simp only [List.length_set, List.length_replicate, List.length_append, List.length_cons, List.length_nil]) <;> omega)]; split <;> first | rfl | (rename_i hjn; rw [show j - ys.length = 0 by omega]; rfl)) ?_
       refine PO.tk [7] 2 [0, 2, 3, 5, 71, 72] 1 trivial (fun _ _ h => h) ?_
       refine PO.one (n := 0) 8 (by kernel_rfl) ?_
       refine PO1.mm rfl [0, 2, 3, 5] 5 trivial ?_
       refine PO.done (by kernel_rfl) ?_
       refine JoinR.of (s1 := { tab := [⟨0, [], I m⟩, ⟨2, [], D.p 0 0 0 0⟩, ⟨3, [], I (p : Int)⟩, ⟨5, [], D.p 1 0 0 0⟩], mem := [Obj.var 26 [D.v (.slice none 0 0), D.v (.slice none 0 0), I 0, I 0, I 0, I 0, I 0, I 0, I 0, I 0, I 0, I 0, I 0], Obj.var 26 [D.h 2 us.length, D.h 3 (ys.length + 1), I cy, I 60, I 100, I 0, I dr, I 300000, I 0, I lo, I 0, I 0, I 12], Obj.row 41 2 us.length (fun j => Part.d ((joinP us ys 0 (p - 1)).getD j default)), Obj.row 43 6 (ys.length + 1) (fun j => Link.d ((ys ++ [(joinL ys 0 (p - 1))]).getD j default))] }) (joinP us ys 0 (p - 1), ys ++ [(joinL ys 0 (p - 1))]) (by kernel_rfl) (by kernel_rfl) ?_ ?_
       ·dsimp only
        try simp only [joinP_len, List.length_append, List.length_singleton]
        exact Rem.refl _
       ·dsimp only
        have hpu : p - 1 = u - 1 := by omega
        refine ⟨?_, by (try simp only [joinP_len, List.length_append, List.length_singleton]) <;> omega, by (try simp only [joinP_len, List.length_append, List.length_singleton]) <;> omega⟩
        unfold netOf
        first | (rw [if_pos ⟨by omega, by omega⟩, hpu, hinv2.2.2]; rfl) | (rw [if_neg (by omega), hpu, hinv2.2.2])
    ·try simp only [boolS, isB_true, isB_false] at hz3
     refine PW.skip ?_
     refine JoinR.of (s1 := { tab := [⟨0, [], I m⟩, ⟨2, [], D.p 0 0 0 0⟩, ⟨3, [], I (p : Int)⟩, ⟨5, [], D.p 1 0 0 0⟩], mem := [Obj.var 26 [D.v (.slice none 0 0), D.v (.slice none 0 0), I 0, I 0, I 0, I 0, I 0, I 0, I 0, I 0, I 0, I 0, I 0], Obj.var 26 [D.h 2 us.length, D.h 3 ys.length, I cy, I 60, I 100, I 0, I dr, I 300000, I 0, I lo, I 0, I 0, I 12], Obj.row 41 2 us.length (fun j => Part.d (us.getD j default)), Obj.row 43 6 ys.length (fun j => Link.d (ys.getD j default))] }) (us, ys) (by kernel_rfl) (by kernel_rfl) ?_ ?_
     ·dsimp only
      try simp only [joinP_len, List.length_append, List.length_singleton]
      exact Rem.refl _
     ·dsimp only
      have hpu : p - 1 = u - 1 := by omega
      refine ⟨?_, by (try simp only [joinP_len, List.length_append, List.length_singleton]) <;> omega, by (try simp only [joinP_len, List.length_append, List.length_singleton]) <;> omega⟩
      unfold netOf
      first | (rw [if_pos ⟨by omega, by omega⟩, hpu, hinv2.2.2]; rfl) | (rw [if_neg (by omega), hpu, hinv2.2.2])
end Go.Proofs.YtagdeldgpkjjjaaDoor.Pl
