/- Package table's Find, Which; the document's own Slots, Find, Which. -/
import Derived.Test.YtaoobnikeicceaaGreatDoorTbTwo
import Derived.Test.YtaoobnikeicceaaGreatDoorPlRef
import Derived.Test.YtaoobnikeicceaaGreatDoorDpC
namespace Go.Proofs.YtaoobnikeicceaaGreatDoor.Pl
open Go.RowKit Go.Proofs.YtaoobnikeicceaaGreatDoor.Sm Go.Proofs.YtaoobnikeicceaaGreatDoor.Dp
set_option maxHeartbeats 4000000
set_option maxRecDepth 100000
set_option linter.unusedVariables false
set_option linter.unusedSimpArgs false
theorem table_Find1_pc (s : Slot) (kd nd : Int) : PC Tryz.prog [] 25 [D.r (Slot.d s), D.q [I kd] 0, D.q [I nd] 0] (· = D.v (.bool (atB kd nd s))) := by
 refine PC.of (N := 15) Tryz.func25 rfl rfl (Nat.le_of_ble_eq_true rfl) ?_
 refine PW.sr [1, 2, 3] 1 trivial ?_
 refine PW.sr [4] 1 trivial ?_
 refine PW.ret ?_
 refine retQ_ret (d := D.v (.bool ((s.kind == kd) && (s.node == nd)))) (ps := []) (by kernel_rfl) trivial ?_
 rfl
theorem index_Find_pc (ls : List Slot) (hl : ls.length < 1000000) (kd nd : Int) : PC Tryz.prog [] 24 [sl' 3 Slot.d ls, D.c 25 [D.q [I kd] 0, D.q [I nd] 0]] (· = I (seekI (fun i => atB kd nd (ls.getD i default)) ls.length 0)) := by
 refine PC.of (N := 19) Tryz.func24 rfl rfl (Nat.le_of_ble_eq_true rfl) ?_
 refine PW.sr [0, 1] 0 trivial ?_
 refine PW.seq ?_
 refine PW.sr [0, 1, 7, 8] 0 trivial ?_
 refine PW.block ?_
 refine PW.lp (α := Nat) (fun i => { tab := [⟨0, [], sl' 3 Slot.d ls⟩, ⟨1, [], D.c 25 [D.q [I kd] 0, D.q [I nd] 0]⟩, ⟨7, [], I (ls.length : Int)⟩, ⟨8, [], I (i : Int)⟩], mem := [] }) (fun i => i ≤ ls.length ∧ seekI (fun i => atB kd nd (ls.getD i default)) ls.length 0 = seekI (fun i => atB kd nd (ls.getD i default)) (ls.length - i) i) (fun i => ls.length - i) [0, 1, 7, 8] 0 (0) ?_ ?_
 ·exact ⟨Nat.zero_le _, rfl⟩
 rintro i hinv
 show PW _ _ _ _ _
 refine PW.sr [0, 1, 7, 8, 9] 0 trivial ?_
 refine PW.seq ?_
 refine PW.cd (decide ((i : Int) < (ls.length : Int))) (fun hz0 => ?_) (fun hz0 => ?_)
 ·try simp only [boolS, isB_true, isB_false] at hz0
  refine PW.skip ?_
  show PW _ _ _ _ _
  refine PW.seq ?_
  refine PW.block ?_
  refine PW.sr [0, 1, 5, 7, 8] 0 trivial ?_
  refine PW.sg ?_
  refine PL.rw 5 [0, 1, 5, 7, 8, 11, 15] 0 (p := (0 ≤ (i : Int) ∧ (i : Int) < (ls.length : Int))) (by omega) ?_
  refine PL.gc (A := []) (fun _ => table_Find1_pc (ls.getD i default) kd nd) ?_
  refine PL.nl ?_
  refine PW.cd (atB kd nd (ls.getD i default)) (fun hz1 => ?_) (fun hz1 => ?_)
  ·try simp only [boolS, isB_true, isB_false] at hz1
   refine PW.sr [4] 0 trivial ?_
   refine PW.ret ?_
   refine retQ_ret (d := I (i : Int)) (ps := []) (by kernel_rfl) trivial ?_
   show I _ = I _
   rw [hinv.2, show ls.length - i = (ls.length - i - 1) + 1 by omega, seekI, if_pos hz1]
  ·try simp only [boolS, isB_true, isB_false] at hz1
   refine PW.skip ?_
   show PW _ _ _ _ _
   refine PW.rr [0, 1, 7, 8] 0 trivial ?_
   refine BackR.of (s1 := { tab := [⟨0, [], sl' 3 Slot.d ls⟩, ⟨1, [], D.c 25 [D.q [I kd] 0, D.q [I nd] 0]⟩, ⟨7, [], I (ls.length : Int)⟩, ⟨8, [], I (IntKind.i64.wrap ((i : Int) + 1))⟩], mem := [] }) (i + 1) (by kernel_rfl) (by kernel_rfl) ?_ ?_ ?_
   ·rw [wrap1 i (by omega)]
    exact Rem.refl _
   ·refine ⟨by omega, ?_⟩
    rw [hinv.2, show ls.length - i = (ls.length - (i + 1)) + 1 by omega, seekI, if_neg (by rw [hz1]; decide)]
   ·((repeat' (first | intro _ | refine And.intro ?_ ?_)) <;> first | omega | trivial | assumption | (rename_i hgd; simp only [Bool.and_eq_true, decide_eq_true_eq, and_true] at hgd; omega))
 ·try simp only [boolS, isB_true, isB_false] at hz0
  refine PW.exit ?_
  show PW _ _ _ _ _
  refine PW.sr [4] 0 trivial ?_
  refine PW.ret ?_
  refine retQ_ret (d := I (-1)) (ps := []) (by kernel_rfl) trivial ?_
  show I _ = I _
  rw [hinv.2, show ls.length - i = 0 by omega, seekI]
theorem table_Find_pc (e : Nat → Addr) (hA : Apart e) (c : Config) (part kd nd : Int) (hp0 : c.parts.length < 1000000) (hl0 : c.links.length < 1000000) : PC Tryz.prog (errG3 e) 12 [D.r (Config.d c), I part, I kd, I nd] (· = I (findI c part kd nd)) := by
 refine PC.of (N := 14) Tryz.func12 rfl rfl (Nat.le_of_ble_eq_true rfl) ?_
 refine PW.sr [1, 4, 6, 7] 3 trivial ?_
 refine PW.sg ?_
 refine PL.rw 2 [6, 7, 9, 10] 3 trivial ?_
 refine PL.gc (A := []) (fun _ => (table_Slots_pc0 e hA c part hp0 hl0).list) ?_
 refine PL.sl [6, 7, 11] 3 ?_
 refine PL.fz 1 (t := 3) [I kd] ?_
 refine PL.fz 2 (t := 3) [I nd] ?_
 refine PL.mk (f := 25) (cap := #[.tmp 6, .tmp 7]) [D.q [I kd] 0, D.q [I nd] 0] ?_
 refine PL.gc (G := (errG3 e)) (A := []) (fun _ => PC.more (index_Find_pc (slotsOf c part) (by have := slotsOf_len c part; omega) kd nd)) ?_
 refine PL.rw 1 [8] 3 trivial ?_
 refine PL.nl ?_
 refine PW.ret ?_
 refine retQ_ret (d := I (findI c part kd nd)) (ps := []) (by kernel_rfl) trivial ?_
 rfl
theorem table_Which1_pc (s : Slot) (t : Int) (c : Config) : PC Tryz.prog [] 26 [D.r (Slot.d s), D.q [I t] 0, D.q (Config.d c) 0] (· = D.v (.bool (inB c.window t s))) := by
 refine PC.of (N := 21) Tryz.func26 rfl rfl (Nat.le_of_ble_eq_true rfl) ?_
 refine PW.sr [1, 2, 3] 1 trivial ?_
 refine PW.sr [4] 1 trivial ?_
 refine PW.ret ?_
 refine retQ_ret (d := D.v (.bool ((decide (t ≥ (IntKind.i64.wrap (s.at_ - c.window)))) && (decide (t ≤ (IntKind.i64.wrap (s.at_ + c.window))))))) (ps := []) (by kernel_rfl) trivial ?_
 rfl
theorem index_Which_pc (ls : List Slot) (hl : ls.length < 1000000) (t : Int) (c : Config) : PC Tryz.prog [] 24 [sl' 3 Slot.d ls, D.c 26 [D.q [I t] 0, D.q (Config.d c) 0]] (· = I (seekI (fun i => inB c.window t (ls.getD i default)) ls.length 0)) := by
 refine PC.of (N := 19) Tryz.func24 rfl rfl (Nat.le_of_ble_eq_true rfl) ?_
 refine PW.sr [0, 1] 0 trivial ?_
 refine PW.seq ?_
 refine PW.sr [0, 1, 7, 8] 0 trivial ?_
 refine PW.block ?_
 refine PW.lp (α := Nat) (fun i => { tab := [⟨0, [], sl' 3 Slot.d ls⟩, ⟨1, [], D.c 26 [D.q [I t] 0, D.q (Config.d c) 0]⟩, ⟨7, [], I (ls.length : Int)⟩, ⟨8, [], I (i : Int)⟩], mem := [] }) (fun i => i ≤ ls.length ∧ seekI (fun i => inB c.window t (ls.getD i default)) ls.length 0 = seekI (fun i => inB c.window t (ls.getD i default)) (ls.length - i) i) (fun i => ls.length - i) [0, 1, 7, 8] 0 (0) ?_ ?_
 ·exact ⟨Nat.zero_le _, rfl⟩
 rintro i hinv
 show PW _ _ _ _ _
 refine PW.sr [0, 1, 7, 8, 9] 0 trivial ?_
 refine PW.seq ?_
 refine PW.cd (decide ((i : Int) < (ls.length : Int))) (fun hz0 => ?_) (fun hz0 => ?_)
 ·try simp only [boolS, isB_true, isB_false] at hz0
  refine PW.skip ?_
  show PW _ _ _ _ _
  refine PW.seq ?_
  refine PW.block ?_
  refine PW.sr [0, 1, 5, 7, 8] 0 trivial ?_
  refine PW.sg ?_
  refine PL.rw 5 [0, 1, 5, 7, 8, 11, 15] 0 (p := (0 ≤ (i : Int) ∧ (i : Int) < (ls.length : Int))) (by omega) ?_
  refine PL.gc (A := []) (fun _ => table_Which1_pc (ls.getD i default) t c) ?_
  refine PL.nl ?_
  refine PW.cd (inB c.window t (ls.getD i default)) (fun hz1 => ?_) (fun hz1 => ?_)
  ·try simp only [boolS, isB_true, isB_false] at hz1
   refine PW.sr [4] 0 trivial ?_
   refine PW.ret ?_
   refine retQ_ret (d := I (i : Int)) (ps := []) (by kernel_rfl) trivial ?_
   show I _ = I _
   rw [hinv.2, show ls.length - i = (ls.length - i - 1) + 1 by omega, seekI, if_pos hz1]
  ·try simp only [boolS, isB_true, isB_false] at hz1
   refine PW.skip ?_
   show PW _ _ _ _ _
   refine PW.rr [0, 1, 7, 8] 0 trivial ?_
   refine BackR.of (s1 := { tab := [⟨0, [], sl' 3 Slot.d ls⟩, ⟨1, [], D.c 26 [D.q [I t] 0, D.q (Config.d c) 0]⟩, ⟨7, [], I (ls.length : Int)⟩, ⟨8, [], I (IntKind.i64.wrap ((i : Int) + 1))⟩], mem := [] }) (i + 1) (by kernel_rfl) (by kernel_rfl) ?_ ?_ ?_
   ·rw [wrap1 i (by omega)]
    exact Rem.refl _
   ·refine ⟨by omega, ?_⟩
    rw [hinv.2, show ls.length - i = (ls.length - (i + 1)) + 1 by omega, seekI, if_neg (by rw [hz1]; decide)]
   ·((repeat' (first | intro _ | refine And.intro ?_ ?_)) <;> first | omega | trivial | assumption | (rename_i hgd; simp only [Bool.and_eq_true, decide_eq_true_eq, and_true] at hgd; omega))
 ·try simp only [boolS, isB_true, isB_false] at hz0
  refine PW.exit ?_
  show PW _ _ _ _ _
  refine PW.sr [4] 0 trivial ?_
  refine PW.ret ?_
  refine retQ_ret (d := I (-1)) (ps := []) (by kernel_rfl) trivial ?_
  show I _ = I _
  rw [hinv.2, show ls.length - i = 0 by omega, seekI]
theorem table_Which_pc (e : Nat → Addr) (hA : Apart e) (c : Config) (part t : Int) (hp0 : c.parts.length < 1000000) (hl0 : c.links.length < 1000000) : PC Tryz.prog (errG3 e) 14 [D.r (Config.d c), I part, I t] (· = I (whichI c part t)) := by
 refine PC.of (N := 12) Tryz.func14 rfl rfl (Nat.le_of_ble_eq_true rfl) ?_
 refine PW.sr [1, 3, 5] 2 trivial ?_
 refine PW.sg ?_
 refine PL.rw 2 [3, 5, 7, 8] 2 trivial ?_
 refine PL.gc (A := []) (fun _ => (table_Slots_pc0 e hA c part hp0 hl0).list) ?_
 refine PL.sl [3, 5, 9] 2 ?_
 refine PL.fz 1 (t := 3) [I t] ?_
 refine PL.fz 0 (t := 25) (Config.d c) ?_
 refine PL.mk (f := 26) (cap := #[.tmp 5, .tmp 3]) [D.q [I t] 0, D.q (Config.d c) 0] ?_
 refine PL.gc (G := (errG3 e)) (A := []) (fun _ => PC.more (index_Which_pc (slotsOf c part) (by have := slotsOf_len c part; omega) t c)) ?_
 refine PL.rw 1 [6] 2 trivial ?_
 refine PL.nl ?_
 refine PW.ret ?_
 refine retQ_ret (d := I (whichI c part t)) (ps := []) (by kernel_rfl) trivial ?_
 rfl
theorem zL_push' {xs : List Slot} {ks : List (Int × Int)} (h : xs = zL ks) (k : Int × Int) : xs ++ [⟨k.1, k.2, 0⟩] = zL (ks ++ [k]) := by rw [h]; exact zL_push ks k
theorem zL_push2 {xs : List Slot} {ks : List (Int × Int)} (h : xs = zL ks) (k q : Int × Int) : xs ++ [⟨k.1, k.2, 0⟩, ⟨q.1, q.2, 0⟩] = zL (ks ++ [k] ++ [q]) := by
  rw [← zL_push' (zL_push' h k) q, List.append_assoc]
  rfl
theorem drumlineref5_Slots_pc0 (c : Config) (part : Int) (hp0 : c.parts.length < 1000000) (hl0 : c.links.length < 1000000) : PC Tryz.prog [] 11 [D.r (Config.d c), I part] (fun d => d = sl' 3 Slot.d (slotsOf c part) ∨ (d = D.v (.slice none 0 0) ∧ slotsOf c part = [])) := by
 refine PC.of (N := 87) Tryz.func11 rfl rfl (Nat.le_of_ble_eq_true rfl) ?_
 have hpl := portsOf_len c part
 refine PW.sr [1, 2] 1 trivial ?_
 refine PW.seq ?_
 refine PW.sg ?_
 refine PL.rw 2 [1, 2, 11, 12] 1 trivial ?_
 refine PL.gc (d := D.v (.bool (fitB c && isB part c.parts.length))) (A := []) (fun _ => (drumlineref5_Fit_pc c part hp0 hl0).eq (by rw [fits_beq])) ?_
 refine PL.rw 1 [1, 2, 14] 1 trivial ?_
 refine PL.nl ?_
 refine PW.cd (!(fitB c && isB part c.parts.length)) (fun hz0 => ?_) (fun hz0 => ?_)
 ·try simp only [boolS, isB_true, isB_false] at hz0
  try have hfB : fitB c = true ∧ isB part c.parts.length = true := ⟨hz0.1, by rw [isB_true]; omega⟩
  try have hnn : 1 ≤ nodesI c part ∧ nodesI c part ≤ 12 := tnodes_in hfB.1 hfB.2
  try have hni : nodesI c part = (c.parts.getD part.toNat default).nodes := rfl
  refine PW.sr [4] 1 trivial ?_
  refine PW.ret ?_
  refine retQ_ret (d := D.v (.slice none 0 0)) (ps := []) (by kernel_rfl) trivial ?_
  refine .inr ⟨rfl, if_neg fun h => ?_⟩
  have h2 := h.2
  rw [isB_true] at h2
  have h3 := h.1
  simp [h3] at hz0
  omega
 ·try simp only [boolS, isB_true, isB_false] at hz0
  try have hfB : fitB c = true ∧ isB part c.parts.length = true := ⟨hz0.1, by rw [isB_true]; omega⟩
  try have hnn : 1 ≤ nodesI c part ∧ nodesI c part ≤ 12 := tnodes_in hfB.1 hfB.2
  try have hni : nodesI c part = (c.parts.getD part.toNat default).nodes := rfl
  refine PW.skip ?_
  show PW _ _ _ _ _
  refine PW.sr [1, 2, 5] 1 trivial ?_
  refine PW.sg ?_
  refine PL.rw 2 [1, 2, 5, 15, 16] 1 trivial ?_
  refine PL.gc (A := []) (fun _ => (drumlineref5_Ports_pc0 c part hp0 hl0).list) ?_
  refine PL.rw 1 [1, 2, 5, 6] 1 trivial ?_
  refine PL.nl ?_
  refine PW.seq ?_
  refine PW.sr [1, 2, 5, 6, 7] 1 trivial ?_
  refine PW.block ?_
  refine PW.born 5 37 3 (by kernel_rfl) ?_
  refine PW.loopR (α := Nat × List Slot) (fun (i, xs) => { tab := [⟨1, [], I part⟩, ⟨2, [], D.p 0 0 0 0⟩, ⟨5, [], D.h 1 xs.length⟩, ⟨6, [], sl' 4 Port.d (portsOf c part)⟩, ⟨7, [], I (i : Int)⟩], mem := [Obj.var 25 (Config.d c), Obj.row 37 3 xs.length (fun j => Slot.d (xs.getD j default))] }) (fun (i, xs) => i ≤ (portsOf c part).length ∧ xs = zL (gates ((portsOf c part).take i))) (fun (i, xs) => (portsOf c part).length - i) [1, 2, 5, 6, 7] 2 (0, []) (s1 := { tab := [⟨1, [], I part⟩, ⟨2, [], D.p 0 0 0 0⟩, ⟨5, [], D.h 1 0⟩, ⟨6, [], sl' 4 Port.d (portsOf c part)⟩, ⟨7, [], I 0⟩], mem := [Obj.var 25 (Config.d c), Obj.row 37 3 0 (fun _ => [])] }) (by kernel_rfl) (by kernel_rfl) ?_ ?_ ?_
  ·dsimp only
   exact ⟨rfl, rfl, rfl, (.same (.row rfl (fun j hj => absurd hj (Nat.not_lt_zero _)) .nil))⟩
  ·dsimp only
   exact ⟨Nat.zero_le _, rfl⟩
  rintro ⟨i, xs⟩ hinv
  dsimp only at hinv
  have hxl : xs.length = 2 * i := by rw [hinv.2]; simp only [zL_len, gates_len, List.length_take]; omega
  show PW _ _ _ _ _
  refine PW.seq ?_
  refine PW.sr [1, 2, 5, 6, 7, 21] 2 trivial ?_
  refine PW.cd (decide ((i : Int) < ((portsOf c part).length : Int))) (fun hz1 => ?_) (fun hz1 => ?_)
  ·try simp only [boolS, isB_true, isB_false] at hz1
   try have hfB : fitB c = true ∧ isB part c.parts.length = true := ⟨hz0.1, by rw [isB_true]; omega⟩
   try have hnn : 1 ≤ nodesI c part ∧ nodesI c part ≤ 12 := tnodes_in hfB.1 hfB.2
   try have hni : nodesI c part = (c.parts.getD part.toNat default).nodes := rfl
   refine PW.skip ?_
   show PW _ _ _ _ _
   refine PW.seq ?_
   refine PW.block ?_
   refine PW.open [1] (by kernel_rfl) ?_
   refine PO.tk [0, 1, 2, 3, 4, 5, 6, 7, 8, 9, 10, 11, 12] 16 [1, 2, 5, 6, 7, 24, 30, 36] 3 (p := (0 ≤ (i : Int) ∧ (i : Int) < ((portsOf c part).length : Int)) ∧ (0 ≤ (i : Int) ∧ (i : Int) < ((portsOf c part).length : Int))) (by omega) (fun _ _ h => h) ?_
   refine PO.one (n := 2) 13 (by kernel_rfl) ?_
   refine PO1.mm rfl [1, 2, 5, 6, 7, 24, 37] 3 trivial ?_
   refine PO.one (n := 1) 14 (by kernel_rfl) ?_
   refine PO1.mm rfl [1, 2, 5, 6, 7, 38] 3 (p := ((xs.length = xs.length ∧ 2 ≤ 2) ∧ (xs.length + 2) * 24 ≤ 140737488355328 ∧ xs.length + 2 ≤ 9223372036854775807)) (by omega) ?_
   refine PO.rm 1 (t := 37) (z := 3) (n := (xs.length + 2)) (fun j => if j < xs.length then (fun j => Slot.d (xs.getD j default)) j else (fun k => ([[I 3, I (((portsOf c part).getD i default).node), I 0], [I 4, I (((portsOf c part).getD i default).node), I 0]][k]?).getD []) (j - xs.length)) (fun j => Slot.d ((xs ++ [(⟨3, ((portsOf c part).getD i default).node, 0⟩ : Slot), (⟨4, ((portsOf c part).getD i default).node, 0⟩ : Slot)]).getD j default)) (fun j hj => by (try dsimp only); rw [getD_app xs [(⟨3, ((portsOf c part).getD i default).node, 0⟩ : Slot), (⟨4, ((portsOf c part).getD i default).node, 0⟩ : Slot)] j default, show xs.length = xs.length from (by (try simp only [List.length_set, List.length_replicate, List.length_append, List.length_cons, List.length_nil]) <;> omega)]; split <;> first | rfl | (rename_i hjn; have hjk : j - xs.length = 0 ∨ j - xs.length = 1 := (by omega); rcases hjk with hjk | hjk <;> rw [hjk] <;> rfl)) ?_
   refine PO.tk [15] 1 [1, 2, 5, 6, 7] 0 trivial (fun _ _ h => h) ?_
   refine PO.done (by kernel_rfl) ?_
   show PW _ _ _ _ _
   refine PW.rr [1, 2, 5, 6, 7] 3 trivial ?_
   refine BackR.of (s1 := { tab := [⟨1, [], I part⟩, ⟨2, [], D.p 0 0 0 0⟩, ⟨5, [], D.h 1 (xs.length + 2)⟩, ⟨6, [], sl' 4 Port.d (portsOf c part)⟩, ⟨7, [], I (IntKind.i64.wrap ((i : Int) + 1))⟩], mem := [Obj.var 25 (Config.d c), Obj.row 37 3 (xs.length + 2) (fun j => Slot.d ((xs ++ [(⟨3, ((portsOf c part).getD i default).node, 0⟩ : Slot), (⟨4, ((portsOf c part).getD i default).node, 0⟩ : Slot)]).getD j default))] }) (i + 1, xs ++ [(⟨3, ((portsOf c part).getD i default).node, 0⟩ : Slot), (⟨4, ((portsOf c part).getD i default).node, 0⟩ : Slot)]) (by kernel_rfl) (by kernel_rfl) ?_ ?_ ?_
   ·dsimp only
    rw [wrap1 i (by omega)]
    try simp only [List.length_append, List.length_singleton, List.length_cons, List.length_nil, List.length_set]
    exact Rem.refl _
   ·dsimp only
    exact ⟨by omega, by rw [gates_one _ (by omega)]; exact zL_push2 hinv.2 (3, _) (4, _)⟩
   ·dsimp only
    ((repeat' (first | intro _ | refine And.intro ?_ ?_)) <;> first | omega | trivial | assumption | (rename_i hgd; simp only [Bool.and_eq_true, decide_eq_true_eq, and_true] at hgd; omega))
  ·try simp only [boolS, isB_true, isB_false] at hz1
   try have hfB : fitB c = true ∧ isB part c.parts.length = true := ⟨hz0.1, by rw [isB_true]; omega⟩
   try have hnn : 1 ≤ nodesI c part ∧ nodesI c part ≤ 12 := tnodes_in hfB.1 hfB.2
   try have hni : nodesI c part = (c.parts.getD part.toNat default).nodes := rfl
   refine PW.exit ?_
   show PW _ _ _ _ _
   refine PW.seq ?_
   refine PW.sr [1, 2, 5, 6, 8] 2 trivial ?_
   refine PW.block ?_
   refine PW.lp (α := Nat × List Slot) (fun (i, xs) => { tab := [⟨1, [], I part⟩, ⟨2, [], D.p 0 0 0 0⟩, ⟨5, [], D.h 1 xs.length⟩, ⟨6, [], sl' 4 Port.d (portsOf c part)⟩, ⟨8, [], I (i : Int)⟩], mem := [Obj.var 25 (Config.d c), Obj.row 37 3 xs.length (fun j => Slot.d (xs.getD j default))] }) (fun (i, xs) => i ≤ (nodesI c part).toNat ∧ xs = zL (gates (portsOf c part) ++ syncs i)) (fun (i, xs) => (nodesI c part).toNat - i) [1, 2, 5, 6, 8] 2 (0, xs) ?_ ?_
   ·dsimp only
    exact ⟨Nat.zero_le _, by rw [hinv.2, show i = (portsOf c part).length by omega, List.take_length]; simp [syncs]⟩
   rintro ⟨i, xs⟩ hinv
   dsimp only at hinv
   have hxl : xs.length = 2 * (portsOf c part).length + i := by rw [hinv.2]; simp only [zL_len, List.length_append, gates_len, syncs_len]
   show PW _ _ _ _ _
   refine PW.seq ?_
   refine PW.sr [1, 2, 5, 6, 8, 46] 2 (p := (0 ≤ part ∧ part < (c.parts.length : Int))) (by omega) ?_
   refine PW.cd (decide ((i : Int) < ((c.parts.getD part.toNat default).nodes))) (fun hz2 => ?_) (fun hz2 => ?_)
   ·try simp only [boolS, isB_true, isB_false] at hz2
    try have hfB : fitB c = true ∧ isB part c.parts.length = true := ⟨hz0.1, by rw [isB_true]; omega⟩
    try have hnn : 1 ≤ nodesI c part ∧ nodesI c part ≤ 12 := tnodes_in hfB.1 hfB.2
    try have hni : nodesI c part = (c.parts.getD part.toNat default).nodes := rfl
    refine PW.skip ?_
    show PW _ _ _ _ _
    refine PW.seq ?_
    refine PW.block ?_
    refine PW.region ?_
    refine PL.rw 5 [1, 2, 6, 8, 53] 3 (p := ((xs.length = xs.length ∧ 1 ≤ 1) ∧ (xs.length + 1) * 24 ≤ 140737488355328 ∧ xs.length + 1 ≤ 9223372036854775807)) (by omega) ?_
    refine PL.rm 1 (t := 37) (z := 3) (n := (xs.length + 1)) (fun j => if j < xs.length then (fun j => Slot.d (xs.getD j default)) j else (fun k => ([[I 2, I (i : Int), I 0]][k]?).getD []) (j - xs.length)) (fun j => Slot.d ((xs ++ [(⟨2, (i : Int), 0⟩ : Slot)]).getD j default)) (fun j hj => by (try dsimp only); rw [getD_app xs [(⟨2, (i : Int), 0⟩ : Slot)] j default, show xs.length = xs.length from (by (try simp only [List.length_set, List.length_replicate, List.length_append, List.length_cons, List.length_nil]) <;> omega)]; split <;> first | rfl | (rename_i hjn; rw [show j - xs.length = 0 by omega]; rfl)) ?_
    refine PL.rw 1 [1, 2, 5, 6, 8] 3 trivial ?_
    refine PL.nil ?_
    show PW _ _ _ _ _
    refine PW.rr [1, 2, 5, 6, 8] 3 trivial ?_
    refine BackR.of (s1 := { tab := [⟨1, [], I part⟩, ⟨2, [], D.p 0 0 0 0⟩, ⟨5, [], D.h 1 (xs.length + 1)⟩, ⟨6, [], sl' 4 Port.d (portsOf c part)⟩, ⟨8, [], I (IntKind.i64.wrap ((i : Int) + 1))⟩], mem := [Obj.var 25 (Config.d c), Obj.row 37 3 (xs.length + 1) (fun j => Slot.d ((xs ++ [(⟨2, (i : Int), 0⟩ : Slot)]).getD j default))] }) (i + 1, xs ++ [(⟨2, (i : Int), 0⟩ : Slot)]) (by kernel_rfl) (by kernel_rfl) ?_ ?_ ?_
    ·dsimp only
     rw [wrap1 i (by omega)]
     try simp only [List.length_append, List.length_singleton, List.length_cons, List.length_nil, List.length_set]
     exact Rem.refl _
    ·dsimp only
     exact ⟨by omega, by rw [syncs_one, ← List.append_assoc]; exact zL_push' hinv.2 (2, _)⟩
    ·dsimp only
     ((repeat' (first | intro _ | refine And.intro ?_ ?_)) <;> first | omega | trivial | assumption | (rename_i hgd; simp only [Bool.and_eq_true, decide_eq_true_eq, and_true] at hgd; omega))
   ·try simp only [boolS, isB_true, isB_false] at hz2
    try have hfB : fitB c = true ∧ isB part c.parts.length = true := ⟨hz0.1, by rw [isB_true]; omega⟩
    try have hnn : 1 ≤ nodesI c part ∧ nodesI c part ≤ 12 := tnodes_in hfB.1 hfB.2
    try have hni : nodesI c part = (c.parts.getD part.toNat default).nodes := rfl
    refine PW.exit ?_
    show PW _ _ _ _ _
    refine PW.seq ?_
    refine PW.sr [2, 5, 6, 9] 2 trivial ?_
    refine PW.block ?_
    refine PW.lp (α := Nat × List Slot) (fun (i, xs) => { tab := [⟨2, [], D.p 0 0 0 0⟩, ⟨5, [], D.h 1 xs.length⟩, ⟨6, [], sl' 4 Port.d (portsOf c part)⟩, ⟨9, [], I (i : Int)⟩], mem := [Obj.var 25 (Config.d c), Obj.row 37 3 xs.length (fun j => Slot.d (xs.getD j default))] }) (fun (i, xs) => i ≤ (portsOf c part).length ∧ xs = zL (gates (portsOf c part) ++ syncs (nodesI c part).toNat ++ datas ((portsOf c part).take i))) (fun (i, xs) => (portsOf c part).length - i) [2, 5, 6, 9] 2 (0, xs) ?_ ?_
    ·dsimp only
     exact ⟨Nat.zero_le _, by rw [hinv.2, show i = (nodesI c part).toNat by omega]; (try simp [datas])⟩
    rintro ⟨i, xs⟩ hinv
    dsimp only at hinv
    have hxl : xs.length = 2 * (portsOf c part).length + (nodesI c part).toNat + i := by rw [hinv.2]; simp only [zL_len, List.length_append, gates_len, syncs_len, datas_len, List.length_take]; omega
    show PW _ _ _ _ _
    refine PW.seq ?_
    refine PW.sr [2, 5, 6, 9, 57] 2 trivial ?_
    refine PW.cd (decide ((i : Int) < ((portsOf c part).length : Int))) (fun hz3 => ?_) (fun hz3 => ?_)
    ·try simp only [boolS, isB_true, isB_false] at hz3
     try have hfB : fitB c = true ∧ isB part c.parts.length = true := ⟨hz0.1, by rw [isB_true]; omega⟩
     try have hnn : 1 ≤ nodesI c part ∧ nodesI c part ≤ 12 := tnodes_in hfB.1 hfB.2
     try have hni : nodesI c part = (c.parts.getD part.toNat default).nodes := rfl
     refine PW.skip ?_
     show PW _ _ _ _ _
     refine PW.seq ?_
     refine PW.block ?_
     refine PW.region ?_
     refine PL.rw 9 [2, 6, 9, 68] 3 (p := (0 ≤ (i : Int) ∧ (i : Int) < ((portsOf c part).length : Int)) ∧ ((xs.length = xs.length ∧ 1 ≤ 1) ∧ (xs.length + 1) * 24 ≤ 140737488355328 ∧ xs.length + 1 ≤ 9223372036854775807)) (by omega) ?_
     refine PL.rm 1 (t := 37) (z := 3) (n := (xs.length + 1)) (fun j => if j < xs.length then (fun j => Slot.d (xs.getD j default)) j else (fun k => ([[I 5, I (((portsOf c part).getD i default).node), I 0]][k]?).getD []) (j - xs.length)) (fun j => Slot.d ((xs ++ [(⟨5, ((portsOf c part).getD i default).node, 0⟩ : Slot)]).getD j default)) (fun j hj => by (try dsimp only); rw [getD_app xs [(⟨5, ((portsOf c part).getD i default).node, 0⟩ : Slot)] j default, show xs.length = xs.length from (by (try simp only [List.length_set, List.length_replicate, List.length_append, List.length_cons, List.length_nil]) <;> omega)]; split <;> first | rfl | (rename_i hjn; rw [show j - xs.length = 0 by omega]; rfl)) ?_
     refine PL.rw 1 [2, 5, 6, 9] 3 trivial ?_
     refine PL.nil ?_
     show PW _ _ _ _ _
     refine PW.rr [2, 5, 6, 9] 3 trivial ?_
     refine BackR.of (s1 := { tab := [⟨2, [], D.p 0 0 0 0⟩, ⟨5, [], D.h 1 (xs.length + 1)⟩, ⟨6, [], sl' 4 Port.d (portsOf c part)⟩, ⟨9, [], I (IntKind.i64.wrap ((i : Int) + 1))⟩], mem := [Obj.var 25 (Config.d c), Obj.row 37 3 (xs.length + 1) (fun j => Slot.d ((xs ++ [(⟨5, ((portsOf c part).getD i default).node, 0⟩ : Slot)]).getD j default))] }) (i + 1, xs ++ [(⟨5, ((portsOf c part).getD i default).node, 0⟩ : Slot)]) (by kernel_rfl) (by kernel_rfl) ?_ ?_ ?_
     ·dsimp only
      rw [wrap1 i (by omega)]
      try simp only [List.length_append, List.length_singleton, List.length_cons, List.length_nil, List.length_set]
      exact Rem.refl _
     ·dsimp only
      exact ⟨by omega, by rw [datas_one _ (by omega), ← List.append_assoc]; exact zL_push' hinv.2 (5, _)⟩
     ·dsimp only
      ((repeat' (first | intro _ | refine And.intro ?_ ?_)) <;> first | omega | trivial | assumption | (rename_i hgd; simp only [Bool.and_eq_true, decide_eq_true_eq, and_true] at hgd; omega))
    ·try simp only [boolS, isB_true, isB_false] at hz3
     try have hfB : fitB c = true ∧ isB part c.parts.length = true := ⟨hz0.1, by rw [isB_true]; omega⟩
     try have hnn : 1 ≤ nodesI c part ∧ nodesI c part ≤ 12 := tnodes_in hfB.1 hfB.2
     try have hni : nodesI c part = (c.parts.getD part.toNat default).nodes := rfl
     refine PW.exit ?_
     show PW _ _ _ _ _
     refine PW.seq ?_
     refine PW.sr [2, 5, 10] 2 trivial ?_
     refine PW.block ?_
     refine PW.lp (α := Nat × List Slot) (fun (i, xs) => { tab := [⟨2, [], D.p 0 0 0 0⟩, ⟨5, [], D.h 1 xs.length⟩, ⟨10, [], I (i : Int)⟩], mem := [Obj.var 25 (Config.d c), Obj.row 37 3 xs.length (fun j => Slot.d (xs.getD j default))] }) (fun (i, xs) => i ≤ xs.length ∧ xs = paL c (keysOf (portsOf c part) (nodesI c part).toNat) i) (fun (i, xs) => xs.length - i) [2, 5, 10] 2 (0, xs) ?_ ?_
     ·dsimp only
      exact ⟨Nat.zero_le _, by rw [← paL_zero, hinv.2, show i = (portsOf c part).length by omega, List.take_length]; rfl⟩
     rintro ⟨i, xs⟩ hinv
     dsimp only at hinv
     have hxl : xs.length = (keysOf (portsOf c part) (nodesI c part).toNat).length := by rw [hinv.2, paL_len]
     have hkl := keysOf_len (portsOf c part) (nodesI c part).toNat
     show PW _ _ _ _ _
     refine PW.seq ?_
     refine PW.sr [2, 5, 10, 72] 2 trivial ?_
     refine PW.cd (decide ((i : Int) < (xs.length : Int))) (fun hz4 => ?_) (fun hz4 => ?_)
     ·try simp only [boolS, isB_true, isB_false] at hz4
      try have hfB : fitB c = true ∧ isB part c.parts.length = true := ⟨hz0.1, by rw [isB_true]; omega⟩
      try have hnn : 1 ≤ nodesI c part ∧ nodesI c part ≤ 12 := tnodes_in hfB.1 hfB.2
      try have hni : nodesI c part = (c.parts.getD part.toNat default).nodes := rfl
      refine PW.skip ?_
      show PW _ _ _ _ _
      refine PW.seq ?_
      refine PW.block ?_
      refine PW.region ?_
      refine PL.rw 12 [2, 5, 10] 2 (p := (0 ≤ (i : Int) ∧ (i : Int) < (xs.length : Int)) ∧ (i < xs.length)) (by omega) ?_
      refine PL.rm 1 (t := 37) (z := 3) (n := xs.length) (fun j => if j = i then [I ((xs.getD i default).kind), I ((xs.getD i default).node), I (IntKind.i64.wrap (c.lead + (IntKind.i64.wrap ((i : Int) * c.slot))))] else (fun j => Slot.d (xs.getD j default)) j) (fun j => Slot.d ((xs.set i (⟨(xs.getD i default).kind, (xs.getD i default).node, IntKind.i64.wrap (c.lead + (IntKind.i64.wrap ((i : Int) * c.slot)))⟩ : Slot)).getD j default)) (fun j hj => by (try dsimp only); rw [getD_set (l := xs) (i := i) (v := (⟨(xs.getD i default).kind, (xs.getD i default).node, IntKind.i64.wrap (c.lead + (IntKind.i64.wrap ((i : Int) * c.slot)))⟩ : Slot)) (hi := (by (try simp only [List.length_set, List.length_replicate, List.length_append, List.length_cons, List.length_nil]) <;> omega))]; split <;> rfl) ?_
      refine PL.nil ?_
      show PW _ _ _ _ _
      refine PW.rr [2, 5, 10] 2 trivial ?_
      refine BackR.of (s1 := { tab := [⟨2, [], D.p 0 0 0 0⟩, ⟨5, [], D.h 1 xs.length⟩, ⟨10, [], I (IntKind.i64.wrap ((i : Int) + 1))⟩], mem := [Obj.var 25 (Config.d c), Obj.row 37 3 xs.length (fun j => Slot.d ((xs.set i (⟨(xs.getD i default).kind, (xs.getD i default).node, IntKind.i64.wrap (c.lead + (IntKind.i64.wrap ((i : Int) * c.slot)))⟩ : Slot)).getD j default))] }) (i + 1, xs.set i (⟨(xs.getD i default).kind, (xs.getD i default).node, IntKind.i64.wrap (c.lead + (IntKind.i64.wrap ((i : Int) * c.slot)))⟩ : Slot)) (by kernel_rfl) (by kernel_rfl) ?_ ?_ ?_
      ·dsimp only
       rw [wrap1 i (by omega)]
       try simp only [List.length_append, List.length_singleton, List.length_cons, List.length_nil, List.length_set]
       exact Rem.refl _
      ·dsimp only
       refine ⟨by (try simp only [List.length_set]) <;> omega, ?_⟩
       have hps := paL_step c (keysOf (portsOf c part) (nodesI c part).toNat) (i := i) (by omega)
       rw [← hinv.2] at hps
       exact hps
      ·dsimp only
       (try simp only [List.length_set])
       omega
     ·try simp only [boolS, isB_true, isB_false] at hz4
      try have hfB : fitB c = true ∧ isB part c.parts.length = true := ⟨hz0.1, by rw [isB_true]; omega⟩
      try have hnn : 1 ≤ nodesI c part ∧ nodesI c part ≤ 12 := tnodes_in hfB.1 hfB.2
      try have hni : nodesI c part = (c.parts.getD part.toNat default).nodes := rfl
      refine PW.exit ?_
      show PW _ _ _ _ _
      refine PW.sr [4] 2 trivial ?_
      refine PW.ret ?_
      refine retQ_ret (d := D.s xs.length 3 (fun j => Slot.d (xs.getD j default))) (ps := [xs.length ≤ xs.length]) (by kernel_rfl) (show (xs.length ≤ xs.length) from by ((repeat' (first | intro _ | refine And.intro ?_ ?_)) <;> first | omega | trivial | assumption | (rename_i hgd; simp only [Bool.and_eq_true, decide_eq_true_eq, and_true] at hgd; omega))) ?_
      left
      have e9 : xs = slotsOf c part := by
        unfold slotsOf
        rw [if_pos hfB, ← paL_all]
        rw [hinv.2]
        congr 1
        omega
      rw [← e9]
      rfl
theorem drumlineref5_Find_pc (c : Config) (part kd nd : Int) (hp0 : c.parts.length < 1000000) (hl0 : c.links.length < 1000000) : PC Tryz.prog [] 13 [D.r (Config.d c), I part, I kd, I nd] (· = I (findI c part kd nd)) := by
 refine PC.of (N := 37) Tryz.func13 rfl rfl (Nat.le_of_ble_eq_true rfl) ?_
 have hsl := slotsOf_len c part
 refine PW.sr [1, 2, 3, 4] 1 trivial ?_
 refine PW.sg ?_
 refine PL.rw 2 [2, 3, 11, 12] 1 trivial ?_
 refine PL.gc (A := []) (fun _ => (drumlineref5_Slots_pc0 c part hp0 hl0).list) ?_
 refine PL.rw 1 [2, 3, 9] 1 trivial ?_
 refine PL.nl ?_
 refine PW.seq ?_
 refine PW.sr [2, 3, 9, 10] 1 trivial ?_
 refine PW.block ?_
 refine PW.lp (α := Nat) (fun i => { tab := [⟨2, [], I kd⟩, ⟨3, [], I nd⟩, ⟨9, [], sl' 3 Slot.d (slotsOf c part)⟩, ⟨10, [], I (i : Int)⟩], mem := [Obj.var 25 (Config.d c)] }) (fun i => i ≤ (slotsOf c part).length ∧ seekI (fun i => atB kd nd ((slotsOf c part).getD i default)) (slotsOf c part).length 0 = seekI (fun i => atB kd nd ((slotsOf c part).getD i default)) ((slotsOf c part).length - i) i) (fun i => (slotsOf c part).length - i) [2, 3, 9, 10] 1 (0) ?_ ?_
 ·exact ⟨Nat.zero_le _, rfl⟩
 rintro i hinv
 show PW _ _ _ _ _
 refine PW.seq ?_
 refine PW.sr [2, 3, 9, 10, 17] 1 trivial ?_
 refine PW.cd (decide ((i : Int) < ((slotsOf c part).length : Int))) (fun hz0 => ?_) (fun hz0 => ?_)
 ·try simp only [boolS, isB_true, isB_false] at hz0
  refine PW.skip ?_
  show PW _ _ _ _ _
  refine PW.seq ?_
  refine PW.block ?_
  refine PW.sr [2, 3, 9, 10, 35] 1 (p := (0 ≤ (i : Int) ∧ (i : Int) < ((slotsOf c part).length : Int)) ∧ ((((((slotsOf c part).getD i default).kind) == kd) = true ∧ True → 0 ≤ (i : Int) ∧ (i : Int) < ((slotsOf c part).length : Int)))) (by ((repeat' (first | intro _ | refine And.intro ?_ ?_)) <;> first | omega | trivial | assumption | (rename_i hgd; simp only [Bool.and_eq_true, decide_eq_true_eq, and_true] at hgd; omega))) ?_
  refine PW.cd (((((slotsOf c part).getD i default).kind) == kd) && ((((slotsOf c part).getD i default).node) == nd)) (fun hz1 => ?_) (fun hz1 => ?_)
  ·try simp only [boolS, isB_true, isB_false] at hz1
   refine PW.sr [8] 1 trivial ?_
   refine PW.ret ?_
   refine retQ_ret (d := I (i : Int)) (ps := []) (by kernel_rfl) trivial ?_
   show I _ = I _
   unfold findI
   rw [hinv.2, show (slotsOf c part).length - i = ((slotsOf c part).length - i - 1) + 1 by omega, seekI, if_pos (by simp [atB]; exact hz1)]
  ·try simp only [boolS, isB_true, isB_false] at hz1
   refine PW.skip ?_
   show PW _ _ _ _ _
   refine PW.rr [2, 3, 9, 10] 1 trivial ?_
   refine BackR.of (s1 := { tab := [⟨2, [], I kd⟩, ⟨3, [], I nd⟩, ⟨9, [], sl' 3 Slot.d (slotsOf c part)⟩, ⟨10, [], I (IntKind.i64.wrap ((i : Int) + 1))⟩], mem := [Obj.var 25 (Config.d c)] }) (i + 1) (by kernel_rfl) (by kernel_rfl) ?_ ?_ ?_
   ·rw [wrap1 i (by omega)]
    exact Rem.refl _
   ·refine ⟨by omega, ?_⟩
    rw [hinv.2, show (slotsOf c part).length - i = ((slotsOf c part).length - (i + 1)) + 1 by omega, seekI, if_neg (by simp [atB]; simp at hz1; grind)]
   ·((repeat' (first | intro _ | refine And.intro ?_ ?_)) <;> first | omega | trivial | assumption | (rename_i hgd; simp only [Bool.and_eq_true, decide_eq_true_eq, and_true] at hgd; omega))
 ·try simp only [boolS, isB_true, isB_false] at hz0
  refine PW.exit ?_
  show PW _ _ _ _ _
  refine PW.sr [8] 1 trivial ?_
  refine PW.ret ?_
  refine retQ_ret (d := I (-1)) (ps := []) (by kernel_rfl) trivial ?_
  show I _ = I _
  unfold findI
  rw [hinv.2, show (slotsOf c part).length - i = 0 by omega, seekI]
theorem drumlineref5_Which_pc (c : Config) (part t : Int) (hp0 : c.parts.length < 1000000) (hl0 : c.links.length < 1000000) : PC Tryz.prog [] 15 [D.r (Config.d c), I part, I t] (· = I (whichI c part t)) := by
 refine PC.of (N := 41) Tryz.func15 rfl rfl (Nat.le_of_ble_eq_true rfl) ?_
 have hsl := slotsOf_len c part
 refine PW.sr [1, 2, 3] 1 trivial ?_
 refine PW.sg ?_
 refine PL.rw 2 [2, 3, 9, 10] 1 trivial ?_
 refine PL.gc (A := []) (fun _ => (drumlineref5_Slots_pc0 c part hp0 hl0).list) ?_
 refine PL.rw 1 [2, 3, 7] 1 trivial ?_
 refine PL.nl ?_
 refine PW.seq ?_
 refine PW.sr [2, 3, 7, 8] 1 trivial ?_
 refine PW.block ?_
 refine PW.lp (α := Nat) (fun i => { tab := [⟨2, [], I t⟩, ⟨3, [], D.p 0 0 0 0⟩, ⟨7, [], sl' 3 Slot.d (slotsOf c part)⟩, ⟨8, [], I (i : Int)⟩], mem := [Obj.var 25 (Config.d c)] }) (fun i => i ≤ (slotsOf c part).length ∧ seekI (fun i => inB c.window t ((slotsOf c part).getD i default)) (slotsOf c part).length 0 = seekI (fun i => inB c.window t ((slotsOf c part).getD i default)) ((slotsOf c part).length - i) i) (fun i => (slotsOf c part).length - i) [2, 3, 7, 8] 1 (0) ?_ ?_
 ·exact ⟨Nat.zero_le _, rfl⟩
 rintro i hinv
 show PW _ _ _ _ _
 refine PW.seq ?_
 refine PW.sr [2, 3, 7, 8, 15] 1 trivial ?_
 refine PW.cd (decide ((i : Int) < ((slotsOf c part).length : Int))) (fun hz0 => ?_) (fun hz0 => ?_)
 ·try simp only [boolS, isB_true, isB_false] at hz0
  refine PW.skip ?_
  show PW _ _ _ _ _
  refine PW.seq ?_
  refine PW.block ?_
  refine PW.seq ?_
  refine PW.open [] (by kernel_rfl) ?_
  refine PO.tk [0, 1, 2, 3, 4, 5, 6, 7, 8, 9, 10, 11, 12, 13, 14, 15, 16, 17, 18, 19, 20, 21] 22 [2, 3, 7, 8, 39] 0 (p := (0 ≤ (i : Int) ∧ (i : Int) < ((slotsOf c part).length : Int)) ∧ (((decide (t ≥ (IntKind.i64.wrap ((((slotsOf c part).getD i default).at_) - c.window)))) = true ∧ True → 0 ≤ (i : Int) ∧ (i : Int) < ((slotsOf c part).length : Int)))) (by ((repeat' (first | intro _ | refine And.intro ?_ ?_)) <;> first | omega | trivial | assumption | (rename_i hgd; simp only [Bool.and_eq_true, decide_eq_true_eq, and_true] at hgd; omega))) (fun _ _ h => h) ?_
  refine PO.done (by kernel_rfl) ?_
  show PW _ _ _ _ _
  refine PW.cd ((decide (t ≥ (IntKind.i64.wrap ((((slotsOf c part).getD i default).at_) - c.window)))) && (decide (t ≤ (IntKind.i64.wrap ((((slotsOf c part).getD i default).at_) + c.window))))) (fun hz1 => ?_) (fun hz1 => ?_)
  ·try simp only [boolS, isB_true, isB_false] at hz1
   refine PW.sr [6] 1 trivial ?_
   refine PW.ret ?_
   refine retQ_ret (d := I (i : Int)) (ps := []) (by kernel_rfl) trivial ?_
   show I _ = I _
   unfold whichI
   rw [hinv.2, show (slotsOf c part).length - i = ((slotsOf c part).length - i - 1) + 1 by omega, seekI, if_pos (by simp only [inB, boolS]; exact hz1)]
  ·try simp only [boolS, isB_true, isB_false] at hz1
   refine PW.skip ?_
   show PW _ _ _ _ _
   refine PW.rr [2, 3, 7, 8] 1 trivial ?_
   refine BackR.of (s1 := { tab := [⟨2, [], I t⟩, ⟨3, [], D.p 0 0 0 0⟩, ⟨7, [], sl' 3 Slot.d (slotsOf c part)⟩, ⟨8, [], I (IntKind.i64.wrap ((i : Int) + 1))⟩], mem := [Obj.var 25 (Config.d c)] }) (i + 1) (by kernel_rfl) (by kernel_rfl) ?_ ?_ ?_
   ·rw [wrap1 i (by omega)]
    exact Rem.refl _
   ·refine ⟨by omega, ?_⟩
    rw [hinv.2, show (slotsOf c part).length - i = ((slotsOf c part).length - (i + 1)) + 1 by omega, seekI, if_neg (by simp only [inB, boolS]; omega)]
   ·((repeat' (first | intro _ | refine And.intro ?_ ?_)) <;> first | omega | trivial | assumption | (rename_i hgd; simp only [Bool.and_eq_true, decide_eq_true_eq, and_true] at hgd; omega))
 ·try simp only [boolS, isB_true, isB_false] at hz0
  refine PW.exit ?_
  show PW _ _ _ _ _
  refine PW.sr [6] 1 trivial ?_
  refine PW.ret ?_
  refine retQ_ret (d := I (-1)) (ps := []) (by kernel_rfl) trivial ?_
  show I _ = I _
  unfold whichI
  rw [hinv.2, show (slotsOf c part).length - i = 0 by omega, seekI]
end Go.Proofs.YtaoobnikeicceaaGreatDoor.Pl
