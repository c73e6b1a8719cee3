/- Chapter 7's law BoundsEdge. -/
import Derived.Test.YthoddfmlemihgaaGreatDoorBdLaw
import Derived.Test.YthoddfmlemihgaaGreatDoorMdFits
import Derived.Test.YthoddfmlemihgaaGreatDoorMdFour
namespace Go.Proofs.YthoddfmlemihgaaGreatDoor.Pl
open Go.RowKit Go.Proofs.YthoddfmlemihgaaGreatDoor.Sm Go.Proofs.YthoddfmlemihgaaGreatDoor.Dp
set_option maxHeartbeats 4000000
set_option maxRecDepth 100000
set_option linter.unusedVariables false
set_option linter.unusedSimpArgs false
theorem drumlinelaw7_BoundsEdge_pc (e : Nat → Addr) (hA : Apart e) (n : Int) (c : Config) (hM : PC Tryz.prog (errG3 e) 30 [I n] (· = D.r (Config.d c))) (hp0 : c.parts.length < 1000000) (hl0 : c.links.length < 1000000) (N : Nums c) (hr : rangedB c = true) (hfp : fitsP c = (0, 0)) : PC Tryz.prog (errG3 e) 6 [I n] (· = D.v (.bool true)) := by
  refine PC.of (N := 116) Tryz.func6 rfl rfl (Nat.le_of_ble_eq_true rfl) ?_
  obtain ⟨h, he, hj⟩ := N.all
  have hR := inR_of h
  have r1 := hR.cyc
  have r2 := hR.dri
  have r3 := hR.rat
  have r4 := hR.ags
  have r5 := hR.los
  have r6 := hR.dc
  have r7 := hR.dc2
  have r8 := hR.edg
  have r9 := hR.slw
  have r10 := hR.stp
  have r11 := hR.asp
  have r12 := hR.jmp
  have r13 := hR.erd
  have r14 := hR.eru
  have r15 := hR.rc
  have n1 := N.cyc
  have n3 := N.slt
  have n4 := N.win
  have n6 := N.rat
  have hed : edgeI c = upI (2 * c.drift * c.cycle) + 1 := rfl
  have hsl : slewI c = upI (c.drift * c.cycle) := rfl
  have hst : stepI c = 4 * edgeI c + 2 * slewI c + 2 := rfl
  have hju : jumpI c = 2 * c.ages * stepI c + 4 * edgeI c := rfl
  have hup := upI_in (drift_cycle h).1
  have hup2 := upI_in hR.dc.1
  have hrc : c.rate * c.cycle = 300000 * c.cycle := by rw [n6]
  have wd1 : IntKind.i64.wrap (2 * c.drift) = 2 * c.drift := Ev.wrap_i64 (by omega) (by omega)
  have wd2 : IntKind.i64.wrap (2 * c.drift * c.cycle) = 2 * c.drift * c.cycle := Ev.wrap_i64 (by omega) (by omega)
  have w1 : IntKind.i64.wrap (2 * edgeI c) = 2 * edgeI c := Ev.wrap_i64 (by omega) (by omega)
  have w2 : IntKind.i64.wrap (2 * (2 * edgeI c)) = 2 * (2 * edgeI c) := Ev.wrap_i64 (by omega) (by omega)
  have w3 : IntKind.i64.wrap (2 * slewI c) = 2 * slewI c := Ev.wrap_i64 (by omega) (by omega)
  have w4 : IntKind.i64.wrap (2 * (2 * edgeI c) + 2 * slewI c) = 2 * (2 * edgeI c) + 2 * slewI c := Ev.wrap_i64 (by omega) (by omega)
  have w5 : IntKind.i64.wrap (2 * (2 * edgeI c) + 2 * slewI c + 2) = 2 * (2 * edgeI c) + 2 * slewI c + 2 := Ev.wrap_i64 (by omega) (by omega)
  have w6 : IntKind.i64.wrap (2 * c.ages) = 2 * c.ages := Ev.wrap_i64 (by omega) (by omega)
  have w7 : IntKind.i64.wrap (2 * c.ages * stepI c) = 2 * c.ages * stepI c := Ev.wrap_i64 (by omega) (by omega)
  have w8 : IntKind.i64.wrap (2 * c.ages * stepI c + 2 * (2 * edgeI c)) = 2 * c.ages * stepI c + 2 * (2 * edgeI c) := Ev.wrap_i64 (by omega) (by omega)
  have w9 : IntKind.i64.wrap (edgeI c - 1) = edgeI c - 1 := Ev.wrap_i64 (by omega) (by omega)
  have w10 : IntKind.i64.wrap ((edgeI c - 1) * 1000000) = (edgeI c - 1) * 1000000 := Ev.wrap_i64 (by omega) (by omega)
  have w11 : IntKind.i64.wrap (edgeI c - 2) = edgeI c - 2 := Ev.wrap_i64 (by omega) (by omega)
  have w12 : IntKind.i64.wrap ((edgeI c - 2) * 1000000) = (edgeI c - 2) * 1000000 := Ev.wrap_i64 (by omega) (by omega)
  have w13 : IntKind.i64.wrap (2 * slewI c * 1000000) = 2 * slewI c * 1000000 := Ev.wrap_i64 (by omega) (by omega)
  have w14 : IntKind.i64.wrap (c.rate * c.cycle) = c.rate * c.cycle := Ev.wrap_i64 (by omega) (by omega)
  have w15 : IntKind.i64.wrap (jumpI c * 1000000) = jumpI c * 1000000 := Ev.wrap_i64 (by omega) (by omega)
  have w16 : IntKind.i64.wrap (2 * edgeI c + edgeI c) = 2 * edgeI c + edgeI c := Ev.wrap_i64 (by omega) (by omega)
  have w17 : IntKind.i64.wrap (2 * c.window) = 2 * c.window := Ev.wrap_i64 (by omega) (by omega)
  refine PW.seq ?_
  refine PW.region ?_
  refine PL.rowK 1 [0] 0 (s' := { tab := [⟨0, [], I n⟩], mem := [], gl := (errG3 e) }) (p := True) (by kernel_rfl) (by trivial) ?_
  refine PL.nil ?_
  show PW _ _ _ _ _
  refine PW.seq ?_
  refine PW.seq ?_
  refine PW.region ?_
  refine PL.gcall (A := []) (f := 9) (ds := []) (by kernel_rfl) (by kernel_rfl) (by kernel_rfl) (by kernel_rfl) (by kernel_rfl) rfl (D.v (.bool true)) (fun _ => drumlinelaw7_alive_pc e hA) ?_
  refine PL.rowK 1 [0, 13] 0 (s' := { tab := [⟨0, [], I n⟩, ⟨13, [], D.v (.bool false)⟩], mem := [], gl := (errG3 e) }) (p := True) (by kernel_rfl) (by trivial) ?_
  refine PL.nil ?_
  show PW _ _ _ _ _
  refine PW.cond (z := false) (by kernel_rfl) (fun hz0 => by cases hz0) (fun hz0 => ?_)
  refine PW.skip ?_
  show PW _ _ _ _ _
  refine PW.seq ?_
  refine PW.region ?_
  refine PL.rowK 1 [14] 0 (s' := { tab := [⟨14, [], I n⟩], mem := [], gl := (errG3 e) }) (p := True) (by kernel_rfl) (by trivial) ?_
  refine PL.gcall (A := []) (f := 30) (ds := [I n]) (by kernel_rfl) (by kernel_rfl) (by kernel_rfl) (by kernel_rfl) (by kernel_rfl) rfl (D.r (Config.d c)) (fun _ => hM) ?_
  refine PL.rowK 2 [3] 1 (s' := { tab := [⟨3, [], D.p 0 0 0 0⟩], mem := [Obj.var 25 (Config.d c)], gl := (errG3 e) }) (p := True) (by kernel_rfl) (by trivial) ?_
  refine PL.nil ?_
  show PW _ _ _ _ _
  refine PW.seq ?_
  refine PW.region ?_
  refine PL.rowK 1 [3, 17] 1 (s' := { tab := [⟨3, [], D.p 0 0 0 0⟩, ⟨17, [], D.r (Config.d c)⟩], mem := [Obj.var 25 (Config.d c)], gl := (errG3 e) }) (p := True) (by kernel_rfl) (by trivial) ?_
  refine PL.gcall (A := []) (f := 26) (ds := [D.r (Config.d c)]) (by kernel_rfl) (by kernel_rfl) (by kernel_rfl) (by kernel_rfl) (by kernel_rfl) rfl (D.t [I 0, I 0]) (fun _ => (bounds_Fits_pc e hA c hp0 hl0).eq (by rw [hfp])) ?_
  refine PL.rowK 5 [3, 4, 5] 1 (s' := { tab := [⟨3, [], D.p 0 0 0 0⟩, ⟨4, [], I 0⟩, ⟨5, [], I 0⟩], mem := [Obj.var 25 (Config.d c)], gl := (errG3 e) }) (p := True) (by kernel_rfl) (by trivial) ?_
  refine PL.nil ?_
  show PW _ _ _ _ _
  refine PW.seq ?_
  refine PW.open [] (by kernel_rfl) ?_
  refine PO.takes [0, 2, 4, 6, 8] 15 [3, 4, 5, 21, 23, 25, 27, 29] 1 (n := 10) (s' := { tab := [⟨3, [], D.p 0 0 0 0⟩, ⟨4, [], I 0⟩, ⟨5, [], I 0⟩, ⟨21, [], D.r (Config.d c)⟩, ⟨23, [], D.r (Config.d c)⟩, ⟨25, [], D.r (Config.d c)⟩, ⟨27, [], D.r (Config.d c)⟩, ⟨29, [], D.r (Config.d c)⟩], mem := [Obj.var 25 (Config.d c)], gl := (errG3 e) }) (p := True) (by kernel_rfl) (fun _ _ h => h) (by kernel_rfl) (by kernel_rfl) (by kernel_rfl) (by kernel_rfl) (by kernel_rfl) (by kernel_rfl) (by kernel_rfl) (by kernel_rfl) (by trivial) ?_
  refine PO.one (n := 9) 1 (by kernel_rfl) ?_
  refine PO1.gcall (A := []) (f := 10) (ds := [D.r (Config.d c)]) rfl (by kernel_rfl) (by kernel_rfl) (by kernel_rfl) (by kernel_rfl) (by kernel_rfl) rfl (I (edgeI c)) (fun _ => (bounds_Edge_pc e hA c hp0 hl0).eq (congrArg I (if_pos hr))) ?_
  refine PO.one (n := 8) 3 (by kernel_rfl) ?_
  refine PO1.gcall (A := []) (f := 12) (ds := [D.r (Config.d c)]) rfl (by kernel_rfl) (by kernel_rfl) (by kernel_rfl) (by kernel_rfl) (by kernel_rfl) rfl (I (2 * edgeI c)) (fun _ => (bounds_Near_pc e hA c hp0 hl0).eq (congrArg (fun x => I (2 * x)) (if_pos hr))) ?_
  refine PO.one (n := 7) 5 (by kernel_rfl) ?_
  refine PO1.gcall (A := []) (f := 14) (ds := [D.r (Config.d c)]) rfl (by kernel_rfl) (by kernel_rfl) (by kernel_rfl) (by kernel_rfl) (by kernel_rfl) rfl (I (slewI c)) (fun _ => (bounds_Slew_pc e hA c hp0 hl0).eq (congrArg I (if_pos hr))) ?_
  refine PO.one (n := 6) 7 (by kernel_rfl) ?_
  refine PO1.gcall (A := []) (f := 16) (ds := [D.r (Config.d c)]) rfl (by kernel_rfl) (by kernel_rfl) (by kernel_rfl) (by kernel_rfl) (by kernel_rfl) rfl (I (stepI c)) (fun _ => (bounds_Step_pc e hA c hp0 hl0).eq (congrArg I (if_pos hr))) ?_
  refine PO.one (n := 5) 9 (by kernel_rfl) ?_
  refine PO1.gcall (A := []) (f := 18) (ds := [D.r (Config.d c)]) rfl (by kernel_rfl) (by kernel_rfl) (by kernel_rfl) (by kernel_rfl) (by kernel_rfl) rfl (I (jumpI c)) (fun _ => (bounds_Jump_pc e hA c hp0 hl0).eq (congrArg I (if_pos hr))) ?_
  refine PO.takes [10, 11, 12, 13, 14] 5 [3, 4, 5, 6, 7, 8, 9, 10] 1 (n := 0) (s' := { tab := [⟨3, [], D.p 0 0 0 0⟩, ⟨4, [], I 0⟩, ⟨5, [], I 0⟩, ⟨6, [], I (edgeI c)⟩, ⟨7, [], I (2 * edgeI c)⟩, ⟨8, [], I (slewI c)⟩, ⟨9, [], I (stepI c)⟩, ⟨10, [], I (jumpI c)⟩], mem := [Obj.var 25 (Config.d c)], gl := (errG3 e) }) (p := True) (by kernel_rfl) (fun _ _ h => h) (by kernel_rfl) (by kernel_rfl) (by kernel_rfl) (by kernel_rfl) (by kernel_rfl) (by kernel_rfl) (by kernel_rfl) (by kernel_rfl) (by trivial) ?_
  refine PO.done (by kernel_rfl) ?_
  show PW _ _ _ _ _
  refine PW.seq ?_
  refine PW.seq ?_
  refine PW.region ?_
  refine PL.rowK 34 [3, 6, 7, 8, 10, 64] 1 (s' := { tab := [⟨3, [], D.p 0 0 0 0⟩, ⟨6, [], I (edgeI c)⟩, ⟨7, [], I (2 * edgeI c)⟩, ⟨8, [], I (slewI c)⟩, ⟨10, [], I (jumpI c)⟩, ⟨64, [], D.v (.bool ((((false || false) || ((2 * edgeI c) != (IntKind.i64.wrap (2 * (edgeI c))))) || ((stepI c) != (IntKind.i64.wrap ((IntKind.i64.wrap ((IntKind.i64.wrap (2 * (2 * edgeI c))) + (IntKind.i64.wrap (2 * (slewI c))))) + 2)))) || ((jumpI c) != (IntKind.i64.wrap ((IntKind.i64.wrap ((IntKind.i64.wrap (2 * c.ages)) * (stepI c))) + (IntKind.i64.wrap (2 * (2 * edgeI c))))))))⟩], mem := [Obj.var 25 (Config.d c)], gl := (errG3 e) }) (p := True) (by kernel_rfl) (by trivial) ?_
  refine PL.nil ?_
  show PW _ _ _ _ _
  refine PW.cond (z := ((((false || false) || ((2 * edgeI c) != (IntKind.i64.wrap (2 * (edgeI c))))) || ((stepI c) != (IntKind.i64.wrap ((IntKind.i64.wrap ((IntKind.i64.wrap (2 * (2 * edgeI c))) + (IntKind.i64.wrap (2 * (slewI c))))) + 2)))) || ((jumpI c) != (IntKind.i64.wrap ((IntKind.i64.wrap ((IntKind.i64.wrap (2 * c.ages)) * (stepI c))) + (IntKind.i64.wrap (2 * (2 * edgeI c)))))))) (by kernel_rfl) (fun hz1 => ?_) (fun hz1 => ?_)
  · skip
    try simp only [boolS, isB_true, isB_false] at hz1
    refine PW.seq ?_
    refine PW.region ?_
    refine PL.rowK 1 [2] 1 (s' := { tab := [⟨2, [], D.v (.bool false)⟩], mem := [Obj.var 25 (Config.d c)], gl := (errG3 e) }) (p := True) (by kernel_rfl) (by trivial) ?_
    refine PL.nil ?_
    show PW _ _ _ _ _
    refine PW.ret ?_
    refine retQ_ret (d := D.v (.bool false)) (ps := []) (by kernel_rfl) trivial ?_
    exfalso
    simp only [w1, w2, w3, w4, w5, w6, w7, w8, w9, w10, w11, w12, w13, w14, w15, w16, w17, not_true_eq_false, false_or, or_false] at hz1
    clear w1 w2 w3 w4 w5 w6 w7 w8 w9 w10 w11 w12 w13 w14 w15 w16 w17
    omega
  · skip
    try simp only [boolS, isB_true, isB_false] at hz1
    refine PW.skip ?_
    show PW _ _ _ _ _
    refine PW.seq ?_
    refine PW.region ?_
    refine PL.rowK 7 [3, 6, 7, 8, 10, 11] 1 (s' := { tab := [⟨3, [], D.p 0 0 0 0⟩, ⟨6, [], I (edgeI c)⟩, ⟨7, [], I (2 * edgeI c)⟩, ⟨8, [], I (slewI c)⟩, ⟨10, [], I (jumpI c)⟩, ⟨11, [], I (IntKind.i64.wrap ((IntKind.i64.wrap (2 * c.drift)) * c.cycle))⟩], mem := [Obj.var 25 (Config.d c)], gl := (errG3 e) }) (p := True) (by kernel_rfl) (by trivial) ?_
    refine PL.eq (s' := { tab := [⟨3, [], D.p 0 0 0 0⟩, ⟨6, [], I (edgeI c)⟩, ⟨7, [], I (2 * edgeI c)⟩, ⟨8, [], I (slewI c)⟩, ⟨10, [], I (jumpI c)⟩, ⟨11, [], I (2 * c.drift * c.cycle)⟩], mem := [Obj.var 25 (Config.d c)], gl := (errG3 e) }) (by rw [wd1, wd2]) ?_
    refine PL.nil ?_
    show PW _ _ _ _ _
    refine PW.seq ?_
    refine PW.region ?_
    refine PL.rowK 46 [2] 1 (s' := { tab := [⟨2, [], D.v (.bool ((((((decide ((IntKind.i64.wrap ((IntKind.i64.wrap ((edgeI c) - 1)) * 1000000)) ≥ (2 * c.drift * c.cycle))) && (decide ((IntKind.i64.wrap ((IntKind.i64.wrap ((edgeI c) - 2)) * 1000000)) < (2 * c.drift * c.cycle)))) && (decide ((IntKind.i64.wrap ((IntKind.i64.wrap (2 * (slewI c))) * 1000000)) ≥ (2 * c.drift * c.cycle)))) && (decide ((IntKind.i64.wrap (c.rate * c.cycle)) ≥ (IntKind.i64.wrap ((jumpI c) * 1000000))))) && (decide (c.window ≥ (IntKind.i64.wrap ((2 * edgeI c) + (edgeI c)))))) && (decide (c.slot > (IntKind.i64.wrap (2 * c.window))))))⟩], mem := [Obj.var 25 (Config.d c)], gl := (errG3 e) }) (p := True) (by kernel_rfl) (by trivial) ?_
    refine PL.nil ?_
    show PW _ _ _ _ _
    refine PW.ret ?_
    refine retQ_ret (d := D.v (.bool ((((((decide ((IntKind.i64.wrap ((IntKind.i64.wrap ((edgeI c) - 1)) * 1000000)) ≥ (2 * c.drift * c.cycle))) && (decide ((IntKind.i64.wrap ((IntKind.i64.wrap ((edgeI c) - 2)) * 1000000)) < (2 * c.drift * c.cycle)))) && (decide ((IntKind.i64.wrap ((IntKind.i64.wrap (2 * (slewI c))) * 1000000)) ≥ (2 * c.drift * c.cycle)))) && (decide ((IntKind.i64.wrap (c.rate * c.cycle)) ≥ (IntKind.i64.wrap ((jumpI c) * 1000000))))) && (decide (c.window ≥ (IntKind.i64.wrap ((2 * edgeI c) + (edgeI c)))))) && (decide (c.slot > (IntKind.i64.wrap (2 * c.window))))))) (ps := []) (by kernel_rfl) trivial ?_
    simp only [w1, w2, w3, w4, w5, w6, w7, w8, w9, w10, w11, w12, w13, w14, w15, w16, w17, D.v.injEq, Value.bool.injEq, boolS]
    clear w1 w2 w3 w4 w5 w6 w7 w8 w9 w10 w11 w12 w13 w14 w15 w16 w17
    omega
end Go.Proofs.YthoddfmlemihgaaGreatDoor.Pl
