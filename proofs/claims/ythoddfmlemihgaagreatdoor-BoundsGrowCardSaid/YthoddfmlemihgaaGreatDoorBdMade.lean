/- Chapter 7's laws BoundsGrow, BoundsFirst. -/
import Derived.Test.YthoddfmlemihgaaGreatDoorBdLaw
import Derived.Test.YthoddfmlemihgaaGreatDoorMdFits
import Derived.Test.YthoddfmlemihgaaGreatDoorMdFour
namespace Go.Proofs.YthoddfmlemihgaaGreatDoor.Pl
open Go.RowKit Go.Proofs.YthoddfmlemihgaaGreatDoor.Sm Go.Proofs.YthoddfmlemihgaaGreatDoor.Dp
set_option maxHeartbeats 4000000
set_option maxRecDepth 100000
set_option linter.unusedVariables false
set_option linter.unusedSimpArgs false
theorem tmod_in {a : Int} {n : Nat} (h0 : 0 ≤ a) (hn : 0 < n) : 0 ≤ a.tmod (n : Int) ∧ a.tmod (n : Int) < (n : Int) := by
  rw [Int.tmod_eq_emod_of_nonneg h0]
  exact ⟨Int.emod_nonneg _ (by omega), Int.emod_lt_of_pos _ (by omega)⟩
def grownC (c : Config) (cc dd : Int) : Config := ⟨c.parts, c.links, cc, c.lead, c.slot, c.window, dd, c.rate, c.ages, c.lost, c.listen, c.span, c.room⟩
/-- no bound is less where clocks drift more, or the cycle is longer. -/
theorem grow {c : Config} {cc dd : Int} (h : outI c = 0) (h' : outI (grownC c cc dd) = 0) (hc : c.cycle ≤ cc) (hd : c.drift ≤ dd) : edgeI c ≤ edgeI (grownC c cc dd) ∧ slewI c ≤ slewI (grownC c cc dd) ∧ stepI c ≤ stepI (grownC c cc dd) ∧ jumpI c ≤ jumpI (grownC c cc dd) ∧ tickI c ≤ tickI (grownC c cc dd) := by
  have hR := inR_of h
  have hR' := inR_of h'
  have r1 := hR.cyc
  have r2 := hR.dri
  have r3 := hR.rat
  have r4 := hR.ags
  have r7 := hR.dc2
  have r7' := hR'.dc2
  have h1 : c.drift * c.cycle ≤ dd * cc := Int.mul_le_mul hd hc (by omega) (by omega)
  have e1 : (grownC c cc dd).drift * (grownC c cc dd).cycle = dd * cc := rfl
  have he : edgeI c ≤ edgeI (grownC c cc dd) := by
    have := upI_mono (a := 2 * c.drift * c.cycle) (b := 2 * (grownC c cc dd).drift * (grownC c cc dd).cycle) (drift_cycle h).1 (by omega)
    unfold edgeI
    omega
  have hs : slewI c ≤ slewI (grownC c cc dd) := upI_mono hR.dc.1 h1
  have hst : stepI c ≤ stepI (grownC c cc dd) := by unfold stepI; omega
  have g1 := hR.edg
  have g2 := hR.stp
  have hj : 2 * c.ages * stepI c ≤ 2 * c.ages * stepI (grownC c cc dd) := Int.mul_le_mul_of_nonneg_left hst (by omega)
  have ht : 2 * edgeI c * (c.rate + c.drift) ≤ 2 * edgeI (grownC c cc dd) * (c.rate + dd) := Int.mul_le_mul (by omega) (by omega) (by omega) (by omega)
  have hu := upI_mono hR.erd.1 ht
  refine ⟨he, hs, hst, ?_, ?_⟩
  · unfold jumpI
    show 2 * c.ages * stepI c + 4 * edgeI c ≤ 2 * c.ages * stepI (grownC c cc dd) + 4 * edgeI (grownC c cc dd)
    omega
  · unfold tickI
    show 3 * edgeI c + upI (2 * edgeI c * (c.rate + c.drift)) + 1 ≤ 3 * edgeI (grownC c cc dd) + upI (2 * edgeI (grownC c cc dd) * (c.rate + dd)) + 1
    omega
theorem drumlinelaw7_BoundsGrow_pc (e : Nat → Addr) (hA : Apart e) (n x1 x2 cc dd : Int) (c : Config) (hM : PC Tryz.prog (errG3 e) 30 [I n] (· = D.r (Config.d c))) (hp0 : c.parts.length < 1000000) (hl0 : c.links.length < 1000000) (hdd : IntKind.i64.wrap (c.drift + ((IntKind.i64.wrap x1).tmod 300)) = dd) (hcc : IntKind.i64.wrap (c.cycle + (IntKind.i64.wrap x2)) = cc) (m1 : edgeR c ≤ edgeR (grownC c cc dd)) (m3 : slewR c ≤ slewR (grownC c cc dd)) (m4 : stepR c ≤ stepR (grownC c cc dd)) (m5 : jumpR c ≤ jumpR (grownC c cc dd)) (m6 : tickR c ≤ tickR (grownC c cc dd)) : PC Tryz.prog (errG3 e) 7 [I n, D.v (.int .u16 x1), D.v (.int .u16 x2)] (· = D.v (.bool true)) := by
  refine PC.of (N := 67) Tryz.func7 rfl rfl (Nat.le_of_ble_eq_true rfl) ?_
  refine PW.seq ?_
  refine PW.region ?_
  refine PL.rowK 1 [0, 1, 2] 0 (s' := { tab := [⟨0, [], I n⟩, ⟨1, [], D.v (.int .u16 x1)⟩, ⟨2, [], D.v (.int .u16 x2)⟩], mem := [], gl := (errG3 e) }) (p := True) (by kernel_rfl) (by trivial) ?_
  refine PL.nil ?_
  show PW _ _ _ _ _
  refine PW.seq ?_
  refine PW.seq ?_
  refine PW.region ?_
  refine PL.gcall (A := []) (f := 9) (ds := []) (by kernel_rfl) (by kernel_rfl) (by kernel_rfl) (by kernel_rfl) (by kernel_rfl) rfl (D.v (.bool true)) (fun _ => drumlinelaw7_alive_pc e hA) ?_
  refine PL.rowK 1 [0, 1, 2, 10] 0 (s' := { tab := [⟨0, [], I n⟩, ⟨1, [], D.v (.int .u16 x1)⟩, ⟨2, [], D.v (.int .u16 x2)⟩, ⟨10, [], D.v (.bool false)⟩], mem := [], gl := (errG3 e) }) (p := True) (by kernel_rfl) (by trivial) ?_
  refine PL.nil ?_
  show PW _ _ _ _ _
  refine PW.cond (z := false) (by kernel_rfl) (fun hz0 => by cases hz0) (fun hz0 => ?_)
  refine PW.skip ?_
  show PW _ _ _ _ _
  refine PW.seq ?_
  refine PW.region ?_
  refine PL.rowK 1 [1, 2, 11] 0 (s' := { tab := [⟨1, [], D.v (.int .u16 x1)⟩, ⟨2, [], D.v (.int .u16 x2)⟩, ⟨11, [], I n⟩], mem := [], gl := (errG3 e) }) (p := True) (by kernel_rfl) (by trivial) ?_
  refine PL.gcall (A := []) (f := 30) (ds := [I n]) (by kernel_rfl) (by kernel_rfl) (by kernel_rfl) (by kernel_rfl) (by kernel_rfl) rfl (D.r (Config.d c)) (fun _ => hM) ?_
  refine PL.rowK 2 [1, 2, 7] 1 (s' := { tab := [⟨1, [], D.v (.int .u16 x1)⟩, ⟨2, [], D.v (.int .u16 x2)⟩, ⟨7, [], D.p 0 0 0 0⟩], mem := [Obj.var 25 (Config.d c)], gl := (errG3 e) }) (p := True) (by kernel_rfl) (by trivial) ?_
  refine PL.nil ?_
  show PW _ _ _ _ _
  refine PW.seq ?_
  refine PW.region ?_
  refine PL.rowK 3 [1, 2, 7, 8] 2 (s' := { tab := [⟨1, [], D.v (.int .u16 x1)⟩, ⟨2, [], D.v (.int .u16 x2)⟩, ⟨7, [], D.p 0 0 0 0⟩, ⟨8, [], D.p 1 0 0 0⟩], mem := [Obj.var 25 (Config.d c), Obj.var 25 (Config.d c)], gl := (errG3 e) }) (p := True) (by kernel_rfl) (by trivial) ?_
  refine PL.nil ?_
  show PW _ _ _ _ _
  refine PW.seq ?_
  refine PW.region ?_
  refine PL.rowK 8 [2, 7, 8] 2 (s' := { tab := [⟨2, [], D.v (.int .u16 x2)⟩, ⟨7, [], D.p 0 0 0 0⟩, ⟨8, [], D.p 1 0 0 0⟩], mem := [Obj.var 25 (Config.d c), Obj.var 25 [sl' 2 Part.d c.parts, sl' 6 Link.d c.links, I c.cycle, I c.lead, I c.slot, I c.window, I (IntKind.i64.wrap (c.drift + ((IntKind.i64.wrap x1).tmod 300))), I c.rate, I c.ages, I c.lost, I c.listen, I c.span, I c.room]], gl := (errG3 e) }) (p := True) (by kernel_rfl) (by trivial) ?_
  refine PL.eq (s' := { tab := [⟨2, [], D.v (.int .u16 x2)⟩, ⟨7, [], D.p 0 0 0 0⟩, ⟨8, [], D.p 1 0 0 0⟩], mem := [Obj.var 25 (Config.d c), Obj.var 25 [sl' 2 Part.d c.parts, sl' 6 Link.d c.links, I c.cycle, I c.lead, I c.slot, I c.window, I dd, I c.rate, I c.ages, I c.lost, I c.listen, I c.span, I c.room]], gl := (errG3 e) }) (by rw [hdd]) ?_
  refine PL.nil ?_
  show PW _ _ _ _ _
  refine PW.seq ?_
  refine PW.region ?_
  refine PL.rowK 7 [7, 8] 2 (s' := { tab := [⟨7, [], D.p 0 0 0 0⟩, ⟨8, [], D.p 1 0 0 0⟩], mem := [Obj.var 25 (Config.d c), Obj.var 25 [sl' 2 Part.d c.parts, sl' 6 Link.d c.links, I (IntKind.i64.wrap (c.cycle + (IntKind.i64.wrap x2))), I c.lead, I c.slot, I c.window, I dd, I c.rate, I c.ages, I c.lost, I c.listen, I c.span, I c.room]], gl := (errG3 e) }) (p := True) (by kernel_rfl) (by trivial) ?_
  refine PL.eq (s' := { tab := [⟨7, [], D.p 0 0 0 0⟩, ⟨8, [], D.p 1 0 0 0⟩], mem := [Obj.var 25 (Config.d c), Obj.var 25 [sl' 2 Part.d c.parts, sl' 6 Link.d c.links, I cc, I c.lead, I c.slot, I c.window, I dd, I c.rate, I c.ages, I c.lost, I c.listen, I c.span, I c.room]], gl := (errG3 e) }) (by rw [hcc]) ?_
  refine PL.nil ?_
  show PW _ _ _ _ _
  refine PW.seq ?_
  refine PW.open [] (by kernel_rfl) ?_
  refine PO.takes [0, 2] 41 [7, 8, 27, 29] 2 (n := 39) (s' := { tab := [⟨7, [], D.p 0 0 0 0⟩, ⟨8, [], D.p 1 0 0 0⟩, ⟨27, [], D.r (Config.d c)⟩, ⟨29, [], D.r [sl' 2 Part.d c.parts, sl' 6 Link.d c.links, I cc, I c.lead, I c.slot, I c.window, I dd, I c.rate, I c.ages, I c.lost, I c.listen, I c.span, I c.room]⟩], mem := [Obj.var 25 (Config.d c), Obj.var 25 [sl' 2 Part.d c.parts, sl' 6 Link.d c.links, I cc, I c.lead, I c.slot, I c.window, I dd, I c.rate, I c.ages, I c.lost, I c.listen, I c.span, I c.room]], gl := (errG3 e) }) (p := True) (by kernel_rfl) (fun _ _ h => h) (by kernel_rfl) (by kernel_rfl) (by kernel_rfl) (by kernel_rfl) (by kernel_rfl) (by kernel_rfl) (by kernel_rfl) (by kernel_rfl) (by trivial) ?_
  refine PO.one (n := 38) 1 (by kernel_rfl) ?_
  refine PO1.gcall (A := []) (f := 10) (ds := [D.r (Config.d c)]) rfl (by kernel_rfl) (by kernel_rfl) (by kernel_rfl) (by kernel_rfl) (by kernel_rfl) rfl (I (edgeR c)) (fun _ => bounds_Edge_pc e hA c hp0 hl0) ?_
  refine PO.one (n := 37) 3 (by kernel_rfl) ?_
  refine PO1.gcall (A := []) (f := 10) (ds := [D.r [sl' 2 Part.d c.parts, sl' 6 Link.d c.links, I cc, I c.lead, I c.slot, I c.window, I dd, I c.rate, I c.ages, I c.lost, I c.listen, I c.span, I c.room]]) rfl (by kernel_rfl) (by kernel_rfl) (by kernel_rfl) (by kernel_rfl) (by kernel_rfl) rfl (I (edgeR (grownC c cc dd))) (fun _ => bounds_Edge_pc e hA (grownC c cc dd) hp0 hl0) ?_
  refine PO.takes [4, 5, 6, 8] 37 [7, 8, 32, 33, 35] 2 (n := 33) (s' := { tab := [⟨7, [], D.p 0 0 0 0⟩, ⟨8, [], D.p 1 0 0 0⟩, ⟨32, [], D.v (.bool (decide ((edgeR c) ≤ (edgeR (grownC c cc dd)))))⟩, ⟨33, [(32, true)], D.r (Config.d c)⟩, ⟨35, [(32, true)], D.r [sl' 2 Part.d c.parts, sl' 6 Link.d c.links, I cc, I c.lead, I c.slot, I c.window, I dd, I c.rate, I c.ages, I c.lost, I c.listen, I c.span, I c.room]⟩], mem := [Obj.var 25 (Config.d c), Obj.var 25 [sl' 2 Part.d c.parts, sl' 6 Link.d c.links, I cc, I c.lead, I c.slot, I c.window, I dd, I c.rate, I c.ages, I c.lost, I c.listen, I c.span, I c.room]], gl := (errG3 e) }) (p := True) (by kernel_rfl) (fun _ _ h => h) (by kernel_rfl) (by kernel_rfl) (by kernel_rfl) (by kernel_rfl) (by kernel_rfl) (by kernel_rfl) (by kernel_rfl) (by kernel_rfl) (by trivial) ?_
  refine PO.one (n := 32) 7 (by kernel_rfl) ?_
  refine PO1.gcall (A := [(32, true)]) (f := 12) (ds := [D.r (Config.d c)]) rfl (by kernel_rfl) (by kernel_rfl) (by kernel_rfl) (by kernel_rfl) (by kernel_rfl) rfl (I (2 * edgeR c)) (fun _ => bounds_Near_pc e hA c hp0 hl0) ?_
  refine PO.one (n := 31) 9 (by kernel_rfl) ?_
  refine PO1.gcall (A := [(32, true)]) (f := 12) (ds := [D.r [sl' 2 Part.d c.parts, sl' 6 Link.d c.links, I cc, I c.lead, I c.slot, I c.window, I dd, I c.rate, I c.ages, I c.lost, I c.listen, I c.span, I c.room]]) rfl (by kernel_rfl) (by kernel_rfl) (by kernel_rfl) (by kernel_rfl) (by kernel_rfl) rfl (I (2 * edgeR (grownC c cc dd))) (fun _ => bounds_Near_pc e hA (grownC c cc dd) hp0 hl0) ?_
  refine PO.takes [10, 11, 12, 13, 15] 31 [7, 8, 39, 40, 42] 2 (n := 26) (s' := { tab := [⟨7, [], D.p 0 0 0 0⟩, ⟨8, [], D.p 1 0 0 0⟩, ⟨39, [], D.v (.bool ((decide ((edgeR c) ≤ (edgeR (grownC c cc dd)))) && (decide ((2 * edgeR c) ≤ (2 * edgeR (grownC c cc dd))))))⟩, ⟨40, [(39, true)], D.r (Config.d c)⟩, ⟨42, [(39, true)], D.r [sl' 2 Part.d c.parts, sl' 6 Link.d c.links, I cc, I c.lead, I c.slot, I c.window, I dd, I c.rate, I c.ages, I c.lost, I c.listen, I c.span, I c.room]⟩], mem := [Obj.var 25 (Config.d c), Obj.var 25 [sl' 2 Part.d c.parts, sl' 6 Link.d c.links, I cc, I c.lead, I c.slot, I c.window, I dd, I c.rate, I c.ages, I c.lost, I c.listen, I c.span, I c.room]], gl := (errG3 e) }) (p := True) (by kernel_rfl) (fun _ _ h => h) (by kernel_rfl) (by kernel_rfl) (by kernel_rfl) (by kernel_rfl) (by kernel_rfl) (by kernel_rfl) (by kernel_rfl) (by kernel_rfl) (by trivial) ?_
  refine PO.one (n := 25) 14 (by kernel_rfl) ?_
  refine PO1.gcall (A := [(39, true)]) (f := 14) (ds := [D.r (Config.d c)]) rfl (by kernel_rfl) (by kernel_rfl) (by kernel_rfl) (by kernel_rfl) (by kernel_rfl) rfl (I (slewR c)) (fun _ => bounds_Slew_pc e hA c hp0 hl0) ?_
  refine PO.one (n := 24) 16 (by kernel_rfl) ?_
  refine PO1.gcall (A := [(39, true)]) (f := 14) (ds := [D.r [sl' 2 Part.d c.parts, sl' 6 Link.d c.links, I cc, I c.lead, I c.slot, I c.window, I dd, I c.rate, I c.ages, I c.lost, I c.listen, I c.span, I c.room]]) rfl (by kernel_rfl) (by kernel_rfl) (by kernel_rfl) (by kernel_rfl) (by kernel_rfl) rfl (I (slewR (grownC c cc dd))) (fun _ => bounds_Slew_pc e hA (grownC c cc dd) hp0 hl0) ?_
  refine PO.takes [17, 18, 19, 20, 22] 24 [7, 8, 46, 47, 49] 2 (n := 19) (s' := { tab := [⟨7, [], D.p 0 0 0 0⟩, ⟨8, [], D.p 1 0 0 0⟩, ⟨46, [], D.v (.bool (((decide ((edgeR c) ≤ (edgeR (grownC c cc dd)))) && (decide ((2 * edgeR c) ≤ (2 * edgeR (grownC c cc dd))))) && (decide ((slewR c) ≤ (slewR (grownC c cc dd))))))⟩, ⟨47, [(46, true)], D.r (Config.d c)⟩, ⟨49, [(46, true)], D.r [sl' 2 Part.d c.parts, sl' 6 Link.d c.links, I cc, I c.lead, I c.slot, I c.window, I dd, I c.rate, I c.ages, I c.lost, I c.listen, I c.span, I c.room]⟩], mem := [Obj.var 25 (Config.d c), Obj.var 25 [sl' 2 Part.d c.parts, sl' 6 Link.d c.links, I cc, I c.lead, I c.slot, I c.window, I dd, I c.rate, I c.ages, I c.lost, I c.listen, I c.span, I c.room]], gl := (errG3 e) }) (p := True) (by kernel_rfl) (fun _ _ h => h) (by kernel_rfl) (by kernel_rfl) (by kernel_rfl) (by kernel_rfl) (by kernel_rfl) (by kernel_rfl) (by kernel_rfl) (by kernel_rfl) (by trivial) ?_
  refine PO.one (n := 18) 21 (by kernel_rfl) ?_
  refine PO1.gcall (A := [(46, true)]) (f := 16) (ds := [D.r (Config.d c)]) rfl (by kernel_rfl) (by kernel_rfl) (by kernel_rfl) (by kernel_rfl) (by kernel_rfl) rfl (I (stepR c)) (fun _ => bounds_Step_pc e hA c hp0 hl0) ?_
  refine PO.one (n := 17) 23 (by kernel_rfl) ?_
  refine PO1.gcall (A := [(46, true)]) (f := 16) (ds := [D.r [sl' 2 Part.d c.parts, sl' 6 Link.d c.links, I cc, I c.lead, I c.slot, I c.window, I dd, I c.rate, I c.ages, I c.lost, I c.listen, I c.span, I c.room]]) rfl (by kernel_rfl) (by kernel_rfl) (by kernel_rfl) (by kernel_rfl) (by kernel_rfl) rfl (I (stepR (grownC c cc dd))) (fun _ => bounds_Step_pc e hA (grownC c cc dd) hp0 hl0) ?_
  refine PO.takes [24, 25, 26, 27, 29] 17 [7, 8, 53, 54, 56] 2 (n := 12) (s' := { tab := [⟨7, [], D.p 0 0 0 0⟩, ⟨8, [], D.p 1 0 0 0⟩, ⟨53, [], D.v (.bool ((((decide ((edgeR c) ≤ (edgeR (grownC c cc dd)))) && (decide ((2 * edgeR c) ≤ (2 * edgeR (grownC c cc dd))))) && (decide ((slewR c) ≤ (slewR (grownC c cc dd))))) && (decide ((stepR c) ≤ (stepR (grownC c cc dd))))))⟩, ⟨54, [(53, true)], D.r (Config.d c)⟩, ⟨56, [(53, true)], D.r [sl' 2 Part.d c.parts, sl' 6 Link.d c.links, I cc, I c.lead, I c.slot, I c.window, I dd, I c.rate, I c.ages, I c.lost, I c.listen, I c.span, I c.room]⟩], mem := [Obj.var 25 (Config.d c), Obj.var 25 [sl' 2 Part.d c.parts, sl' 6 Link.d c.links, I cc, I c.lead, I c.slot, I c.window, I dd, I c.rate, I c.ages, I c.lost, I c.listen, I c.span, I c.room]], gl := (errG3 e) }) (p := True) (by kernel_rfl) (fun _ _ h => h) (by kernel_rfl) (by kernel_rfl) (by kernel_rfl) (by kernel_rfl) (by kernel_rfl) (by kernel_rfl) (by kernel_rfl) (by kernel_rfl) (by trivial) ?_
  refine PO.one (n := 11) 28 (by kernel_rfl) ?_
  refine PO1.gcall (A := [(53, true)]) (f := 18) (ds := [D.r (Config.d c)]) rfl (by kernel_rfl) (by kernel_rfl) (by kernel_rfl) (by kernel_rfl) (by kernel_rfl) rfl (I (jumpR c)) (fun _ => bounds_Jump_pc e hA c hp0 hl0) ?_
  refine PO.one (n := 10) 30 (by kernel_rfl) ?_
  refine PO1.gcall (A := [(53, true)]) (f := 18) (ds := [D.r [sl' 2 Part.d c.parts, sl' 6 Link.d c.links, I cc, I c.lead, I c.slot, I c.window, I dd, I c.rate, I c.ages, I c.lost, I c.listen, I c.span, I c.room]]) rfl (by kernel_rfl) (by kernel_rfl) (by kernel_rfl) (by kernel_rfl) (by kernel_rfl) rfl (I (jumpR (grownC c cc dd))) (fun _ => bounds_Jump_pc e hA (grownC c cc dd) hp0 hl0) ?_
  refine PO.takes [31, 32, 33, 34, 36] 10 [60, 61, 63] 2 (n := 5) (s' := { tab := [⟨60, [], D.v (.bool (((((decide ((edgeR c) ≤ (edgeR (grownC c cc dd)))) && (decide ((2 * edgeR c) ≤ (2 * edgeR (grownC c cc dd))))) && (decide ((slewR c) ≤ (slewR (grownC c cc dd))))) && (decide ((stepR c) ≤ (stepR (grownC c cc dd))))) && (decide ((jumpR c) ≤ (jumpR (grownC c cc dd))))))⟩, ⟨61, [(60, true)], D.r (Config.d c)⟩, ⟨63, [(60, true)], D.r [sl' 2 Part.d c.parts, sl' 6 Link.d c.links, I cc, I c.lead, I c.slot, I c.window, I dd, I c.rate, I c.ages, I c.lost, I c.listen, I c.span, I c.room]⟩], mem := [Obj.var 25 (Config.d c), Obj.var 25 [sl' 2 Part.d c.parts, sl' 6 Link.d c.links, I cc, I c.lead, I c.slot, I c.window, I dd, I c.rate, I c.ages, I c.lost, I c.listen, I c.span, I c.room]], gl := (errG3 e) }) (p := True) (by kernel_rfl) (fun _ _ h => h) (by kernel_rfl) (by kernel_rfl) (by kernel_rfl) (by kernel_rfl) (by kernel_rfl) (by kernel_rfl) (by kernel_rfl) (by kernel_rfl) (by trivial) ?_
  refine PO.one (n := 4) 35 (by kernel_rfl) ?_
  refine PO1.gcall (A := [(60, true)]) (f := 20) (ds := [D.r (Config.d c)]) rfl (by kernel_rfl) (by kernel_rfl) (by kernel_rfl) (by kernel_rfl) (by kernel_rfl) rfl (I (tickR c)) (fun _ => bounds_Tick_pc e hA c hp0 hl0) ?_
  refine PO.one (n := 3) 37 (by kernel_rfl) ?_
  refine PO1.gcall (A := [(60, true)]) (f := 20) (ds := [D.r [sl' 2 Part.d c.parts, sl' 6 Link.d c.links, I cc, I c.lead, I c.slot, I c.window, I dd, I c.rate, I c.ages, I c.lost, I c.listen, I c.span, I c.room]]) rfl (by kernel_rfl) (by kernel_rfl) (by kernel_rfl) (by kernel_rfl) (by kernel_rfl) rfl (I (tickR (grownC c cc dd))) (fun _ => bounds_Tick_pc e hA (grownC c cc dd) hp0 hl0) ?_
  refine PO.takes [38, 39, 40] 3 [6] 2 (n := 0) (s' := { tab := [⟨6, [], D.v (.bool ((((((decide ((edgeR c) ≤ (edgeR (grownC c cc dd)))) && (decide ((2 * edgeR c) ≤ (2 * edgeR (grownC c cc dd))))) && (decide ((slewR c) ≤ (slewR (grownC c cc dd))))) && (decide ((stepR c) ≤ (stepR (grownC c cc dd))))) && (decide ((jumpR c) ≤ (jumpR (grownC c cc dd))))) && (decide ((tickR c) ≤ (tickR (grownC c cc dd))))))⟩], mem := [Obj.var 25 (Config.d c), Obj.var 25 [sl' 2 Part.d c.parts, sl' 6 Link.d c.links, I cc, I c.lead, I c.slot, I c.window, I dd, I c.rate, I c.ages, I c.lost, I c.listen, I c.span, I c.room]], gl := (errG3 e) }) (p := True) (by kernel_rfl) (fun _ _ h => h) (by kernel_rfl) (by kernel_rfl) (by kernel_rfl) (by kernel_rfl) (by kernel_rfl) (by kernel_rfl) (by kernel_rfl) (by kernel_rfl) (by trivial) ?_
  refine PO.done (by kernel_rfl) ?_
  show PW _ _ _ _ _
  refine PW.ret ?_
  refine retQ_ret (d := D.v (.bool ((((((decide ((edgeR c) ≤ (edgeR (grownC c cc dd)))) && (decide ((2 * edgeR c) ≤ (2 * edgeR (grownC c cc dd))))) && (decide ((slewR c) ≤ (slewR (grownC c cc dd))))) && (decide ((stepR c) ≤ (stepR (grownC c cc dd))))) && (decide ((jumpR c) ≤ (jumpR (grownC c cc dd))))) && (decide ((tickR c) ≤ (tickR (grownC c cc dd))))))) (ps := []) (by kernel_rfl) trivial ?_
  simp [m1, m3, m4, m5, m6]
theorem made_grow (n x1 x2 : Int) (h1 : 0 ≤ x1 ∧ x1 < 65536) (h2 : 0 ≤ x2 ∧ x2 < 65536) : ∃ cc dd : Int, IntKind.i64.wrap ((madeC n).drift + ((IntKind.i64.wrap x1).tmod 300)) = dd ∧ IntKind.i64.wrap ((madeC n).cycle + (IntKind.i64.wrap x2)) = cc ∧ edgeR (madeC n) ≤ edgeR (grownC (madeC n) cc dd) ∧ slewR (madeC n) ≤ slewR (grownC (madeC n) cc dd) ∧ stepR (madeC n) ≤ stepR (grownC (madeC n) cc dd) ∧ jumpR (madeC n) ≤ jumpR (grownC (madeC n) cc dd) ∧ tickR (madeC n) ≤ tickR (grownC (madeC n) cc dd) := by
  have N := made_nums n
  have ho := N.all.1
  have k1 := N.cyc
  have k2 := N.dri
  obtain ⟨o1, o2, o3, o4, o5⟩ := outI_zero.1 ho
  have hw1 : IntKind.i64.wrap x1 = x1 := Ev.wrap_i64 (by omega) (by omega)
  have hw2 : IntKind.i64.wrap x2 = x2 := Ev.wrap_i64 (by omega) (by omega)
  have hm : 0 ≤ x1.tmod 300 ∧ x1.tmod 300 < 300 := tmod_in (a := x1) (n := 300) h1.1 (by decide)
  refine ⟨(madeC n).cycle + x2, (madeC n).drift + x1.tmod 300, ?_, ?_, ?_⟩
  · rw [hw1]; exact Ev.wrap_i64 (by omega) (by omega)
  · rw [hw2]; exact Ev.wrap_i64 (by omega) (by omega)
  · have ho' : outI (grownC (madeC n) ((madeC n).cycle + x2) ((madeC n).drift + x1.tmod 300)) = 0 := by
      refine outI_zero.2 ⟨?_, ?_, o3, o4, o5⟩
      · show 1000 ≤ (madeC n).cycle + x2 ∧ (madeC n).cycle + x2 ≤ 1000000
        omega
      · show 0 ≤ (madeC n).drift + x1.tmod 300 ∧ (madeC n).drift + x1.tmod 300 ≤ 500
        omega
    have hr := made_ranged n
    have hr' : rangedB (grownC (madeC n) ((madeC n).cycle + x2) ((madeC n).drift + x1.tmod 300)) = true := (rangedB_iff _).2 ⟨by rw [show checkP (grownC (madeC n) ((madeC n).cycle + x2) ((madeC n).drift + x1.tmod 300)) = checkP (madeC n) from rfl, made_right n], ho'⟩
    obtain ⟨g1, g2, g3, g4, g5⟩ := grow ho ho' (by omega) (by omega)
    unfold edgeR slewR stepR jumpR tickR
    rw [if_pos hr, if_pos hr', if_pos hr, if_pos hr', if_pos hr, if_pos hr', if_pos hr, if_pos hr', if_pos hr, if_pos hr']
    exact ⟨g1, g2, g3, g4, g5⟩
theorem tmod_len {x : Int} {n : Nat} (h0 : 0 ≤ x ∧ x < 256) (hn : 1 ≤ n) : ∃ p : Int, (IntKind.i64.wrap x).tmod (n : Int) = p ∧ 0 ≤ p ∧ p < (n : Int) := by
  rw [Ev.wrap_i64 (by omega) (by omega)]
  exact ⟨_, rfl, tmod_in h0.1 (by omega)⟩
theorem drumlinelaw7_BoundsFirst_pc (e : Nat → Addr) (hA : Apart e) (n x p : Int) (c : Config) (hM : PC Tryz.prog (errG3 e) 30 [I n] (· = D.r (Config.d c))) (hp0 : c.parts.length < 1000000) (hl0 : c.links.length < 1000000) (hpp : (IntKind.i64.wrap x).tmod (c.parts.length : Int) = p) (hp : 0 ≤ p ∧ p < (c.parts.length : Int)) (N : Nums c) (hf : fitB c = true) : PC Tryz.prog (errG3 e) 8 [I n, D.v (.int .u8 x)] (· = D.v (.bool true)) := by
  refine PC.of (N := 65) Tryz.func8 rfl rfl (Nat.le_of_ble_eq_true rfl) ?_
  obtain ⟨ho, he, hj⟩ := N.all
  have hsp := N.spn
  have hli := N.lis
  have hlo := N.los
  have hpr := N.prt
  have hm1 := mul_two (p := (c.parts.length : Int)) (lo := c.lost) (by omega) (by omega)
  have hn : 0 ≤ (c.parts.length : Int) * (c.lost + 1) ∧ (c.parts.length : Int) * (c.lost + 1) ≤ 8 := by rw [hm1]; split <;> omega
  have hwl : IntKind.i64.wrap (c.lost + 1) = c.lost + 1 := Ev.wrap_i64 (by omega) (by omega)
  have hw1 : IntKind.i64.wrap ((c.parts.length : Int) * (IntKind.i64.wrap (c.lost + 1))) = (c.parts.length : Int) * (c.lost + 1) := by rw [hwl]; exact Ev.wrap_i64 (by omega) (by omega)
  have hq : 0 < p → IntKind.i64.wrap (p - 1) = p - 1 := fun h => Ev.wrap_i64 (by omega) (by omega)
  have hf0 : ∀ k : Int, 0 ≤ k → k < (c.parts.length : Int) → firstR c k = c.listen + k * c.span := fun k h1 h2 => if_pos ⟨hf, h1, h2⟩
  have hms := mul_in (a := p) (b := c.span) (A := 4) (B := 10) (by omega) (by omega) (by omega) (by omega)
  refine PW.seq ?_
  refine PW.region ?_
  refine PL.rowK 1 [0, 1] 0 (s' := { tab := [⟨0, [], I n⟩, ⟨1, [], D.v (.int .u8 x)⟩], mem := [], gl := (errG3 e) }) (p := True) (by kernel_rfl) (by trivial) ?_
  refine PL.nil ?_
  show PW _ _ _ _ _
  refine PW.seq ?_
  refine PW.seq ?_
  refine PW.region ?_
  refine PL.gcall (A := []) (f := 9) (ds := []) (by kernel_rfl) (by kernel_rfl) (by kernel_rfl) (by kernel_rfl) (by kernel_rfl) rfl (D.v (.bool true)) (fun _ => drumlinelaw7_alive_pc e hA) ?_
  refine PL.rowK 1 [0, 1, 8] 0 (s' := { tab := [⟨0, [], I n⟩, ⟨1, [], D.v (.int .u8 x)⟩, ⟨8, [], D.v (.bool false)⟩], mem := [], gl := (errG3 e) }) (p := True) (by kernel_rfl) (by trivial) ?_
  refine PL.nil ?_
  show PW _ _ _ _ _
  refine PW.cond (z := false) (by kernel_rfl) (fun hz0 => by cases hz0) (fun hz0 => ?_)
  refine PW.skip ?_
  show PW _ _ _ _ _
  refine PW.seq ?_
  refine PW.region ?_
  refine PL.rowK 1 [1, 9] 0 (s' := { tab := [⟨1, [], D.v (.int .u8 x)⟩, ⟨9, [], I n⟩], mem := [], gl := (errG3 e) }) (p := True) (by kernel_rfl) (by trivial) ?_
  refine PL.gcall (A := []) (f := 30) (ds := [I n]) (by kernel_rfl) (by kernel_rfl) (by kernel_rfl) (by kernel_rfl) (by kernel_rfl) rfl (D.r (Config.d c)) (fun _ => hM) ?_
  refine PL.rowK 2 [1, 5] 1 (s' := { tab := [⟨1, [], D.v (.int .u8 x)⟩, ⟨5, [], D.p 0 0 0 0⟩], mem := [Obj.var 25 (Config.d c)], gl := (errG3 e) }) (p := True) (by kernel_rfl) (by trivial) ?_
  refine PL.nil ?_
  show PW _ _ _ _ _
  refine PW.seq ?_
  refine PW.region ?_
  refine PL.rowK 5 [5, 12, 15] 1 (s' := { tab := [⟨5, [], D.p 0 0 0 0⟩, ⟨12, [], I (IntKind.i64.wrap x)⟩, ⟨15, [], I (c.parts.length : Int)⟩], mem := [Obj.var 25 (Config.d c)], gl := (errG3 e) }) (p := True) (by kernel_rfl) (by trivial) ?_
  refine PL.div (k := .i64) (A := []) (IntKind.i64.wrap x) (c.parts.length : Int) ((IntKind.i64.wrap x).tmod (c.parts.length : Int)) rfl (by first | exact .inl ⟨rfl, rfl⟩ | exact .inr ⟨rfl, rfl⟩) (by kernel_rfl) (by kernel_rfl) (by kernel_rfl) (by kernel_rfl) (by kernel_rfl) (fun _ => by omega) ?_
  refine PL.rowK 1 [5, 6] 1 (s' := { tab := [⟨5, [], D.p 0 0 0 0⟩, ⟨6, [], I ((IntKind.i64.wrap x).tmod (c.parts.length : Int))⟩], mem := [Obj.var 25 (Config.d c)], gl := (errG3 e) }) (p := True) (by kernel_rfl) (by trivial) ?_
  refine PL.eq (s' := { tab := [⟨5, [], D.p 0 0 0 0⟩, ⟨6, [], I p⟩], mem := [Obj.var 25 (Config.d c)], gl := (errG3 e) }) (by rw [hpp]) ?_
  refine PL.nil ?_
  show PW _ _ _ _ _
  refine PW.seq ?_
  refine PW.seq ?_
  refine PW.region ?_
  refine PL.rowK 2 [5, 6, 18] 1 (s' := { tab := [⟨5, [], D.p 0 0 0 0⟩, ⟨6, [], I p⟩, ⟨18, [], D.v (.bool (p == (0 : Int)))⟩], mem := [Obj.var 25 (Config.d c)], gl := (errG3 e) }) (p := True) (by kernel_rfl) (by trivial) ?_
  refine PL.nil ?_
  show PW _ _ _ _ _
  refine PW.cond (z := (p == (0 : Int))) (by kernel_rfl) (fun hz1 => ?_) (fun hz1 => ?_)
  · skip
    try simp only [boolS, isB_true, isB_false] at hz1
    refine PW.seq ?_
    refine PW.open [] (by kernel_rfl) ?_
    refine PO.takes [0, 2, 3] 18 [5, 19, 22] 1 (n := 15) (s' := { tab := [⟨5, [], D.p 0 0 0 0⟩, ⟨19, [], D.r (Config.d c)⟩, ⟨22, [], I c.listen⟩], mem := [Obj.var 25 (Config.d c)], gl := (errG3 e) }) (p := True) (by kernel_rfl) (fun _ _ h => h) (by kernel_rfl) (by kernel_rfl) (by kernel_rfl) (by kernel_rfl) (by kernel_rfl) (by kernel_rfl) (by kernel_rfl) (by kernel_rfl) (by trivial) ?_
    refine PO.one (n := 14) 1 (by kernel_rfl) ?_
    refine PO1.gcall (A := []) (f := 24) (ds := [D.r (Config.d c), I 0]) rfl (by kernel_rfl) (by kernel_rfl) (by kernel_rfl) (by kernel_rfl) (by kernel_rfl) rfl (I (firstR c 0)) (fun _ => bounds_First_pc e hA c hp0 hl0 0) ?_
    refine PO.takes [4, 5, 6, 7, 8, 9, 10, 11, 12, 13, 14, 15, 16, 17] 14 [4] 1 (n := 0) (s' := { tab := [⟨4, [], D.v (.bool (((firstR c 0) == c.listen) && (decide (c.listen > (IntKind.i64.wrap ((c.parts.length : Int) * (IntKind.i64.wrap (c.lost + 1))))))))⟩], mem := [Obj.var 25 (Config.d c)], gl := (errG3 e) }) (p := True) (by kernel_rfl) (fun _ _ h => h) (by kernel_rfl) (by kernel_rfl) (by kernel_rfl) (by kernel_rfl) (by kernel_rfl) (by kernel_rfl) (by kernel_rfl) (by kernel_rfl) (by trivial) ?_
    refine PO.done (by kernel_rfl) ?_
    show PW _ _ _ _ _
    refine PW.ret ?_
    refine retQ_ret (d := D.v (.bool (((firstR c 0) == c.listen) && (decide (c.listen > (IntKind.i64.wrap ((c.parts.length : Int) * (IntKind.i64.wrap (c.lost + 1))))))))) (ps := []) (by kernel_rfl) trivial ?_
    rw [hw1, hf0 0 (by omega) (by omega)]
    simp only [D.v.injEq, Value.bool.injEq, boolS]
    omega
  · skip
    try simp only [boolS, isB_true, isB_false] at hz1
    refine PW.skip ?_
    show PW _ _ _ _ _
    refine PW.seq ?_
    refine PW.open [] (by kernel_rfl) ?_
    refine PO.takes [0, 1, 3, 4, 5, 7, 8] 30 [5, 6, 36, 37, 39, 41, 44] 1 (n := 23) (s' := { tab := [⟨5, [], D.p 0 0 0 0⟩, ⟨6, [], I p⟩, ⟨36, [], D.r (Config.d c)⟩, ⟨37, [], I p⟩, ⟨39, [], D.r (Config.d c)⟩, ⟨41, [], I (IntKind.i64.wrap (p - 1))⟩, ⟨44, [], I c.span⟩], mem := [Obj.var 25 (Config.d c)], gl := (errG3 e) }) (p := True) (by kernel_rfl) (fun _ _ h => h) (by kernel_rfl) (by kernel_rfl) (by kernel_rfl) (by kernel_rfl) (by kernel_rfl) (by kernel_rfl) (by kernel_rfl) (by kernel_rfl) (by trivial) ?_
    refine PO.one (n := 22) 2 (by kernel_rfl) ?_
    refine PO1.gcall (A := []) (f := 24) (ds := [D.r (Config.d c), I p]) rfl (by kernel_rfl) (by kernel_rfl) (by kernel_rfl) (by kernel_rfl) (by kernel_rfl) rfl (I (firstR c p)) (fun _ => bounds_First_pc e hA c hp0 hl0 p) ?_
    refine PO.one (n := 21) 6 (by kernel_rfl) ?_
    refine PO1.gcall (A := []) (f := 24) (ds := [D.r (Config.d c), I (IntKind.i64.wrap (p - 1))]) rfl (by kernel_rfl) (by kernel_rfl) (by kernel_rfl) (by kernel_rfl) (by kernel_rfl) rfl (I (firstR c (IntKind.i64.wrap (p - 1)))) (fun _ => bounds_First_pc e hA c hp0 hl0 (IntKind.i64.wrap (p - 1))) ?_
    refine PO.takes [9, 10, 11, 12, 13] 21 [5, 47, 48, 49] 1 (n := 16) (s' := { tab := [⟨5, [], D.p 0 0 0 0⟩, ⟨47, [], D.v (.bool ((firstR c p) == (IntKind.i64.wrap ((firstR c (IntKind.i64.wrap (p - 1))) + c.span))))⟩, ⟨48, [(47, true)], D.r (Config.d c)⟩, ⟨49, [(47, true)], I p⟩], mem := [Obj.var 25 (Config.d c)], gl := (errG3 e) }) (p := True) (by kernel_rfl) (fun _ _ h => h) (by kernel_rfl) (by kernel_rfl) (by kernel_rfl) (by kernel_rfl) (by kernel_rfl) (by kernel_rfl) (by kernel_rfl) (by kernel_rfl) (by trivial) ?_
    refine PO.one (n := 15) 14 (by kernel_rfl) ?_
    refine PO1.gcall (A := [(47, true)]) (f := 24) (ds := [D.r (Config.d c), I p]) rfl (by kernel_rfl) (by kernel_rfl) (by kernel_rfl) (by kernel_rfl) (by kernel_rfl) rfl (I (firstR c p)) (fun _ => bounds_First_pc e hA c hp0 hl0 p) ?_
    refine PO.takes [15, 16, 17, 18, 19, 20, 21, 22, 23, 24, 25, 26, 27, 28, 29] 15 [4] 1 (n := 0) (s' := { tab := [⟨4, [], D.v (.bool ((((firstR c p) == (IntKind.i64.wrap ((firstR c (IntKind.i64.wrap (p - 1))) + c.span))) && (decide ((firstR c p) ≤ (60000 : Int)))) && (decide (c.span > (IntKind.i64.wrap ((c.parts.length : Int) * (IntKind.i64.wrap (c.lost + 1))))))))⟩], mem := [Obj.var 25 (Config.d c)], gl := (errG3 e) }) (p := True) (by kernel_rfl) (fun _ _ h => h) (by kernel_rfl) (by kernel_rfl) (by kernel_rfl) (by kernel_rfl) (by kernel_rfl) (by kernel_rfl) (by kernel_rfl) (by kernel_rfl) (by trivial) ?_
    refine PO.done (by kernel_rfl) ?_
    show PW _ _ _ _ _
    refine PW.ret ?_
    refine retQ_ret (d := D.v (.bool ((((firstR c p) == (IntKind.i64.wrap ((firstR c (IntKind.i64.wrap (p - 1))) + c.span))) && (decide ((firstR c p) ≤ (60000 : Int)))) && (decide (c.span > (IntKind.i64.wrap ((c.parts.length : Int) * (IntKind.i64.wrap (c.lost + 1))))))))) (ps := []) (by kernel_rfl) trivial ?_
    have hpos : 0 < p := by omega
    have e1 : (p - 1) * c.span = p * c.span - c.span := by rw [Int.sub_mul]; omega
    rw [hw1, hq hpos, hf0 p (by omega) (by omega), hf0 (p - 1) (by omega) (by omega), e1, Ev.wrap_i64 (x := c.listen + (p * c.span - c.span) + c.span) (by omega) (by omega)]
    simp only [D.v.injEq, Value.bool.injEq, boolS]
    omega
end Go.Proofs.YthoddfmlemihgaaGreatDoor.Pl
