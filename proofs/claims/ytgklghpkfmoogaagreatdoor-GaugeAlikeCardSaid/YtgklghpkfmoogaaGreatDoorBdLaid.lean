/- What the package's variables hold when a call begins: from the rows' list to the walks' own words; and a world in which it is so. -/
import Derived.Test.YtgklghpkfmoogaaGreatDoorRows
import Derived.Test.YtgklghpkfmoogaaGreatDoorBdA
import Derived.LaidMore
import Derived.ProofKit
import Derived.OpenShut
import Derived.Stop.Joined
namespace Go.Proofs.YtgklghpkfmoogaaGreatDoor.Pl
open Go.ChangeShapes Go.WideShapes Go.ChangeAt Go.RowKit Go.Proofs.YtgklghpkfmoogaaGreatDoor.Sm Go.Proofs.YtgklghpkfmoogaaGreatDoor.Dp
set_option maxHeartbeats 4000000
set_option maxRecDepth 100000
set_option linter.unusedVariables false
set_option linter.unusedSimpArgs false
def laidL:List (String×DataW Unit):=[("errors.errorType",Rows.laid_errors_errorType),("drumline/plan.errParts",Rows.laid_drumline_plan_errParts),("drumline/plan.errNodes",Rows.laid_drumline_plan_errNodes),("drumline/plan.errLinks",Rows.laid_drumline_plan_errLinks),("drumline/plan.errEnds",Rows.laid_drumline_plan_errEnds),("drumline/plan.errTwice",Rows.laid_drumline_plan_errTwice),("drumline/plan.errPorts",Rows.laid_drumline_plan_errPorts),("drumline/plan.errApart",Rows.laid_drumline_plan_errApart),("drumline/bounds.errRange",Rows.laid_drumline_bounds_errRange)]
def laidS:List (String×DataW Unit):=[("drumline/plan.errParts",Rows.laid_drumline_plan_errParts),("drumline/plan.errNodes",Rows.laid_drumline_plan_errNodes),("drumline/plan.errLinks",Rows.laid_drumline_plan_errLinks),("drumline/plan.errEnds",Rows.laid_drumline_plan_errEnds),("drumline/plan.errTwice",Rows.laid_drumline_plan_errTwice),("drumline/plan.errPorts",Rows.laid_drumline_plan_errPorts),("drumline/plan.errApart",Rows.laid_drumline_plan_errApart),("drumline/bounds.errRange",Rows.laid_drumline_bounds_errRange)]
theorem laid_met (os:Os) (args:Array Value):laidMetH Tryz.prog laidL ((World.doorLaid Tryz.prog 400 os).forCall (fun _ _=>0) ⟨#[],args,[]⟩).memory :=
 laidMetH_of_parts3 (fuel:=8) (laidMet_of_run' 8 kR kR) kR kR
theorem laid_shaped (os:Os) (args:Array Value):((World.doorLaid Tryz.prog 400 os).forCall (fun _ _=>0) ⟨#[],args,[]⟩).Shaped Tryz.prog :=
 World.shaped_of_RefB kR kR
theorem gType:Tryz.prog.globalNamed "errors.errorType" = some 8:=by kernel_rfl
theorem g_errParts:Tryz.prog.globalNamed "drumline/plan.errParts" = some 1:=by kernel_rfl
theorem t_errParts:(Tryz.prog.globals[1]?).map (·.type)=some 76:=by kernel_rfl
theorem g_errNodes:Tryz.prog.globalNamed "drumline/plan.errNodes" = some 2:=by kernel_rfl
theorem t_errNodes:(Tryz.prog.globals[2]?).map (·.type)=some 76:=by kernel_rfl
theorem g_errLinks:Tryz.prog.globalNamed "drumline/plan.errLinks" = some 3:=by kernel_rfl
theorem t_errLinks:(Tryz.prog.globals[3]?).map (·.type)=some 76:=by kernel_rfl
theorem g_errEnds:Tryz.prog.globalNamed "drumline/plan.errEnds" = some 5:=by kernel_rfl
theorem t_errEnds:(Tryz.prog.globals[5]?).map (·.type)=some 76:=by kernel_rfl
theorem g_errTwice:Tryz.prog.globalNamed "drumline/plan.errTwice" = some 6:=by kernel_rfl
theorem t_errTwice:(Tryz.prog.globals[6]?).map (·.type)=some 76:=by kernel_rfl
theorem g_errPorts:Tryz.prog.globalNamed "drumline/plan.errPorts" = some 7:=by kernel_rfl
theorem t_errPorts:(Tryz.prog.globals[7]?).map (·.type)=some 76:=by kernel_rfl
theorem g_errApart:Tryz.prog.globalNamed "drumline/plan.errApart" = some 4:=by kernel_rfl
theorem t_errApart:(Tryz.prog.globals[4]?).map (·.type)=some 76:=by kernel_rfl
theorem g_errRange:Tryz.prog.globalNamed "drumline/bounds.errRange" = some 0:=by kernel_rfl
theorem t_errRange:(Tryz.prog.globals[0]?).map (·.type)=some 76:=by kernel_rfl
theorem star : "*" ++ "errors.errorString" = "*errors.errorString" := by decide
theorem rowE (u:TypeId) (h:Tryz.prog.typeName? 3 u=some "*errors.errorString"):u=171 :=
 typeName_ptr_named (nm := "errors.errorString") (by rw [star]; kernel_rfl) kR (by decide) u (by rw [star]; exact h)
theorem cellsE:Tryz.prog.cellsOf 192=1:=by kernel_rfl
theorem cellsStr:Tryz.prog.cellsOf 9=1:=by kernel_rfl
theorem rtE:(Tryz.prog.cutTypes.find? (·.1 == "internal/reflectlite.rtype")).map (·.2)=some 154:=by kernel_rfl
theorem oneRow:((List.range Tryz.prog.types.size).filter fun t=>Tryz.prog.rowNamed t [101,114,114,111,114])=[76]:=by kernel_rfl
theorem handle_of_laid {W:World} (h:handlesMet Tryz.prog [("errors.errorType",Rows.laid_errors_errorType)] W):W.cell? ⟨8,0,none⟩=some (.iface 154 (.agg #[.pointer (some ⟨9,76,none⟩)])):=by
 obtain ⟨name,u,ty,e1,e2,e3,e4,e5⟩:=h _ (List.mem_singleton.2 rfl)
 have en:name=[101,114,114,111,114]:=(Option.some.inj e1).symm
 subst en
 obtain rfl:=Option.some.inj (rtE.symm.trans e2)
 have hm:ty ∈ (List.range Tryz.prog.types.size).filter fun t=>Tryz.prog.rowNamed t [101,114,114,111,114]:=List.mem_filter.2 ⟨List.mem_range.2 e3,e4⟩
 rw [oneRow] at hm
 obtain rfl:=List.mem_singleton.1 hm
 have hh:typeHandle Tryz.prog 76 = .pointer (some ⟨9,76,none⟩):=by kernel_rfl
 rw [hh] at e5
 simpa using World.var?_cell gType e5 0
theorem one_of_laid {W:World} {g:Nat} {nm:String} {text:List UInt8} {cs:Array Value} {f:Nat} {p ps:List MemPlace} (hg:Tryz.prog.globalNamed nm=some g) (hv:W.var? Tryz.prog nm=some cs)
  (hd:DataW.trod (fun _=>()) Tryz.prog W 0 (fun _=>true) false f 76 cs.toList=some (.iface "*errors.errorString" (.ptr (.agg [.lit (.string text)])),p))
  (hrows:∀ b off,MemPlace.cell b off ∈ ps→(∃ c t,W.heap[b]? = some (.cells c t (0,0)))∧∀ u v,W.cell? ⟨b,off,none⟩=some (.iface u v)→Value.okWide Tryz.prog W .any 0 u v) (hin:0<cs.size→MemPlace.cell g 0 ∈ ps) (hsub:∀ x ∈ p,x ∈ ps) :
  ∃ a,W.cell? ⟨g,0,none⟩=some (.iface 171 (.pointer (some a)))∧p=[.cell a.block a.off]∧(∃ v,W.cell? a=some v)∧∃ c t,W.heap[a.block]? = some (.cells c t (0,0)):=by
 obtain ⟨l⟩:=cs
 have ok:∀ u v,l=[.iface u v]→Value.okWide Tryz.prog W .any 0 u v:=fun u v e=>by
  subst e
  exact (hrows g 0 (hin (by simp))).2 u v (by simpa using World.var?_cell hg hv 0)
 obtain ⟨a,s,rfl,hc,hs,hz,rfl⟩:=errorString_of_trod Tryz.underlying76 rowE Tryz.underlying171 Tryz.underlying192 rfl rfl Tryz.underlying9 cellsE cellsStr hd ok
 have hp:MemPlace.row a 1=[.cell a.block a.off]:=by simp [MemPlace.row]
 rw [hp] at hsub ⊢
 obtain ⟨c,t,hb⟩:=(hrows a.block a.off (hsub _ (List.mem_singleton.2 rfl))).1
 exact ⟨a,by simpa using World.var?_cell hg hv 0,rfl,⟨_,hc⟩,c,t,hb⟩
theorem gl_of_cell {W:World} {g:Nat} {x:Value} (h:W.cell? ⟨g,0,none⟩=some x):GlC W (fun b=>b<W.heap.size) (g,[D.v x]):=by
 have hg:g<W.heap.size:=by
  rcases Nat.lt_or_ge g W.heap.size with h1|h1
  ·exact h1
  ·rw [show W.cell? ⟨g,0,none⟩=none by simp [World.cell?,Array.getElem?_eq_none h1]] at h; cases h
 refine ⟨?_,hg,fun h=>by cases h⟩
 exact .q (off:=0) (fun _=>x) hg (fun j hj=>by
  have:j=0:=by simp at hj; omega
  subst this; exact h) fun j d hd=>by
  match j,hd with
  | 0,hd=>injection hd with hd; subst hd; exact .v x
theorem gl_of_block {W:World} {a:Addr} {v:Value} {c:Array Value} {t:TypeId} (hb:W.heap[a.block]? = some (.cells c t (0,0))) (hc:W.cell? a=some v):GlC W (fun b=>b<W.heap.size) (a.block,[D.any]):=by
 have hg:a.block<W.heap.size:=(Array.getElem?_eq_some_iff.1 hb).1
 have h0:0<c.size:=by
  rcases Nat.eq_zero_or_pos c.size with h|h
  ·exfalso
   have:c = #[]:=Array.size_eq_zero_iff.1 h
   subst this
   unfold World.cell? at hc
   rw [hb] at hc
   revert hc
   simp
  ·exact h
 refine ⟨?_,hg,fun _=>⟨c,t,hb⟩⟩
 exact .q (off:=0) (fun _=>c[0]) hg (fun j hj=>by
  have:j=0:=by simp at hj; omega
  subst this
  rw [cell_of_row W _ _ c t (0,0) hb]
  simp [h0]) fun j d hd=>by
  match j,hd with
  | 0,hd=>injection hd with hd; subst hd; exact .any _
def pick8 (a0 a1 a2 a3 a4 a5 a6 a7:Addr):Nat→Addr
 | 0=>a0
 | 1=>a1
 | 2=>a2
 | 3=>a3
 | 4=>a4
 | 5=>a5
 | 6=>a6
 | _=>a7
def Errs (w:World) (e:Nat→Addr):Prop:=Apart e∧∀ x ∈ errG3 e,GlC w (fun g=>g<w.heap.size) x
theorem errs_of_laid {W:World} (h:laidMetH Tryz.prog laidL W):∃ e,Errs W e:=by
 have h':laidMet Tryz.prog laidS W∧handlesMet Tryz.prog [("errors.errorType",Rows.laid_errors_errorType)] W:=h
 obtain ⟨hm,hh⟩:=h'
 have hT:=handle_of_laid hh
 obtain ⟨ps,⟨g0,t0,cs0,f0,p0,q0,hg0,ht0,hv0,hd0,⟨g1,t1,cs1,f1,p1,q1,hg1,ht1,hv1,hd1,⟨g2,t2,cs2,f2,p2,q2,hg2,ht2,hv2,hd2,⟨g3,t3,cs3,f3,p3,q3,hg3,ht3,hv3,hd3,⟨g4,t4,cs4,f4,p4,q4,hg4,ht4,hv4,hd4,⟨g5,t5,cs5,f5,p5,q5,hg5,ht5,hv5,hd5,⟨g6,t6,cs6,f6,p6,q6,hg6,ht6,hv6,hd6,⟨g7,t7,cs7,f7,p7,q7,hg7,ht7,hv7,hd7,hq7,e7⟩,e6⟩,e5⟩,e4⟩,e3⟩,e2⟩,e1⟩,e0⟩,hnd,hrows⟩:=hm
 obtain rfl:=Option.some.inj (g_errParts.symm.trans hg0)
 obtain rfl:=Option.some.inj (t_errParts.symm.trans ht0)
 obtain rfl:=Option.some.inj (g_errNodes.symm.trans hg1)
 obtain rfl:=Option.some.inj (t_errNodes.symm.trans ht1)
 obtain rfl:=Option.some.inj (g_errLinks.symm.trans hg2)
 obtain rfl:=Option.some.inj (t_errLinks.symm.trans ht2)
 obtain rfl:=Option.some.inj (g_errEnds.symm.trans hg3)
 obtain rfl:=Option.some.inj (t_errEnds.symm.trans ht3)
 obtain rfl:=Option.some.inj (g_errTwice.symm.trans hg4)
 obtain rfl:=Option.some.inj (t_errTwice.symm.trans ht4)
 obtain rfl:=Option.some.inj (g_errPorts.symm.trans hg5)
 obtain rfl:=Option.some.inj (t_errPorts.symm.trans ht5)
 obtain rfl:=Option.some.inj (g_errApart.symm.trans hg6)
 obtain rfl:=Option.some.inj (t_errApart.symm.trans ht6)
 obtain rfl:=Option.some.inj (g_errRange.symm.trans hg7)
 obtain rfl:=Option.some.inj (t_errRange.symm.trans ht7)
 have hq7':q7=[]:=hq7
 subst hq7'
 subst e7
 subst e6
 subst e5
 subst e4
 subst e3
 subst e2
 subst e1
 subst e0
 obtain ⟨a0,c0,rfl,⟨v0,y0⟩,z0,u0,r0⟩:=one_of_laid g_errParts hv0 hd0 hrows (fun h=>by simp [MemPlace.row,h]) (by simp +contextual)
 obtain ⟨a1,c1,rfl,⟨v1,y1⟩,z1,u1,r1⟩:=one_of_laid g_errNodes hv1 hd1 hrows (fun h=>by simp [MemPlace.row,h]) (by simp +contextual)
 obtain ⟨a2,c2,rfl,⟨v2,y2⟩,z2,u2,r2⟩:=one_of_laid g_errLinks hv2 hd2 hrows (fun h=>by simp [MemPlace.row,h]) (by simp +contextual)
 obtain ⟨a3,c3,rfl,⟨v3,y3⟩,z3,u3,r3⟩:=one_of_laid g_errEnds hv3 hd3 hrows (fun h=>by simp [MemPlace.row,h]) (by simp +contextual)
 obtain ⟨a4,c4,rfl,⟨v4,y4⟩,z4,u4,r4⟩:=one_of_laid g_errTwice hv4 hd4 hrows (fun h=>by simp [MemPlace.row,h]) (by simp +contextual)
 obtain ⟨a5,c5,rfl,⟨v5,y5⟩,z5,u5,r5⟩:=one_of_laid g_errPorts hv5 hd5 hrows (fun h=>by simp [MemPlace.row,h]) (by simp +contextual)
 obtain ⟨a6,c6,rfl,⟨v6,y6⟩,z6,u6,r6⟩:=one_of_laid g_errApart hv6 hd6 hrows (fun h=>by simp [MemPlace.row,h]) (by simp +contextual)
 obtain ⟨a7,c7,rfl,⟨v7,y7⟩,z7,u7,r7⟩:=one_of_laid g_errRange hv7 hd7 hrows (fun h=>by simp [MemPlace.row,h]) (by simp +contextual)
 refine ⟨pick8 a0 a1 a2 a6 a3 a4 a5 a7,?_,?_⟩
 ·have hp:∀ x y:Addr,x=y→MemPlace.cell x.block x.off=MemPlace.cell y.block y.off:=fun x y e=>by rw [e]
  simp only [List.nodup_append,List.nodup_cons,List.mem_append,List.mem_cons,List.not_mem_nil,or_false] at hnd
  have hne:([a0,a1,a2,a6,a3,a4,a5,a7]:List Addr).Nodup:=by
   simp only [List.nodup_cons,List.mem_cons,List.not_mem_nil,or_false]
   grind
  intro j k hj hk he
  have hl:∀ i,i<7→[a0,a1,a2,a6,a3,a4,a5,a7][i]? = some (pick8 a0 a1 a2 a6 a3 a4 a5 a7 i):=fun i hi=>match i,hi with
   | 0,_|1,_|2,_|3,_|4,_|5,_|6,_=>rfl
   | i+7,h=>absurd h oM
  exact (List.getElem?_inj (show j<8 from Nat.lt_succ_of_lt hj) hne).1 (by rw [hl j hj,hl k hk,he])
 ·intro x hx
  simp only [errG3,errG2,errG,List.mem_append,List.mem_cons,List.not_mem_nil,or_false,List.mem_map,List.mem_range] at hx
  rcases hx with rfl|(((rfl|rfl|rfl|rfl|rfl|rfl|rfl)|rfl)|⟨k,hk,rfl⟩)
  ·exact gl_of_cell c7
  ·exact gl_of_cell c0
  ·exact gl_of_cell c1
  ·exact gl_of_cell c2
  ·exact gl_of_cell c6
  ·exact gl_of_cell c3
  ·exact gl_of_cell c4
  ·exact gl_of_cell c5
  ·exact gl_of_cell hT
  ·match k,hk with
   | 0,_=>exact gl_of_block r0 y0
   | 1,_=>exact gl_of_block r1 y1
   | 2,_=>exact gl_of_block r2 y2
   | 3,_=>exact gl_of_block r6 y6
   | 4,_=>exact gl_of_block r3 y3
   | 5,_=>exact gl_of_block r4 y4
   | 6,_=>exact gl_of_block r5 y5
   | k+7,h=>exact absurd h oM
end Go.Proofs.YtgklghpkfmoogaaGreatDoor.Pl
