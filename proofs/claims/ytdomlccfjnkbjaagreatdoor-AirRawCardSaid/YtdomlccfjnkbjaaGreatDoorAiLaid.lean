/- What the package's variables hold when a call begins: from the rows' list to the walks' own words; and a world in which it is so. -/
import Derived.Test.YtdomlccfjnkbjaaGreatDoorFrQ
import Derived.Test.YtdomlccfjnkbjaaGreatDoorFrEncD
import Derived.Test.YtdomlccfjnkbjaaGreatDoorFrMayD
import Derived.Test.YtdomlccfjnkbjaaGreatDoorBdA
import Derived.Test.YtdomlccfjnkbjaaGreatDoorBdFour
import Derived.Test.YtdomlccfjnkbjaaGreatDoorPlAs
import Derived.Test.YtdomlccfjnkbjaaGreatDoorFrList
import Derived.Test.YtdomlccfjnkbjaaGreatDoorRows
import Derived.LaidMore
import Derived.ProofKit
import Derived.OpenShut
import Derived.Stop.Joined
namespace Go.Proofs.YtdomlccfjnkbjaaGreatDoor.Fr
open Go.ChangeShapes Go.WideShapes Go.ChangeAt Go.RowKit Go.Proofs.YtdomlccfjnkbjaaGreatDoor.Sm Go.Proofs.YtdomlccfjnkbjaaGreatDoor.Wr Go.Proofs.YtdomlccfjnkbjaaGreatDoor.Dp
set_option maxHeartbeats 4000000
set_option maxRecDepth 100000
set_option linter.unusedVariables false
set_option linter.unusedSimpArgs false
theorem encodeR_pc (f:Frame) (hf:WfA f):PC Tryz.prog [] 20 [D.r (frD f)] (· = D.t [bytesD (bytesOf f),I (if mayB f=true then 0 else 1)]):=(Pl.encodeR_pc0 f hf).coarse fun d hd=>by
 rcases hd with rfl|⟨rfl,hm⟩
 ·exact ⟨_,rfl,fun _ _ _ h=>h⟩
 ·have hb:bytesOf f=[]:=if_neg (by rw [hm]; decide)
  refine ⟨_,rfl,fun w ok v hv => ?_⟩
  rw [hb,hm]
  cases hv with
  | t hl hd =>
   refine .t hl fun j d v e1 e2 => ?_
   match j,e1 with
   | 0,e1 =>
    cases e1
    exact (hd 0 _ _ rfl e2).nil_s
   | 1,e1=>exact hd 1 _ _ e1 e2
   | j+2,e1=>exact absurd e1 (by simp)
theorem decodeX_pc (b:List UInt8) (hb:b.length≤1000000):PC Tryz.prog [] 34 [bytesD b] (· = D.t [D.r (frD (frOf (decX b))),I (noOf (errOf (decX b)))]):=decodeR_pc b _ _ _ (read_pcA b hb)
theorem wfA_dec (x:List UInt8):WfA (frOf (decX x)):=wf_dec x
end Go.Proofs.YtdomlccfjnkbjaaGreatDoor.Fr
namespace Go.Proofs.YtdomlccfjnkbjaaGreatDoor.Pl
open Go.RowKit Go.Proofs.YtdomlccfjnkbjaaGreatDoor.Sm Go.Proofs.YtdomlccfjnkbjaaGreatDoor.Dp
set_option maxHeartbeats 4000000
set_option maxRecDepth 100000
set_option linter.unusedVariables false
set_option linter.unusedSimpArgs false
def frG (e:Nat→Addr):List (Nat×List D):=[(0,[sentD e 8]),(1,[sentD e 9]),(2,[sentD e 10]),(3,[sentD e 11]),(13,[sentD e 12])]
def errG4 (e:Nat→Addr):List (Nat×List D):=frG e++((List.range 5).map (fun k=>((e (8+k)).block,[D.any]))++errG3 e)
theorem errG4_sub (e:Nat→Addr):∀ x ∈ errG3 e,x ∈ errG4 e:=fun _ hx=>List.mem_append_right _ (List.mem_append_right _ hx)
theorem errG4_mem (e:Nat→Addr) (k:Nat) (hk:k<5):((e (8+k)).block,[D.any]) ∈ errG4 e:=List.mem_append_right _ (List.mem_append_left _ (List.mem_map.2 ⟨k,List.mem_range.2 hk,rfl⟩))
def Apart4 (e:Nat→Addr):Prop:=Apart e∧∀ j k,8≤j→j<13→8≤k→k<13→e j=e k→j=k
end Go.Proofs.YtdomlccfjnkbjaaGreatDoor.Pl
namespace Go.Proofs.YtdomlccfjnkbjaaGreatDoor.Pl
open Go.ChangeShapes Go.WideShapes Go.ChangeAt Go.RowKit Go.Proofs.YtdomlccfjnkbjaaGreatDoor.Sm Go.Proofs.YtdomlccfjnkbjaaGreatDoor.Dp
set_option maxHeartbeats 4000000
set_option maxRecDepth 100000
set_option linter.unusedVariables false
set_option linter.unusedSimpArgs false
def laidL:List (String×DataW Unit):=[("errors.errorType",Rows.laid_errors_errorType),("drumline/plan.errParts",Rows.laid_drumline_plan_errParts),("drumline/plan.errNodes",Rows.laid_drumline_plan_errNodes),("drumline/plan.errLinks",Rows.laid_drumline_plan_errLinks),("drumline/plan.errEnds",Rows.laid_drumline_plan_errEnds),("drumline/plan.errTwice",Rows.laid_drumline_plan_errTwice),("drumline/plan.errPorts",Rows.laid_drumline_plan_errPorts),("drumline/plan.errApart",Rows.laid_drumline_plan_errApart),("drumline/bounds.errRange",Rows.laid_drumline_bounds_errRange),("drumline/frame.errShort",Rows.laid_drumline_frame_errShort),("drumline/frame.errSum",Rows.laid_drumline_frame_errSum),("drumline/frame.errKind",Rows.laid_drumline_frame_errKind),("drumline/frame.errForm",Rows.laid_drumline_frame_errForm),("drumline/frame.errLong",Rows.laid_drumline_frame_errLong)]
def laidS:List (String×DataW Unit):=[("drumline/plan.errParts",Rows.laid_drumline_plan_errParts),("drumline/plan.errNodes",Rows.laid_drumline_plan_errNodes),("drumline/plan.errLinks",Rows.laid_drumline_plan_errLinks),("drumline/plan.errEnds",Rows.laid_drumline_plan_errEnds),("drumline/plan.errTwice",Rows.laid_drumline_plan_errTwice),("drumline/plan.errPorts",Rows.laid_drumline_plan_errPorts),("drumline/plan.errApart",Rows.laid_drumline_plan_errApart),("drumline/bounds.errRange",Rows.laid_drumline_bounds_errRange),("drumline/frame.errShort",Rows.laid_drumline_frame_errShort),("drumline/frame.errSum",Rows.laid_drumline_frame_errSum),("drumline/frame.errKind",Rows.laid_drumline_frame_errKind),("drumline/frame.errForm",Rows.laid_drumline_frame_errForm),("drumline/frame.errLong",Rows.laid_drumline_frame_errLong)]
theorem laid_met (os:Os) (args:Array Value):laidMetH Tryz.prog laidL ((World.doorLaid Tryz.prog 400 os).forCall (fun _ _=>0) ⟨#[],args,[]⟩).memory :=
 laidMetH_of_parts3 (fuel:=8) (laidMet_of_run' 8 kR kR) kR kR
theorem laid_shaped (os:Os) (args:Array Value):((World.doorLaid Tryz.prog 400 os).forCall (fun _ _=>0) ⟨#[],args,[]⟩).Shaped Tryz.prog :=
 World.shaped_of_RefB kR kR
theorem gType:Tryz.prog.globalNamed "errors.errorType" = some 12:=by kernel_rfl
theorem g_errParts:Tryz.prog.globalNamed "drumline/plan.errParts" = some 5:=by kernel_rfl
theorem t_errParts:(Tryz.prog.globals[5]?).map (·.type)=some 112:=by kernel_rfl
theorem g_errNodes:Tryz.prog.globalNamed "drumline/plan.errNodes" = some 6:=by kernel_rfl
theorem t_errNodes:(Tryz.prog.globals[6]?).map (·.type)=some 112:=by kernel_rfl
theorem g_errLinks:Tryz.prog.globalNamed "drumline/plan.errLinks" = some 7:=by kernel_rfl
theorem t_errLinks:(Tryz.prog.globals[7]?).map (·.type)=some 112:=by kernel_rfl
theorem g_errEnds:Tryz.prog.globalNamed "drumline/plan.errEnds" = some 9:=by kernel_rfl
theorem t_errEnds:(Tryz.prog.globals[9]?).map (·.type)=some 112:=by kernel_rfl
theorem g_errTwice:Tryz.prog.globalNamed "drumline/plan.errTwice" = some 10:=by kernel_rfl
theorem t_errTwice:(Tryz.prog.globals[10]?).map (·.type)=some 112:=by kernel_rfl
theorem g_errPorts:Tryz.prog.globalNamed "drumline/plan.errPorts" = some 11:=by kernel_rfl
theorem t_errPorts:(Tryz.prog.globals[11]?).map (·.type)=some 112:=by kernel_rfl
theorem g_errApart:Tryz.prog.globalNamed "drumline/plan.errApart" = some 8:=by kernel_rfl
theorem t_errApart:(Tryz.prog.globals[8]?).map (·.type)=some 112:=by kernel_rfl
theorem g_errRange:Tryz.prog.globalNamed "drumline/bounds.errRange" = some 4:=by kernel_rfl
theorem t_errRange:(Tryz.prog.globals[4]?).map (·.type)=some 112:=by kernel_rfl
theorem g_errShort:Tryz.prog.globalNamed "drumline/frame.errShort" = some 0:=by kernel_rfl
theorem t_errShort:(Tryz.prog.globals[0]?).map (·.type)=some 112:=by kernel_rfl
theorem g_errSum:Tryz.prog.globalNamed "drumline/frame.errSum" = some 1:=by kernel_rfl
theorem t_errSum:(Tryz.prog.globals[1]?).map (·.type)=some 112:=by kernel_rfl
theorem g_errKind:Tryz.prog.globalNamed "drumline/frame.errKind" = some 2:=by kernel_rfl
theorem t_errKind:(Tryz.prog.globals[2]?).map (·.type)=some 112:=by kernel_rfl
theorem g_errForm:Tryz.prog.globalNamed "drumline/frame.errForm" = some 13:=by kernel_rfl
theorem t_errForm:(Tryz.prog.globals[13]?).map (·.type)=some 112:=by kernel_rfl
theorem g_errLong:Tryz.prog.globalNamed "drumline/frame.errLong" = some 3:=by kernel_rfl
theorem t_errLong:(Tryz.prog.globals[3]?).map (·.type)=some 112:=by kernel_rfl
theorem star : "*" ++ "errors.errorString" = "*errors.errorString" := by decide
theorem rowE (u:TypeId) (h:Tryz.prog.typeName? 3 u=some "*errors.errorString"):u=251 :=
 typeName_ptr_named (nm := "errors.errorString") (by rw [star]; kernel_rfl) kR (by decide) u (by rw [star]; exact h)
theorem cellsE:Tryz.prog.cellsOf 271=1:=by kernel_rfl
theorem cellsStr:Tryz.prog.cellsOf 9=1:=by kernel_rfl
theorem rtE:(Tryz.prog.cutTypes.find? (·.1 == "internal/reflectlite.rtype")).map (·.2)=some 210:=by kernel_rfl
theorem oneRow:((List.range Tryz.prog.types.size).filter fun t=>Tryz.prog.rowNamed t [101,114,114,111,114])=[112]:=by kernel_rfl
theorem handle_of_laid {W:World} (h:handlesMet Tryz.prog [("errors.errorType",Rows.laid_errors_errorType)] W):W.cell? ⟨12,0,none⟩=some (.iface 210 (.agg #[.pointer (some ⟨14,112,none⟩)])):=by
 obtain ⟨name,u,ty,e1,e2,e3,e4,e5⟩:=h _ (List.mem_singleton.2 rfl)
 have en:name=[101,114,114,111,114]:=(Option.some.inj e1).symm
 subst en
 obtain rfl:=Option.some.inj (rtE.symm.trans e2)
 have hm:ty ∈ (List.range Tryz.prog.types.size).filter fun t=>Tryz.prog.rowNamed t [101,114,114,111,114]:=List.mem_filter.2 ⟨List.mem_range.2 e3,e4⟩
 rw [oneRow] at hm
 obtain rfl:=List.mem_singleton.1 hm
 have hh:typeHandle Tryz.prog 112 = .pointer (some ⟨14,112,none⟩):=by kernel_rfl
 rw [hh] at e5
 simpa using World.var?_cell gType e5 0
theorem one_of_laid {W:World} {g:Nat} {nm:String} {text:List UInt8} {cs:Array Value} {f:Nat} {p ps:List MemPlace} (hg:Tryz.prog.globalNamed nm=some g) (hv:W.var? Tryz.prog nm=some cs)
  (hd:DataW.trod (fun _=>()) Tryz.prog W 0 (fun _=>true) false f 112 cs.toList=some (.iface "*errors.errorString" (.ptr (.agg [.lit (.string text)])),p))
  (hrows:∀ b off,MemPlace.cell b off ∈ ps→(∃ c t,W.heap[b]? = some (.cells c t (0,0)))∧∀ u v,W.cell? ⟨b,off,none⟩=some (.iface u v)→Value.okWide Tryz.prog W .any 0 u v) (hin:0<cs.size→MemPlace.cell g 0 ∈ ps) (hsub:∀ x ∈ p,x ∈ ps) :
  ∃ a,W.cell? ⟨g,0,none⟩=some (.iface 251 (.pointer (some a)))∧p=[.cell a.block a.off]∧(∃ v,W.cell? a=some v)∧∃ c t,W.heap[a.block]? = some (.cells c t (0,0)):=by
 obtain ⟨l⟩:=cs
 have ok:∀ u v,l=[.iface u v]→Value.okWide Tryz.prog W .any 0 u v:=fun u v e=>by
  subst e
  exact (hrows g 0 (hin (by simp))).2 u v (by simpa using World.var?_cell hg hv 0)
 obtain ⟨a,s,rfl,hc,hs,hz,rfl⟩:=errorString_of_trod Tryz.underlying112 rowE Tryz.underlying251 Tryz.underlying271 rfl rfl Tryz.underlying9 cellsE cellsStr hd ok
 have hp:MemPlace.row a 1=[.cell a.block a.off]:=by simp [MemPlace.row]
 rw [hp] at hsub ⊢
 obtain ⟨c,t,hb⟩:=(hrows a.block a.off (hsub _ (List.mem_singleton.2 rfl))).1
 exact ⟨a,by simpa using World.var?_cell hg hv 0,rfl,⟨_,hc⟩,c,t,hb⟩
theorem gl_of_cell {W:World} {g:Nat} {x:Value} (h:W.cell? ⟨g,0,none⟩=some x):GlC W (fun b=>b<W.heap.size) (g,[D.v x]):=by
 have hg:g<W.heap.size:=by
  rcases Nat.lt_or_ge g W.heap.size with h1|h1
  ·exact h1
  ·rw [show W.cell? ⟨g,0,none⟩=none by simp [World.cell?,Array.getElem?_eq_none h1]] at h; cases h
 refine ⟨?_,hg,fun h=>by cases h⟩
 exact .q (off:=0) (fun _=>x) hg (fun j hj=>by
  have:j=0:=by simp at hj; omega
  subst this; exact h) fun j d hd=>by
  match j,hd with
  | 0,hd=>injection hd with hd; subst hd; exact .v x
theorem gl_of_block {W:World} {a:Addr} {v:Value} {c:Array Value} {t:TypeId} (hb:W.heap[a.block]? = some (.cells c t (0,0))) (hc:W.cell? a=some v):GlC W (fun b=>b<W.heap.size) (a.block,[D.any]):=by
 have hg:a.block<W.heap.size:=(Array.getElem?_eq_some_iff.1 hb).1
 have h0:0<c.size:=by
  rcases Nat.eq_zero_or_pos c.size with h|h
  ·exfalso
   have:c = #[]:=Array.size_eq_zero_iff.1 h
   subst this
   unfold World.cell? at hc
   rw [hb] at hc
   revert hc
   simp
  ·exact h
 refine ⟨?_,hg,fun _=>⟨c,t,hb⟩⟩
 exact .q (off:=0) (fun _=>c[0]) hg (fun j hj=>by
  have:j=0:=by simp at hj; omega
  subst this
  rw [cell_of_row W _ _ c t (0,0) hb]
  simp [h0]) fun j d hd=>by
  match j,hd with
  | 0,hd=>injection hd with hd; subst hd; exact .any _
def pick13 (a0 a1 a2 a3 a4 a5 a6 a7 a8 a9 a10 a11 a12:Addr):Nat→Addr
 | 0=>a0
 | 1=>a1
 | 2=>a2
 | 3=>a3
 | 4=>a4
 | 5=>a5
 | 6=>a6
 | 7=>a7
 | 8=>a8
 | 9=>a9
 | 10=>a10
 | 11=>a11
 | _=>a12
def Errs (w:World) (e:Nat→Addr):Prop:=Apart4 e∧∀ x ∈ errG4 e,GlC w (fun g=>g<w.heap.size) x
theorem errs_of_laid {W:World} (h:laidMetH Tryz.prog laidL W):∃ e,Errs W e:=by
 have h':laidMet Tryz.prog laidS W∧handlesMet Tryz.prog [("errors.errorType",Rows.laid_errors_errorType)] W:=h
 obtain ⟨hm,hh⟩:=h'
 have hT:=handle_of_laid hh
 obtain ⟨ps,⟨g0,t0,cs0,f0,p0,q0,hg0,ht0,hv0,hd0,⟨g1,t1,cs1,f1,p1,q1,hg1,ht1,hv1,hd1,⟨g2,t2,cs2,f2,p2,q2,hg2,ht2,hv2,hd2,⟨g3,t3,cs3,f3,p3,q3,hg3,ht3,hv3,hd3,⟨g4,t4,cs4,f4,p4,q4,hg4,ht4,hv4,hd4,⟨g5,t5,cs5,f5,p5,q5,hg5,ht5,hv5,hd5,⟨g6,t6,cs6,f6,p6,q6,hg6,ht6,hv6,hd6,⟨g7,t7,cs7,f7,p7,q7,hg7,ht7,hv7,hd7,⟨g8,t8,cs8,f8,p8,q8,hg8,ht8,hv8,hd8,⟨g9,t9,cs9,f9,p9,q9,hg9,ht9,hv9,hd9,⟨g10,t10,cs10,f10,p10,q10,hg10,ht10,hv10,hd10,⟨g11,t11,cs11,f11,p11,q11,hg11,ht11,hv11,hd11,⟨g12,t12,cs12,f12,p12,q12,hg12,ht12,hv12,hd12,hq12,e12⟩,e11⟩,e10⟩,e9⟩,e8⟩,e7⟩,e6⟩,e5⟩,e4⟩,e3⟩,e2⟩,e1⟩,e0⟩,hnd,hrows⟩:=hm
 obtain rfl:=Option.some.inj (g_errParts.symm.trans hg0)
 obtain rfl:=Option.some.inj (t_errParts.symm.trans ht0)
 obtain rfl:=Option.some.inj (g_errNodes.symm.trans hg1)
 obtain rfl:=Option.some.inj (t_errNodes.symm.trans ht1)
 obtain rfl:=Option.some.inj (g_errLinks.symm.trans hg2)
 obtain rfl:=Option.some.inj (t_errLinks.symm.trans ht2)
 obtain rfl:=Option.some.inj (g_errEnds.symm.trans hg3)
 obtain rfl:=Option.some.inj (t_errEnds.symm.trans ht3)
 obtain rfl:=Option.some.inj (g_errTwice.symm.trans hg4)
 obtain rfl:=Option.some.inj (t_errTwice.symm.trans ht4)
 obtain rfl:=Option.some.inj (g_errPorts.symm.trans hg5)
 obtain rfl:=Option.some.inj (t_errPorts.symm.trans ht5)
 obtain rfl:=Option.some.inj (g_errApart.symm.trans hg6)
 obtain rfl:=Option.some.inj (t_errApart.symm.trans ht6)
 obtain rfl:=Option.some.inj (g_errRange.symm.trans hg7)
 obtain rfl:=Option.some.inj (t_errRange.symm.trans ht7)
 obtain rfl:=Option.some.inj (g_errShort.symm.trans hg8)
 obtain rfl:=Option.some.inj (t_errShort.symm.trans ht8)
 obtain rfl:=Option.some.inj (g_errSum.symm.trans hg9)
 obtain rfl:=Option.some.inj (t_errSum.symm.trans ht9)
 obtain rfl:=Option.some.inj (g_errKind.symm.trans hg10)
 obtain rfl:=Option.some.inj (t_errKind.symm.trans ht10)
 obtain rfl:=Option.some.inj (g_errForm.symm.trans hg11)
 obtain rfl:=Option.some.inj (t_errForm.symm.trans ht11)
 obtain rfl:=Option.some.inj (g_errLong.symm.trans hg12)
 obtain rfl:=Option.some.inj (t_errLong.symm.trans ht12)
 have hq12':q12=[]:=hq12
 subst hq12'
 subst e12
 subst e11
 subst e10
 subst e9
 subst e8
 subst e7
 subst e6
 subst e5
 subst e4
 subst e3
 subst e2
 subst e1
 subst e0
 obtain ⟨a0,c0,rfl,⟨v0,y0⟩,z0,u0,r0⟩:=one_of_laid g_errParts hv0 hd0 hrows (fun h=>by simp [MemPlace.row,h]) (by simp +contextual)
 obtain ⟨a1,c1,rfl,⟨v1,y1⟩,z1,u1,r1⟩:=one_of_laid g_errNodes hv1 hd1 hrows (fun h=>by simp [MemPlace.row,h]) (by simp +contextual)
 obtain ⟨a2,c2,rfl,⟨v2,y2⟩,z2,u2,r2⟩:=one_of_laid g_errLinks hv2 hd2 hrows (fun h=>by simp [MemPlace.row,h]) (by simp +contextual)
 obtain ⟨a3,c3,rfl,⟨v3,y3⟩,z3,u3,r3⟩:=one_of_laid g_errEnds hv3 hd3 hrows (fun h=>by simp [MemPlace.row,h]) (by simp +contextual)
 obtain ⟨a4,c4,rfl,⟨v4,y4⟩,z4,u4,r4⟩:=one_of_laid g_errTwice hv4 hd4 hrows (fun h=>by simp [MemPlace.row,h]) (by simp +contextual)
 obtain ⟨a5,c5,rfl,⟨v5,y5⟩,z5,u5,r5⟩:=one_of_laid g_errPorts hv5 hd5 hrows (fun h=>by simp [MemPlace.row,h]) (by simp +contextual)
 obtain ⟨a6,c6,rfl,⟨v6,y6⟩,z6,u6,r6⟩:=one_of_laid g_errApart hv6 hd6 hrows (fun h=>by simp [MemPlace.row,h]) (by simp +contextual)
 obtain ⟨a7,c7,rfl,⟨v7,y7⟩,z7,u7,r7⟩:=one_of_laid g_errRange hv7 hd7 hrows (fun h=>by simp [MemPlace.row,h]) (by simp +contextual)
 obtain ⟨a8,c8,rfl,⟨v8,y8⟩,z8,u8,r8⟩:=one_of_laid g_errShort hv8 hd8 hrows (fun h=>by simp [MemPlace.row,h]) (by simp +contextual)
 obtain ⟨a9,c9,rfl,⟨v9,y9⟩,z9,u9,r9⟩:=one_of_laid g_errSum hv9 hd9 hrows (fun h=>by simp [MemPlace.row,h]) (by simp +contextual)
 obtain ⟨a10,c10,rfl,⟨v10,y10⟩,z10,u10,r10⟩:=one_of_laid g_errKind hv10 hd10 hrows (fun h=>by simp [MemPlace.row,h]) (by simp +contextual)
 obtain ⟨a11,c11,rfl,⟨v11,y11⟩,z11,u11,r11⟩:=one_of_laid g_errForm hv11 hd11 hrows (fun h=>by simp [MemPlace.row,h]) (by simp +contextual)
 obtain ⟨a12,c12,rfl,⟨v12,y12⟩,z12,u12,r12⟩:=one_of_laid g_errLong hv12 hd12 hrows (fun h=>by simp [MemPlace.row,h]) (by simp +contextual)
 have hne:([a0,a1,a2,a3,a4,a5,a6,a7,a8,a9,a10,a11,a12]:List Addr).Nodup:=by
  have hmap:(([a0,a1,a2,a3,a4,a5,a6,a7,a8,a9,a10,a11,a12]:List Addr).map fun x=>MemPlace.cell x.block x.off).Nodup:=by
   have h9:=hnd
   simp only [List.nodup_append,List.nodup_cons,List.mem_append,List.mem_cons,List.not_mem_nil,or_false,not_or,List.map_cons,List.map_nil,List.nodup_nil,and_true,not_false_eq_true,ne_eq,forall_eq_or_imp,forall_eq] at h9 ⊢
   grind
  exact List.Pairwise.of_map (fun x:Addr=>MemPlace.cell x.block x.off) (fun a b h e=>h (congrArg (fun x:Addr=>MemPlace.cell x.block x.off) e)) hmap
 have hat:∀ k,k<13→[a0,a1,a2,a6,a3,a4,a5,a7,a8,a9,a10,a12,a11][k]? = some (pick13 a0 a1 a2 a6 a3 a4 a5 a7 a8 a9 a10 a12 a11 k):=fun k hk=>match k,hk with
  | 0,_=>rfl
  | 1,_=>rfl
  | 2,_=>rfl
  | 3,_=>rfl
  | 4,_=>rfl
  | 5,_=>rfl
  | 6,_=>rfl
  | 7,_=>rfl
  | 8,_=>rfl
  | 9,_=>rfl
  | 10,_=>rfl
  | 11,_=>rfl
  | 12,_=>rfl
  | k+13,h=>absurd h oM
 have hn2:([a0,a1,a2,a6,a3,a4,a5,a7,a8,a9,a10,a12,a11]:List Addr).Nodup:=by
  clear hat
  simp only [List.nodup_cons,List.mem_cons,List.not_mem_nil,or_false,not_or,List.nodup_nil,and_true,not_false_eq_true] at hne ⊢
  grind
 have hdiff:∀ j k,j<13→k<13→pick13 a0 a1 a2 a6 a3 a4 a5 a7 a8 a9 a10 a12 a11 j=pick13 a0 a1 a2 a6 a3 a4 a5 a7 a8 a9 a10 a12 a11 k→j=k:=fun j k hj hk he=>(List.getElem?_inj (show j<13 from hj) hn2).1 (by rw [hat j hj,hat k hk,he])
 refine ⟨pick13 a0 a1 a2 a6 a3 a4 a5 a7 a8 a9 a10 a12 a11,⟨?_,?_⟩,?_⟩
 ·exact fun j k hj hk he=>hdiff j k oM oM he
 ·exact fun j k h1 h2 h3 h4 he=>hdiff j k h2 h4 he
 ·intro x hx
  simp only [errG4,frG,errG3,errG2,errG,List.mem_append,List.mem_cons,List.not_mem_nil,or_false,List.mem_map,List.mem_range] at hx
  rcases hx with (rfl|rfl|rfl|rfl|rfl)|(⟨k,hk,rfl⟩|(rfl|(((rfl|rfl|rfl|rfl|rfl|rfl|rfl)|rfl)|⟨k,hk,rfl⟩)))
  ·exact gl_of_cell c8
  ·exact gl_of_cell c9
  ·exact gl_of_cell c10
  ·exact gl_of_cell c12
  ·exact gl_of_cell c11
  ·match k,hk with
   | 0,_=>exact gl_of_block r8 y8
   | 1,_=>exact gl_of_block r9 y9
   | 2,_=>exact gl_of_block r10 y10
   | 3,_=>exact gl_of_block r12 y12
   | 4,_=>exact gl_of_block r11 y11
   | k+5,h=>exact absurd h oM
  ·exact gl_of_cell c7
  ·exact gl_of_cell c0
  ·exact gl_of_cell c1
  ·exact gl_of_cell c2
  ·exact gl_of_cell c6
  ·exact gl_of_cell c3
  ·exact gl_of_cell c4
  ·exact gl_of_cell c5
  ·exact gl_of_cell hT
  ·match k,hk with
   | 0,_=>exact gl_of_block r0 y0
   | 1,_=>exact gl_of_block r1 y1
   | 2,_=>exact gl_of_block r2 y2
   | 3,_=>exact gl_of_block r6 y6
   | 4,_=>exact gl_of_block r3 y3
   | 5,_=>exact gl_of_block r4 y4
   | 6,_=>exact gl_of_block r5 y5
   | k+7,h=>exact absurd h oM
end Go.Proofs.YtdomlccfjnkbjaaGreatDoor.Pl
