/- A guard as an argument of a law. -/
import Derived.Test.YtdomlccfjnkbjaaPlArg
namespace Go.Proofs.Ytdomlccfjnkbjaa.Pl
open Go.ChangeShapes Go.WideShapes Go.ChangeAt Go.RowKit Go.Proofs.Ytdomlccfjnkbjaa.Sm Go.Proofs.Ytdomlccfjnkbjaa.Dp
set_option maxHeartbeats 4000000
set_option maxRecDepth 100000
set_option linter.unusedVariables false
set_option linter.unusedSimpArgs false
structure Guard where
 on:Bool
 start:Int
 ages:List Int
deriving DecidableEq,Inhabited
def Guard.d (g:Guard):List D:=[D.v (.bool g.on),I g.start,sl' 1 (fun x=>[I x]) g.ages]
def Guard.ok (g:Guard):Prop:=Is64 g.start∧(∀ x ∈ g.ages,Is64 x)∧g.ages.length≤maxLen
def GuardV (w:World) (v:Value) (g:Guard):Prop:=RepC w (fun g=>g<w.heap.size) (.r (Guard.d g)) v∧g.ok
def shGuard:List Sh:=[.bool,.int .i64,.sl [.int .i64]]
theorem Fit.b {d:D} (h:Fit .bool d):∃ b,d=D.v (.bool b):=by
 cases h with
 | bool b=>exact ⟨b,rfl⟩
theorem int_of (ds:List D) (h:Fits [.int .i64] ds):∃ n:Int,ds=(fun x=>[I x]) n∧Is64 n:=by
 obtain ⟨hl,hg⟩:=Fits.ints (k:=1) h
 match ds,hl with
 | [d0],_ =>
  obtain ⟨n0,e0,w0⟩:=hg 0 (by decide)
  simp only [List.getElem?_cons_zero,Option.some.injEq] at e0
  subst e0
  exact ⟨n0,rfl,w0⟩
end Go.Proofs.Ytdomlccfjnkbjaa.Pl
