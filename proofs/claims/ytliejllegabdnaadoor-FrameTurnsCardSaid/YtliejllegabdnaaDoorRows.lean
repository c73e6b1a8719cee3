/-
  NARROWER THAN 'FOR EVERY INPUT', by the rows' own cells (each row's printed sentence says how): FrameTells: laid · FrameBack: laid · FrameCuts: laid · FrameTurns: laid · FrameUnlike: laid.
  DERIVED. THE GIVEN ROWS OF THIS SEAT. 5 by the template 'for every input the law returns true; each argument reads behind the call as it read before'; 0 by the template 'total and deterministic' (their statements: YtliejllegabdnaaDoorTotals.lean).
  GIVEN WITH THE SEED: the statements are not yours to turn. If you find one false, say at which input.
  Laid BY PROGRAM, IN A SANDBOX (cutbox-rows.mjs): the forced cells as the released guide's own fill.sh prints them over the translation 06df33513bd9c5ce… (all of the seat's roots in one cut). By AI agents, Wed Nov 11 2026. No macro, syntax, notation, axiom, sorry.
-/
import Derived.Test.YtliejllegabdnaaDoorChecked
import GoSem.Claim
import GoSem.ClaimJoined
import GoSem.ClaimMapViews
import Derived.JoinedTies
import Derived.KernelRfl
namespace Go.Proofs.YtliejllegabdnaaDoor
/- THE CELL 'sum', in the pinned program and in every row, IS THE sha256 OF THE DUMP (.gsa) THAT YtliejllegabdnaaDoorProg.lean LOADS. Nothing in Lean hashes anything: it is a label: what it is worth is what the hold of that sum in a sandbox is worth. -/
noncomputable def Tryd.pinned : Pinned := { name := "ytliejllegabdnaadoor", sum := "06df33513bd9c5ce8b261dbd62db1ba804f767665571e4b1d0225cc99776aada", checked := Tryd.checked }
namespace Rows
def none {H : Type} : Left H := { results := [], args := [] }

/- WHAT THE LISTED PACKAGE-LEVEL VARIABLES READ AS WHEN THE CALL BEGINS. Each datum BY PROGRAM (the guide's laid-datum.mjs) off the statement by which the dump's own 'gosem.cut.vars' lays the variable. In a bare row this is a premise. The card (YtliejllegabdnaaDoorCards.lean) ties it to the program's text. -/
def laid_errors_errorType {H : Type} : DataW H := .iface "internal/reflectlite.rtype" (.agg [.ptr (.lit (.string [101, 114, 114, 111, 114]))])
def laid_drumline_frame_errShort {H : Type} : DataW H := .iface "*errors.errorString" (.ptr (.agg [.lit (.string [116, 104, 101, 32, 98, 121, 116, 101, 115, 32, 101, 110, 100, 32, 116, 111, 111, 32, 101, 97, 114, 108, 121])]))
def laid_drumline_frame_errSum {H : Type} : DataW H := .iface "*errors.errorString" (.ptr (.agg [.lit (.string [116, 104, 101, 32, 115, 117, 109, 32, 105, 115, 32, 119, 114, 111, 110, 103])]))
def laid_drumline_frame_errKind {H : Type} : DataW H := .iface "*errors.errorString" (.ptr (.agg [.lit (.string [110, 111, 32, 102, 114, 97, 109, 101, 32, 104, 97, 115, 32, 116, 104, 105, 115, 32, 107, 105, 110, 100])]))
def laid_drumline_frame_errForm {H : Type} : DataW H := .iface "*errors.errorString" (.ptr (.agg [.lit (.string [110, 111, 32, 102, 114, 97, 109, 101, 32, 104, 97, 115, 32, 116, 104, 105, 115, 32, 118, 97, 108, 117, 101])]))
def laid_drumline_frame_errLong {H : Type} : DataW H := .iface "*errors.errorString" (.ptr (.agg [.lit (.string [116, 104, 101, 32, 98, 121, 116, 101, 115, 32, 101, 110, 100, 32, 116, 111, 111, 32, 108, 97, 116, 101])]))

/-- 'drumlinelaw4.FrameTells': WHATEVER THE INPUT: true; the input reads as it did. -/
def frameTellsSpec : ChangeSpec := { name := "frameTells", fn := fun _ => fun
  | [d1, d2] => { results := [.lit (.bool true)], args := [d1, d2] }
  | _ => none }
def frameTellsRow : OpenClaim := { program := "ytliejllegabdnaadoor", sum := "06df33513bd9c5ce8b261dbd62db1ba804f767665571e4b1d0225cc99776aada", func := "drumline/drumlinelaw4.FrameTells", spec := "frameTells", inPlace := ["internal/reflectlite.TypeOf", "internal/reflectlite.ValueOf", "(internal/reflectlite.Value).Type", "(internal/reflectlite.Value).IsNil", "(internal/reflectlite.Value).Elem", "(internal/reflectlite.Value).Set"], unfollowed := true, recurses := true, named := ["drumline/frame.errLong", "drumline/frame.errKind", "drumline/frame.errShort", "drumline/frame.errForm", "drumline/frame.errSum", "errors.errorType"], apart := false, laid := [("errors.errorType", laid_errors_errorType), ("drumline/frame.errShort", laid_drumline_frame_errShort), ("drumline/frame.errSum", laid_drumline_frame_errSum), ("drumline/frame.errKind", laid_drumline_frame_errKind), ("drumline/frame.errForm", laid_drumline_frame_errForm), ("drumline/frame.errLong", laid_drumline_frame_errLong)] }
def FrameTellsSaid : Prop := frameTellsRow.holds Tryd.pinned (OpenSpec.ofChange frameTellsSpec)

/-- ITS FALSE NEIGHBOUR: 'it returns false'. Refute it at one input. -/
def frameTellsWrong : ChangeSpec := { name := "frameTells", fn := fun _ => fun
  | [d1, d2] => { results := [.lit (.bool false)], args := [d1, d2] }
  | _ => none }
def FrameTellsWrongFalsely : Prop := frameTellsRow.holds Tryd.pinned (OpenSpec.ofChange frameTellsWrong)

/-- 'drumlinelaw4.FrameBack': WHATEVER THE INPUT: true; the input reads as it did. -/
def frameBackSpec : ChangeSpec := { name := "frameBack", fn := fun _ => fun
  | [d] => { results := [.lit (.bool true)], args := [d] }
  | _ => none }
def frameBackRow : OpenClaim := { program := "ytliejllegabdnaadoor", sum := "06df33513bd9c5ce8b261dbd62db1ba804f767665571e4b1d0225cc99776aada", func := "drumline/drumlinelaw4.FrameBack", spec := "frameBack", inPlace := ["internal/reflectlite.TypeOf", "internal/reflectlite.ValueOf", "(internal/reflectlite.Value).Type", "(internal/reflectlite.Value).IsNil", "(internal/reflectlite.Value).Elem", "(internal/reflectlite.Value).Set"], unfollowed := true, recurses := true, named := ["drumline/frame.errLong", "drumline/frame.errKind", "drumline/frame.errShort", "drumline/frame.errForm", "drumline/frame.errSum", "errors.errorType"], apart := false, laid := [("errors.errorType", laid_errors_errorType), ("drumline/frame.errShort", laid_drumline_frame_errShort), ("drumline/frame.errSum", laid_drumline_frame_errSum), ("drumline/frame.errKind", laid_drumline_frame_errKind), ("drumline/frame.errForm", laid_drumline_frame_errForm), ("drumline/frame.errLong", laid_drumline_frame_errLong)] }
def FrameBackSaid : Prop := frameBackRow.holds Tryd.pinned (OpenSpec.ofChange frameBackSpec)

/-- ITS FALSE NEIGHBOUR: 'it returns false'. Refute it at one input. -/
def frameBackWrong : ChangeSpec := { name := "frameBack", fn := fun _ => fun
  | [d] => { results := [.lit (.bool false)], args := [d] }
  | _ => none }
def FrameBackWrongFalsely : Prop := frameBackRow.holds Tryd.pinned (OpenSpec.ofChange frameBackWrong)

/-- 'drumlinelaw4.FrameCuts': WHATEVER THE INPUT: true; the input reads as it did. -/
def frameCutsSpec : ChangeSpec := { name := "frameCuts", fn := fun _ => fun
  | [d1, d2, d3] => { results := [.lit (.bool true)], args := [d1, d2, d3] }
  | _ => none }
def frameCutsRow : OpenClaim := { program := "ytliejllegabdnaadoor", sum := "06df33513bd9c5ce8b261dbd62db1ba804f767665571e4b1d0225cc99776aada", func := "drumline/drumlinelaw4.FrameCuts", spec := "frameCuts", inPlace := ["internal/reflectlite.TypeOf", "internal/reflectlite.ValueOf", "(internal/reflectlite.Value).Type", "(internal/reflectlite.Value).IsNil", "(internal/reflectlite.Value).Elem", "(internal/reflectlite.Value).Set"], unfollowed := true, recurses := true, named := ["drumline/frame.errLong", "drumline/frame.errKind", "drumline/frame.errShort", "drumline/frame.errForm", "drumline/frame.errSum", "errors.errorType"], apart := false, laid := [("errors.errorType", laid_errors_errorType), ("drumline/frame.errShort", laid_drumline_frame_errShort), ("drumline/frame.errSum", laid_drumline_frame_errSum), ("drumline/frame.errKind", laid_drumline_frame_errKind), ("drumline/frame.errForm", laid_drumline_frame_errForm), ("drumline/frame.errLong", laid_drumline_frame_errLong)] }
def FrameCutsSaid : Prop := frameCutsRow.holds Tryd.pinned (OpenSpec.ofChange frameCutsSpec)

/-- ITS FALSE NEIGHBOUR: 'it returns false'. Refute it at one input. -/
def frameCutsWrong : ChangeSpec := { name := "frameCuts", fn := fun _ => fun
  | [d1, d2, d3] => { results := [.lit (.bool false)], args := [d1, d2, d3] }
  | _ => none }
def FrameCutsWrongFalsely : Prop := frameCutsRow.holds Tryd.pinned (OpenSpec.ofChange frameCutsWrong)

/-- 'drumlinelaw4.FrameTurns': WHATEVER THE INPUT: true; the input reads as it did. -/
def frameTurnsSpec : ChangeSpec := { name := "frameTurns", fn := fun _ => fun
  | [d1, d2, d3] => { results := [.lit (.bool true)], args := [d1, d2, d3] }
  | _ => none }
def frameTurnsRow : OpenClaim := { program := "ytliejllegabdnaadoor", sum := "06df33513bd9c5ce8b261dbd62db1ba804f767665571e4b1d0225cc99776aada", func := "drumline/drumlinelaw4.FrameTurns", spec := "frameTurns", inPlace := ["internal/reflectlite.TypeOf", "internal/reflectlite.ValueOf", "(internal/reflectlite.Value).Type", "(internal/reflectlite.Value).IsNil", "(internal/reflectlite.Value).Elem", "(internal/reflectlite.Value).Set"], unfollowed := true, recurses := true, named := ["drumline/frame.errLong", "drumline/frame.errKind", "drumline/frame.errShort", "drumline/frame.errForm", "drumline/frame.errSum", "errors.errorType"], apart := false, laid := [("errors.errorType", laid_errors_errorType), ("drumline/frame.errShort", laid_drumline_frame_errShort), ("drumline/frame.errSum", laid_drumline_frame_errSum), ("drumline/frame.errKind", laid_drumline_frame_errKind), ("drumline/frame.errForm", laid_drumline_frame_errForm), ("drumline/frame.errLong", laid_drumline_frame_errLong)] }
def FrameTurnsSaid : Prop := frameTurnsRow.holds Tryd.pinned (OpenSpec.ofChange frameTurnsSpec)

/-- ITS FALSE NEIGHBOUR: 'it returns false'. Refute it at one input. -/
def frameTurnsWrong : ChangeSpec := { name := "frameTurns", fn := fun _ => fun
  | [d1, d2, d3] => { results := [.lit (.bool false)], args := [d1, d2, d3] }
  | _ => none }
def FrameTurnsWrongFalsely : Prop := frameTurnsRow.holds Tryd.pinned (OpenSpec.ofChange frameTurnsWrong)

/-- 'drumlinelaw4.FrameUnlike': WHATEVER THE INPUT: true; the input reads as it did. -/
def frameUnlikeSpec : ChangeSpec := { name := "frameUnlike", fn := fun _ => fun
  | [d1, d2] => { results := [.lit (.bool true)], args := [d1, d2] }
  | _ => none }
def frameUnlikeRow : OpenClaim := { program := "ytliejllegabdnaadoor", sum := "06df33513bd9c5ce8b261dbd62db1ba804f767665571e4b1d0225cc99776aada", func := "drumline/drumlinelaw4.FrameUnlike", spec := "frameUnlike", inPlace := ["internal/reflectlite.TypeOf", "internal/reflectlite.ValueOf", "(internal/reflectlite.Value).Type", "(internal/reflectlite.Value).IsNil", "(internal/reflectlite.Value).Elem", "(internal/reflectlite.Value).Set"], unfollowed := true, recurses := true, named := ["drumline/frame.errLong", "drumline/frame.errKind", "drumline/frame.errShort", "drumline/frame.errForm", "drumline/frame.errSum", "errors.errorType"], apart := false, laid := [("errors.errorType", laid_errors_errorType), ("drumline/frame.errShort", laid_drumline_frame_errShort), ("drumline/frame.errSum", laid_drumline_frame_errSum), ("drumline/frame.errKind", laid_drumline_frame_errKind), ("drumline/frame.errForm", laid_drumline_frame_errForm), ("drumline/frame.errLong", laid_drumline_frame_errLong)] }
def FrameUnlikeSaid : Prop := frameUnlikeRow.holds Tryd.pinned (OpenSpec.ofChange frameUnlikeSpec)

/-- ITS FALSE NEIGHBOUR: 'it returns false'. Refute it at one input. -/
def frameUnlikeWrong : ChangeSpec := { name := "frameUnlike", fn := fun _ => fun
  | [d1, d2] => { results := [.lit (.bool false)], args := [d1, d2] }
  | _ => none }
def FrameUnlikeWrongFalsely : Prop := frameUnlikeRow.holds Tryd.pinned (OpenSpec.ofChange frameUnlikeWrong)

/- THE SECOND FORM. 'bulk': how many values and letters a reading holds, each counted each time it is reached (what is shared counts as often as it is met; a slice's spare places count too). A statement '..UptoSaid' is the law's where the arguments, and the package variables that the reading takes, are together of bulk at most 1048576: NARROWER than '..Said'. Prove '..Said' where nothing that the law and all that it calls make is longer than what came in: it says more and counts as full. Else prove '..UptoSaid'. A law counts once. -/
mutual
def uptoBulk {H : Type} : DataW H → Nat
  | .lit (.string bytes) => bytes.length + 1
  | .lit _ => 1
  | .nil => 1
  | .ptr d => uptoBulk d + 1
  | .slice elems spare => uptoBulkAll elems + uptoBulkAll spare + 1
  | .agg parts => uptoBulkAll parts + 1
  | .iface _ d => uptoBulk d + 1
  | .map entries => uptoBulkEntries entries + 1
  | .held _ => 1
def uptoBulkAll {H : Type} : List (DataW H) → Nat
  | [] => 0
  | d :: r => uptoBulk d + uptoBulkAll r
def uptoBulkEntries {H : Type} : List (Lit × DataW H) → Nat
  | [] => 0
  | x :: r => uptoBulkEntry x + uptoBulkEntries r
def uptoBulkEntry {H : Type} : Lit × DataW H → Nat
  | (.string bytes, d) => bytes.length + uptoBulk d + 1
  | (_, d) => uptoBulk d + 1
 end
def uptoSmall : (H : Type) → List (DataW H) → Bool := fun _ ds => decide (uptoBulkAll ds ≤ 1048576)
def OpenSpec.upto (s : _root_.Go.ChangeSpec) : _root_.Go.OpenSpec := { _root_.Go.OpenSpec.ofChange s with cond := some uptoSmall }

/-- 'drumlinelaw4.FrameTells', WHERE WHAT IT READS IS OF BULK AT MOST 1048576: true; the input reads as it did. -/
def frameTellsUptoRow : OpenClaim := { program := "ytliejllegabdnaadoor", sum := "06df33513bd9c5ce8b261dbd62db1ba804f767665571e4b1d0225cc99776aada", func := "drumline/drumlinelaw4.FrameTells", spec := "frameTells", inPlace := ["internal/reflectlite.TypeOf", "internal/reflectlite.ValueOf", "(internal/reflectlite.Value).Type", "(internal/reflectlite.Value).IsNil", "(internal/reflectlite.Value).Elem", "(internal/reflectlite.Value).Set"], unfollowed := true, recurses := true, named := ["drumline/frame.errLong", "drumline/frame.errKind", "drumline/frame.errShort", "drumline/frame.errForm", "drumline/frame.errSum", "errors.errorType"], apart := false, laid := [("errors.errorType", laid_errors_errorType), ("drumline/frame.errShort", laid_drumline_frame_errShort), ("drumline/frame.errSum", laid_drumline_frame_errSum), ("drumline/frame.errKind", laid_drumline_frame_errKind), ("drumline/frame.errForm", laid_drumline_frame_errForm), ("drumline/frame.errLong", laid_drumline_frame_errLong)], narrowed := true }
def FrameTellsUptoSaid : Prop := frameTellsUptoRow.holds Tryd.pinned (OpenSpec.upto frameTellsSpec)

/-- 'drumlinelaw4.FrameBack', WHERE WHAT IT READS IS OF BULK AT MOST 1048576: true; the input reads as it did. -/
def frameBackUptoRow : OpenClaim := { program := "ytliejllegabdnaadoor", sum := "06df33513bd9c5ce8b261dbd62db1ba804f767665571e4b1d0225cc99776aada", func := "drumline/drumlinelaw4.FrameBack", spec := "frameBack", inPlace := ["internal/reflectlite.TypeOf", "internal/reflectlite.ValueOf", "(internal/reflectlite.Value).Type", "(internal/reflectlite.Value).IsNil", "(internal/reflectlite.Value).Elem", "(internal/reflectlite.Value).Set"], unfollowed := true, recurses := true, named := ["drumline/frame.errLong", "drumline/frame.errKind", "drumline/frame.errShort", "drumline/frame.errForm", "drumline/frame.errSum", "errors.errorType"], apart := false, laid := [("errors.errorType", laid_errors_errorType), ("drumline/frame.errShort", laid_drumline_frame_errShort), ("drumline/frame.errSum", laid_drumline_frame_errSum), ("drumline/frame.errKind", laid_drumline_frame_errKind), ("drumline/frame.errForm", laid_drumline_frame_errForm), ("drumline/frame.errLong", laid_drumline_frame_errLong)], narrowed := true }
def FrameBackUptoSaid : Prop := frameBackUptoRow.holds Tryd.pinned (OpenSpec.upto frameBackSpec)

/-- 'drumlinelaw4.FrameCuts', WHERE WHAT IT READS IS OF BULK AT MOST 1048576: true; the input reads as it did. -/
def frameCutsUptoRow : OpenClaim := { program := "ytliejllegabdnaadoor", sum := "06df33513bd9c5ce8b261dbd62db1ba804f767665571e4b1d0225cc99776aada", func := "drumline/drumlinelaw4.FrameCuts", spec := "frameCuts", inPlace := ["internal/reflectlite.TypeOf", "internal/reflectlite.ValueOf", "(internal/reflectlite.Value).Type", "(internal/reflectlite.Value).IsNil", "(internal/reflectlite.Value).Elem", "(internal/reflectlite.Value).Set"], unfollowed := true, recurses := true, named := ["drumline/frame.errLong", "drumline/frame.errKind", "drumline/frame.errShort", "drumline/frame.errForm", "drumline/frame.errSum", "errors.errorType"], apart := false, laid := [("errors.errorType", laid_errors_errorType), ("drumline/frame.errShort", laid_drumline_frame_errShort), ("drumline/frame.errSum", laid_drumline_frame_errSum), ("drumline/frame.errKind", laid_drumline_frame_errKind), ("drumline/frame.errForm", laid_drumline_frame_errForm), ("drumline/frame.errLong", laid_drumline_frame_errLong)], narrowed := true }
def FrameCutsUptoSaid : Prop := frameCutsUptoRow.holds Tryd.pinned (OpenSpec.upto frameCutsSpec)

/-- 'drumlinelaw4.FrameTurns', WHERE WHAT IT READS IS OF BULK AT MOST 1048576: true; the input reads as it did. -/
def frameTurnsUptoRow : OpenClaim := { program := "ytliejllegabdnaadoor", sum := "06df33513bd9c5ce8b261dbd62db1ba804f767665571e4b1d0225cc99776aada", func := "drumline/drumlinelaw4.FrameTurns", spec := "frameTurns", inPlace := ["internal/reflectlite.TypeOf", "internal/reflectlite.ValueOf", "(internal/reflectlite.Value).Type", "(internal/reflectlite.Value).IsNil", "(internal/reflectlite.Value).Elem", "(internal/reflectlite.Value).Set"], unfollowed := true, recurses := true, named := ["drumline/frame.errLong", "drumline/frame.errKind", "drumline/frame.errShort", "drumline/frame.errForm", "drumline/frame.errSum", "errors.errorType"], apart := false, laid := [("errors.errorType", laid_errors_errorType), ("drumline/frame.errShort", laid_drumline_frame_errShort), ("drumline/frame.errSum", laid_drumline_frame_errSum), ("drumline/frame.errKind", laid_drumline_frame_errKind), ("drumline/frame.errForm", laid_drumline_frame_errForm), ("drumline/frame.errLong", laid_drumline_frame_errLong)], narrowed := true }
def FrameTurnsUptoSaid : Prop := frameTurnsUptoRow.holds Tryd.pinned (OpenSpec.upto frameTurnsSpec)

/-- 'drumlinelaw4.FrameUnlike', WHERE WHAT IT READS IS OF BULK AT MOST 1048576: true; the input reads as it did. -/
def frameUnlikeUptoRow : OpenClaim := { program := "ytliejllegabdnaadoor", sum := "06df33513bd9c5ce8b261dbd62db1ba804f767665571e4b1d0225cc99776aada", func := "drumline/drumlinelaw4.FrameUnlike", spec := "frameUnlike", inPlace := ["internal/reflectlite.TypeOf", "internal/reflectlite.ValueOf", "(internal/reflectlite.Value).Type", "(internal/reflectlite.Value).IsNil", "(internal/reflectlite.Value).Elem", "(internal/reflectlite.Value).Set"], unfollowed := true, recurses := true, named := ["drumline/frame.errLong", "drumline/frame.errKind", "drumline/frame.errShort", "drumline/frame.errForm", "drumline/frame.errSum", "errors.errorType"], apart := false, laid := [("errors.errorType", laid_errors_errorType), ("drumline/frame.errShort", laid_drumline_frame_errShort), ("drumline/frame.errSum", laid_drumline_frame_errSum), ("drumline/frame.errKind", laid_drumline_frame_errKind), ("drumline/frame.errForm", laid_drumline_frame_errForm), ("drumline/frame.errLong", laid_drumline_frame_errLong)], narrowed := true }
def FrameUnlikeUptoSaid : Prop := frameUnlikeUptoRow.holds Tryd.pinned (OpenSpec.upto frameUnlikeSpec)

end Rows
end Go.Proofs.YtliejllegabdnaaDoor
