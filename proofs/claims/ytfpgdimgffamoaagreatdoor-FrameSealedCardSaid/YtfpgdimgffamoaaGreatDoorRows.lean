/-
  NARROWER THAN 'FOR EVERY INPUT', by the rows' own cells (each row's printed sentence says how): FrameReads: laid · FrameSealed: laid.
  DERIVED. THE GIVEN ROWS OF THIS SEAT. 2 by the template 'for every input the law returns true; each argument reads behind the call as it read before'; 0 by the template 'total and deterministic' (their statements: YtfpgdimgffamoaaGreatDoorTotals.lean).
  GIVEN WITH THE SEED: the statements are not yours to turn. If you find one false, say at which input.
  Laid BY PROGRAM, IN A SANDBOX (cutbox-rows.mjs): the forced cells as the released guide's own fill.sh prints them over the translation b0c4b3b2abb548d5… (all of the seat's roots in one cut). By AI agents, Wed Nov 11 2026. No macro, syntax, notation, axiom, sorry.
-/
import Derived.Test.YtfpgdimgffamoaaGreatDoorChecked
import GoSem.Claim
import GoSem.ClaimJoined
import GoSem.ClaimMapViews
import Derived.JoinedTies
import Derived.KernelRfl
namespace Go.Proofs.YtfpgdimgffamoaaGreatDoor
/- THE CELL 'sum', in the pinned program and in every row, IS THE sha256 OF THE DUMP (.gsa) THAT YtfpgdimgffamoaaGreatDoorProg.lean LOADS. Nothing in Lean hashes anything: it is a label: what it is worth is what the hold of that sum in a sandbox is worth. -/
noncomputable def Tryz.pinned : Pinned := { name := "ytfpgdimgffamoaagreatdoor", sum := "b0c4b3b2abb548d5f926170244d5fd31477a67eb89ca9922a53c19ae7e8be8ee", checked := Tryz.checked }
namespace Rows
def none {H : Type} : Left H := { results := [], args := [] }

/- WHAT THE LISTED PACKAGE-LEVEL VARIABLES READ AS WHEN THE CALL BEGINS. Each datum BY PROGRAM (the guide's laid-datum.mjs) off the statement by which the dump's own 'gosem.cut.vars' lays the variable. In a bare row this is a premise. The card (YtfpgdimgffamoaaGreatDoorCards.lean) ties it to the program's text. -/
def laid_errors_errorType {H : Type} : DataW H := .iface "internal/reflectlite.rtype" (.agg [.ptr (.lit (.string [101, 114, 114, 111, 114]))])
def laid_drumline_frame_errShort {H : Type} : DataW H := .iface "*errors.errorString" (.ptr (.agg [.lit (.string [116, 104, 101, 32, 98, 121, 116, 101, 115, 32, 101, 110, 100, 32, 116, 111, 111, 32, 101, 97, 114, 108, 121])]))
def laid_drumline_frame_errSum {H : Type} : DataW H := .iface "*errors.errorString" (.ptr (.agg [.lit (.string [116, 104, 101, 32, 115, 117, 109, 32, 105, 115, 32, 119, 114, 111, 110, 103])]))
def laid_drumline_frame_errKind {H : Type} : DataW H := .iface "*errors.errorString" (.ptr (.agg [.lit (.string [110, 111, 32, 102, 114, 97, 109, 101, 32, 104, 97, 115, 32, 116, 104, 105, 115, 32, 107, 105, 110, 100])]))
def laid_drumline_frame_errForm {H : Type} : DataW H := .iface "*errors.errorString" (.ptr (.agg [.lit (.string [110, 111, 32, 102, 114, 97, 109, 101, 32, 104, 97, 115, 32, 116, 104, 105, 115, 32, 118, 97, 108, 117, 101])]))
def laid_drumline_frame_errLong {H : Type} : DataW H := .iface "*errors.errorString" (.ptr (.agg [.lit (.string [116, 104, 101, 32, 98, 121, 116, 101, 115, 32, 101, 110, 100, 32, 116, 111, 111, 32, 108, 97, 116, 101])]))

/-- 'drumlinelaw4.FrameReads': WHATEVER THE INPUT: true; the input reads as it did. -/
def frameReadsSpec : ChangeSpec := { name := "frameReads", fn := fun _ => fun
  | [d] => { results := [.lit (.bool true)], args := [d] }
  | _ => none }
def frameReadsRow : OpenClaim := { program := "ytfpgdimgffamoaagreatdoor", sum := "b0c4b3b2abb548d5f926170244d5fd31477a67eb89ca9922a53c19ae7e8be8ee", func := "drumline/drumlinelaw4.FrameReads", spec := "frameReads", inPlace := ["internal/reflectlite.TypeOf", "internal/reflectlite.ValueOf", "(internal/reflectlite.Value).Type", "(internal/reflectlite.Value).IsNil", "(internal/reflectlite.Value).Elem", "(internal/reflectlite.Value).Set"], unfollowed := true, recurses := true, named := ["drumline/frame.errLong", "drumline/frame.errKind", "drumline/frame.errShort", "drumline/frame.errForm", "drumline/frame.errSum", "errors.errorType"], apart := false, laid := [("errors.errorType", laid_errors_errorType), ("drumline/frame.errShort", laid_drumline_frame_errShort), ("drumline/frame.errSum", laid_drumline_frame_errSum), ("drumline/frame.errKind", laid_drumline_frame_errKind), ("drumline/frame.errForm", laid_drumline_frame_errForm), ("drumline/frame.errLong", laid_drumline_frame_errLong)] }
def FrameReadsSaid : Prop := frameReadsRow.holds Tryz.pinned (OpenSpec.ofChange frameReadsSpec)

/-- ITS FALSE NEIGHBOUR: 'it returns false'. Refute it at one input. -/
def frameReadsWrong : ChangeSpec := { name := "frameReads", fn := fun _ => fun
  | [d] => { results := [.lit (.bool false)], args := [d] }
  | _ => none }
def FrameReadsWrongFalsely : Prop := frameReadsRow.holds Tryz.pinned (OpenSpec.ofChange frameReadsWrong)

/-- 'drumlinelaw4.FrameSealed': WHATEVER THE INPUT: true; the input reads as it did. -/
def frameSealedSpec : ChangeSpec := { name := "frameSealed", fn := fun _ => fun
  | [d] => { results := [.lit (.bool true)], args := [d] }
  | _ => none }
def frameSealedRow : OpenClaim := { program := "ytfpgdimgffamoaagreatdoor", sum := "b0c4b3b2abb548d5f926170244d5fd31477a67eb89ca9922a53c19ae7e8be8ee", func := "drumline/drumlinelaw4.FrameSealed", spec := "frameSealed", inPlace := ["internal/reflectlite.TypeOf", "internal/reflectlite.ValueOf", "(internal/reflectlite.Value).Type", "(internal/reflectlite.Value).IsNil", "(internal/reflectlite.Value).Elem", "(internal/reflectlite.Value).Set"], unfollowed := true, recurses := true, named := ["drumline/frame.errLong", "drumline/frame.errKind", "drumline/frame.errShort", "drumline/frame.errForm", "drumline/frame.errSum", "errors.errorType"], apart := false, laid := [("errors.errorType", laid_errors_errorType), ("drumline/frame.errShort", laid_drumline_frame_errShort), ("drumline/frame.errSum", laid_drumline_frame_errSum), ("drumline/frame.errKind", laid_drumline_frame_errKind), ("drumline/frame.errForm", laid_drumline_frame_errForm), ("drumline/frame.errLong", laid_drumline_frame_errLong)] }
def FrameSealedSaid : Prop := frameSealedRow.holds Tryz.pinned (OpenSpec.ofChange frameSealedSpec)

/-- ITS FALSE NEIGHBOUR: 'it returns false'. Refute it at one input. -/
def frameSealedWrong : ChangeSpec := { name := "frameSealed", fn := fun _ => fun
  | [d] => { results := [.lit (.bool false)], args := [d] }
  | _ => none }
def FrameSealedWrongFalsely : Prop := frameSealedRow.holds Tryz.pinned (OpenSpec.ofChange frameSealedWrong)

/- THE SECOND FORM. 'bulk': how many values and letters a reading holds, each counted each time it is reached (what is shared counts as often as it is met; a slice's spare places count too). A statement '..UptoSaid' is the law's where the arguments, and the package variables that the reading takes, are together of bulk at most 1048576: NARROWER than '..Said'. Prove '..Said' where nothing that the law and all that it calls make is longer than what came in: it says more and counts as full. Else prove '..UptoSaid'. A law counts once. -/
mutual
def uptoBulk {H : Type} : DataW H → Nat
  | .lit (.string bytes) => bytes.length + 1
  | .lit _ => 1
  | .nil => 1
  | .ptr d => uptoBulk d + 1
  | .slice elems spare => uptoBulkAll elems + uptoBulkAll spare + 1
  | .agg parts => uptoBulkAll parts + 1
  | .iface _ d => uptoBulk d + 1
  | .map entries => uptoBulkEntries entries + 1
  | .held _ => 1
def uptoBulkAll {H : Type} : List (DataW H) → Nat
  | [] => 0
  | d :: r => uptoBulk d + uptoBulkAll r
def uptoBulkEntries {H : Type} : List (Lit × DataW H) → Nat
  | [] => 0
  | x :: r => uptoBulkEntry x + uptoBulkEntries r
def uptoBulkEntry {H : Type} : Lit × DataW H → Nat
  | (.string bytes, d) => bytes.length + uptoBulk d + 1
  | (_, d) => uptoBulk d + 1
 end
def uptoSmall : (H : Type) → List (DataW H) → Bool := fun _ ds => decide (uptoBulkAll ds ≤ 1048576)
def OpenSpec.upto (s : _root_.Go.ChangeSpec) : _root_.Go.OpenSpec := { _root_.Go.OpenSpec.ofChange s with cond := some uptoSmall }

/-- 'drumlinelaw4.FrameReads', WHERE WHAT IT READS IS OF BULK AT MOST 1048576: true; the input reads as it did. -/
def frameReadsUptoRow : OpenClaim := { program := "ytfpgdimgffamoaagreatdoor", sum := "b0c4b3b2abb548d5f926170244d5fd31477a67eb89ca9922a53c19ae7e8be8ee", func := "drumline/drumlinelaw4.FrameReads", spec := "frameReads", inPlace := ["internal/reflectlite.TypeOf", "internal/reflectlite.ValueOf", "(internal/reflectlite.Value).Type", "(internal/reflectlite.Value).IsNil", "(internal/reflectlite.Value).Elem", "(internal/reflectlite.Value).Set"], unfollowed := true, recurses := true, named := ["drumline/frame.errLong", "drumline/frame.errKind", "drumline/frame.errShort", "drumline/frame.errForm", "drumline/frame.errSum", "errors.errorType"], apart := false, laid := [("errors.errorType", laid_errors_errorType), ("drumline/frame.errShort", laid_drumline_frame_errShort), ("drumline/frame.errSum", laid_drumline_frame_errSum), ("drumline/frame.errKind", laid_drumline_frame_errKind), ("drumline/frame.errForm", laid_drumline_frame_errForm), ("drumline/frame.errLong", laid_drumline_frame_errLong)], narrowed := true }
def FrameReadsUptoSaid : Prop := frameReadsUptoRow.holds Tryz.pinned (OpenSpec.upto frameReadsSpec)

/-- 'drumlinelaw4.FrameSealed', WHERE WHAT IT READS IS OF BULK AT MOST 1048576: true; the input reads as it did. -/
def frameSealedUptoRow : OpenClaim := { program := "ytfpgdimgffamoaagreatdoor", sum := "b0c4b3b2abb548d5f926170244d5fd31477a67eb89ca9922a53c19ae7e8be8ee", func := "drumline/drumlinelaw4.FrameSealed", spec := "frameSealed", inPlace := ["internal/reflectlite.TypeOf", "internal/reflectlite.ValueOf", "(internal/reflectlite.Value).Type", "(internal/reflectlite.Value).IsNil", "(internal/reflectlite.Value).Elem", "(internal/reflectlite.Value).Set"], unfollowed := true, recurses := true, named := ["drumline/frame.errLong", "drumline/frame.errKind", "drumline/frame.errShort", "drumline/frame.errForm", "drumline/frame.errSum", "errors.errorType"], apart := false, laid := [("errors.errorType", laid_errors_errorType), ("drumline/frame.errShort", laid_drumline_frame_errShort), ("drumline/frame.errSum", laid_drumline_frame_errSum), ("drumline/frame.errKind", laid_drumline_frame_errKind), ("drumline/frame.errForm", laid_drumline_frame_errForm), ("drumline/frame.errLong", laid_drumline_frame_errLong)], narrowed := true }
def FrameSealedUptoSaid : Prop := frameSealedUptoRow.holds Tryz.pinned (OpenSpec.upto frameSealedSpec)

end Rows
end Go.Proofs.YtfpgdimgffamoaaGreatDoor
