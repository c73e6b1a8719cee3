/-
  NARROWER THAN 'FOR EVERY INPUT', by the rows' own cells (each row's printed sentence says how): GaugeBegins: laid · GaugeAlike: laid.
  DERIVED. THE GIVEN ROWS OF THIS SEAT. 2 by the template 'for every input the law returns true; each argument reads behind the call as it read before'; 0 by the template 'total and deterministic' (their statements: YtgklghpkfmoogaaGreatDoorTotals.lean).
  GIVEN WITH THE SEED: the statements are not yours to turn. If you find one false, say at which input.
  Laid BY PROGRAM, IN A SANDBOX (cutbox-rows.mjs): the forced cells as the released guide's own fill.sh prints them over the translation 5926920c9b0bb853… (all of the seat's roots in one cut). By AI agents, Wed Nov 11 2026. No macro, syntax, notation, axiom, sorry.
-/
import Derived.Test.YtgklghpkfmoogaaGreatDoorChecked
import GoSem.Claim
import GoSem.ClaimJoined
import GoSem.ClaimMapViews
import Derived.JoinedTies
import Derived.KernelRfl
namespace Go.Proofs.YtgklghpkfmoogaaGreatDoor
/- THE CELL 'sum', in the pinned program and in every row, IS THE sha256 OF THE DUMP (.gsa) THAT YtgklghpkfmoogaaGreatDoorProg.lean LOADS. Nothing in Lean hashes anything: it is a label: what it is worth is what the hold of that sum in a sandbox is worth. -/
noncomputable def Tryz.pinned : Pinned := { name := "ytgklghpkfmoogaagreatdoor", sum := "5926920c9b0bb85393e38920025cbf2ebcd4965a78c20ed8655abdd08a038450", checked := Tryz.checked }
namespace Rows
def none {H : Type} : Left H := { results := [], args := [] }

/- WHAT THE LISTED PACKAGE-LEVEL VARIABLES READ AS WHEN THE CALL BEGINS. Each datum BY PROGRAM (the guide's laid-datum.mjs) off the statement by which the dump's own 'gosem.cut.vars' lays the variable. In a bare row this is a premise. The card (YtgklghpkfmoogaaGreatDoorCards.lean) ties it to the program's text. -/
def laid_errors_errorType {H : Type} : DataW H := .iface "internal/reflectlite.rtype" (.agg [.ptr (.lit (.string [101, 114, 114, 111, 114]))])
def laid_drumline_plan_errParts {H : Type} : DataW H := .iface "*errors.errorString" (.ptr (.agg [.lit (.string [116, 111, 111, 32, 102, 101, 119, 32, 111, 114, 32, 116, 111, 111, 32, 109, 97, 110, 121, 32, 112, 97, 114, 116, 115])]))
def laid_drumline_plan_errNodes {H : Type} : DataW H := .iface "*errors.errorString" (.ptr (.agg [.lit (.string [116, 104, 101, 32, 112, 97, 114, 116, 32, 99, 97, 110, 110, 111, 116, 32, 104, 97, 118, 101, 32, 116, 104, 101, 115, 101, 32, 110, 111, 100, 101, 115, 32, 97, 110, 100, 32, 102, 97, 117, 108, 116, 115])]))
def laid_drumline_plan_errLinks {H : Type} : DataW H := .iface "*errors.errorString" (.ptr (.agg [.lit (.string [116, 111, 111, 32, 109, 97, 110, 121, 32, 108, 105, 110, 107, 115])]))
def laid_drumline_plan_errEnds {H : Type} : DataW H := .iface "*errors.errorString" (.ptr (.agg [.lit (.string [116, 104, 101, 32, 108, 105, 110, 107, 32, 100, 111, 101, 115, 32, 110, 111, 116, 32, 106, 111, 105, 110, 32, 97, 32, 112, 97, 114, 116, 32, 116, 111, 32, 97, 32, 108, 97, 116, 101, 114, 32, 111, 110, 101])]))
def laid_drumline_plan_errTwice {H : Type} : DataW H := .iface "*errors.errorString" (.ptr (.agg [.lit (.string [97, 110, 32, 101, 97, 114, 108, 105, 101, 114, 32, 108, 105, 110, 107, 32, 106, 111, 105, 110, 115, 32, 116, 104, 101, 32, 115, 97, 109, 101, 32, 112, 97, 114, 116, 115])]))
def laid_drumline_plan_errPorts {H : Type} : DataW H := .iface "*errors.errorString" (.ptr (.agg [.lit (.string [116, 104, 101, 32, 108, 105, 110, 107, 32, 99, 97, 110, 110, 111, 116, 32, 104, 97, 118, 101, 32, 116, 104, 101, 115, 101, 32, 112, 111, 114, 116, 115])]))
def laid_drumline_plan_errApart {H : Type} : DataW H := .iface "*errors.errorString" (.ptr (.agg [.lit (.string [116, 104, 101, 32, 112, 97, 114, 116, 32, 105, 115, 32, 110, 111, 116, 32, 114, 101, 97, 99, 104, 101, 100, 32, 102, 114, 111, 109, 32, 112, 97, 114, 116, 32, 48])]))
def laid_drumline_bounds_errRange {H : Type} : DataW H := .iface "*errors.errorString" (.ptr (.agg [.lit (.string [116, 104, 101, 32, 99, 111, 110, 100, 105, 116, 105, 111, 110, 32, 100, 111, 101, 115, 32, 110, 111, 116, 32, 104, 111, 108, 100])]))

/-- 'drumlinelaw12.GaugeBegins': WHATEVER THE INPUT: true; the input reads as it did. -/
def gaugeBeginsSpec : ChangeSpec := { name := "gaugeBegins", fn := fun _ => fun
  | [d1, d2, d3, d4] => { results := [.lit (.bool true)], args := [d1, d2, d3, d4] }
  | _ => none }
def gaugeBeginsRow : OpenClaim := { program := "ytgklghpkfmoogaagreatdoor", sum := "5926920c9b0bb85393e38920025cbf2ebcd4965a78c20ed8655abdd08a038450", func := "drumline/drumlinelaw12.GaugeBegins", spec := "gaugeBegins", inPlace := ["internal/reflectlite.TypeOf", "internal/reflectlite.ValueOf", "(internal/reflectlite.Value).Type", "(internal/reflectlite.Value).IsNil", "(internal/reflectlite.Value).Elem", "(internal/reflectlite.Value).Set"], unfollowed := true, recurses := true, named := ["drumline/bounds.errRange", "drumline/plan.errParts", "drumline/plan.errNodes", "drumline/plan.errLinks", "drumline/plan.errApart", "drumline/plan.errEnds", "drumline/plan.errTwice", "drumline/plan.errPorts", "errors.errorType"], apart := false, laid := [("errors.errorType", laid_errors_errorType), ("drumline/plan.errParts", laid_drumline_plan_errParts), ("drumline/plan.errNodes", laid_drumline_plan_errNodes), ("drumline/plan.errLinks", laid_drumline_plan_errLinks), ("drumline/plan.errEnds", laid_drumline_plan_errEnds), ("drumline/plan.errTwice", laid_drumline_plan_errTwice), ("drumline/plan.errPorts", laid_drumline_plan_errPorts), ("drumline/plan.errApart", laid_drumline_plan_errApart), ("drumline/bounds.errRange", laid_drumline_bounds_errRange)] }
def GaugeBeginsSaid : Prop := gaugeBeginsRow.holds Tryz.pinned (OpenSpec.ofChange gaugeBeginsSpec)

/-- ITS FALSE NEIGHBOUR: 'it returns false'. Refute it at one input. -/
def gaugeBeginsWrong : ChangeSpec := { name := "gaugeBegins", fn := fun _ => fun
  | [d1, d2, d3, d4] => { results := [.lit (.bool false)], args := [d1, d2, d3, d4] }
  | _ => none }
def GaugeBeginsWrongFalsely : Prop := gaugeBeginsRow.holds Tryz.pinned (OpenSpec.ofChange gaugeBeginsWrong)

/-- 'drumlinelaw12.GaugeAlike': WHATEVER THE INPUT: true; the input reads as it did. -/
def gaugeAlikeSpec : ChangeSpec := { name := "gaugeAlike", fn := fun _ => fun
  | [d1, d2, d3, d4] => { results := [.lit (.bool true)], args := [d1, d2, d3, d4] }
  | _ => none }
def gaugeAlikeRow : OpenClaim := { program := "ytgklghpkfmoogaagreatdoor", sum := "5926920c9b0bb85393e38920025cbf2ebcd4965a78c20ed8655abdd08a038450", func := "drumline/drumlinelaw12.GaugeAlike", spec := "gaugeAlike", inPlace := ["internal/reflectlite.TypeOf", "internal/reflectlite.ValueOf", "(internal/reflectlite.Value).Type", "(internal/reflectlite.Value).IsNil", "(internal/reflectlite.Value).Elem", "(internal/reflectlite.Value).Set"], unfollowed := true, recurses := true, named := ["drumline/bounds.errRange", "drumline/plan.errParts", "drumline/plan.errNodes", "drumline/plan.errLinks", "drumline/plan.errApart", "drumline/plan.errEnds", "drumline/plan.errTwice", "drumline/plan.errPorts", "errors.errorType"], apart := false, laid := [("errors.errorType", laid_errors_errorType), ("drumline/plan.errParts", laid_drumline_plan_errParts), ("drumline/plan.errNodes", laid_drumline_plan_errNodes), ("drumline/plan.errLinks", laid_drumline_plan_errLinks), ("drumline/plan.errEnds", laid_drumline_plan_errEnds), ("drumline/plan.errTwice", laid_drumline_plan_errTwice), ("drumline/plan.errPorts", laid_drumline_plan_errPorts), ("drumline/plan.errApart", laid_drumline_plan_errApart), ("drumline/bounds.errRange", laid_drumline_bounds_errRange)] }
def GaugeAlikeSaid : Prop := gaugeAlikeRow.holds Tryz.pinned (OpenSpec.ofChange gaugeAlikeSpec)

/-- ITS FALSE NEIGHBOUR: 'it returns false'. Refute it at one input. -/
def gaugeAlikeWrong : ChangeSpec := { name := "gaugeAlike", fn := fun _ => fun
  | [d1, d2, d3, d4] => { results := [.lit (.bool false)], args := [d1, d2, d3, d4] }
  | _ => none }
def GaugeAlikeWrongFalsely : Prop := gaugeAlikeRow.holds Tryz.pinned (OpenSpec.ofChange gaugeAlikeWrong)

/- THE SECOND FORM. 'bulk': how many values and letters a reading holds, each counted each time it is reached (what is shared counts as often as it is met; a slice's spare places count too). A statement '..UptoSaid' is the law's where the arguments, and the package variables that the reading takes, are together of bulk at most 1048576: NARROWER than '..Said'. Prove '..Said' where nothing that the law and all that it calls make is longer than what came in: it says more and counts as full. Else prove '..UptoSaid'. A law counts once. -/
mutual
def uptoBulk {H : Type} : DataW H → Nat
  | .lit (.string bytes) => bytes.length + 1
  | .lit _ => 1
  | .nil => 1
  | .ptr d => uptoBulk d + 1
  | .slice elems spare => uptoBulkAll elems + uptoBulkAll spare + 1
  | .agg parts => uptoBulkAll parts + 1
  | .iface _ d => uptoBulk d + 1
  | .map entries => uptoBulkEntries entries + 1
  | .held _ => 1
def uptoBulkAll {H : Type} : List (DataW H) → Nat
  | [] => 0
  | d :: r => uptoBulk d + uptoBulkAll r
def uptoBulkEntries {H : Type} : List (Lit × DataW H) → Nat
  | [] => 0
  | x :: r => uptoBulkEntry x + uptoBulkEntries r
def uptoBulkEntry {H : Type} : Lit × DataW H → Nat
  | (.string bytes, d) => bytes.length + uptoBulk d + 1
  | (_, d) => uptoBulk d + 1
 end
def uptoSmall : (H : Type) → List (DataW H) → Bool := fun _ ds => decide (uptoBulkAll ds ≤ 1048576)
def OpenSpec.upto (s : _root_.Go.ChangeSpec) : _root_.Go.OpenSpec := { _root_.Go.OpenSpec.ofChange s with cond := some uptoSmall }

/-- 'drumlinelaw12.GaugeBegins', WHERE WHAT IT READS IS OF BULK AT MOST 1048576: true; the input reads as it did. -/
def gaugeBeginsUptoRow : OpenClaim := { program := "ytgklghpkfmoogaagreatdoor", sum := "5926920c9b0bb85393e38920025cbf2ebcd4965a78c20ed8655abdd08a038450", func := "drumline/drumlinelaw12.GaugeBegins", spec := "gaugeBegins", inPlace := ["internal/reflectlite.TypeOf", "internal/reflectlite.ValueOf", "(internal/reflectlite.Value).Type", "(internal/reflectlite.Value).IsNil", "(internal/reflectlite.Value).Elem", "(internal/reflectlite.Value).Set"], unfollowed := true, recurses := true, named := ["drumline/bounds.errRange", "drumline/plan.errParts", "drumline/plan.errNodes", "drumline/plan.errLinks", "drumline/plan.errApart", "drumline/plan.errEnds", "drumline/plan.errTwice", "drumline/plan.errPorts", "errors.errorType"], apart := false, laid := [("errors.errorType", laid_errors_errorType), ("drumline/plan.errParts", laid_drumline_plan_errParts), ("drumline/plan.errNodes", laid_drumline_plan_errNodes), ("drumline/plan.errLinks", laid_drumline_plan_errLinks), ("drumline/plan.errEnds", laid_drumline_plan_errEnds), ("drumline/plan.errTwice", laid_drumline_plan_errTwice), ("drumline/plan.errPorts", laid_drumline_plan_errPorts), ("drumline/plan.errApart", laid_drumline_plan_errApart), ("drumline/bounds.errRange", laid_drumline_bounds_errRange)], narrowed := true }
def GaugeBeginsUptoSaid : Prop := gaugeBeginsUptoRow.holds Tryz.pinned (OpenSpec.upto gaugeBeginsSpec)

/-- 'drumlinelaw12.GaugeAlike', WHERE WHAT IT READS IS OF BULK AT MOST 1048576: true; the input reads as it did. -/
def gaugeAlikeUptoRow : OpenClaim := { program := "ytgklghpkfmoogaagreatdoor", sum := "5926920c9b0bb85393e38920025cbf2ebcd4965a78c20ed8655abdd08a038450", func := "drumline/drumlinelaw12.GaugeAlike", spec := "gaugeAlike", inPlace := ["internal/reflectlite.TypeOf", "internal/reflectlite.ValueOf", "(internal/reflectlite.Value).Type", "(internal/reflectlite.Value).IsNil", "(internal/reflectlite.Value).Elem", "(internal/reflectlite.Value).Set"], unfollowed := true, recurses := true, named := ["drumline/bounds.errRange", "drumline/plan.errParts", "drumline/plan.errNodes", "drumline/plan.errLinks", "drumline/plan.errApart", "drumline/plan.errEnds", "drumline/plan.errTwice", "drumline/plan.errPorts", "errors.errorType"], apart := false, laid := [("errors.errorType", laid_errors_errorType), ("drumline/plan.errParts", laid_drumline_plan_errParts), ("drumline/plan.errNodes", laid_drumline_plan_errNodes), ("drumline/plan.errLinks", laid_drumline_plan_errLinks), ("drumline/plan.errEnds", laid_drumline_plan_errEnds), ("drumline/plan.errTwice", laid_drumline_plan_errTwice), ("drumline/plan.errPorts", laid_drumline_plan_errPorts), ("drumline/plan.errApart", laid_drumline_plan_errApart), ("drumline/bounds.errRange", laid_drumline_bounds_errRange)], narrowed := true }
def GaugeAlikeUptoSaid : Prop := gaugeAlikeUptoRow.holds Tryz.pinned (OpenSpec.upto gaugeAlikeSpec)

end Rows
end Go.Proofs.YtgklghpkfmoogaaGreatDoor
