/-
  NARROWER THAN 'FOR EVERY INPUT', by the rows' own cells (each row's printed sentence says how): AirFits: laid · AirRaw: laid · AirHeard: laid · AirOrder: laid · AirLost: laid.
  DERIVED. THE GIVEN ROWS OF THIS SEAT. 5 by the template 'for every input the law returns true; each argument reads behind the call as it read before'; 0 by the template 'total and deterministic' (their statements: YtdomlccfjnkbjaaGreatDoorTotals.lean).
  GIVEN WITH THE SEED: the statements are not yours to turn. If you find one false, say at which input.
  Laid BY PROGRAM, IN A SANDBOX (cutbox-rows.mjs): the forced cells as the released guide's own fill.sh prints them over the translation 1bd2f45106767456… (all of the seat's roots in one cut). By AI agents, Wed Nov 11 2026. No macro, syntax, notation, axiom, sorry.
-/
import Derived.Test.YtdomlccfjnkbjaaGreatDoorChecked
import GoSem.Claim
import GoSem.ClaimJoined
import GoSem.ClaimMapViews
import Derived.JoinedTies
import Derived.KernelRfl
namespace Go.Proofs.YtdomlccfjnkbjaaGreatDoor
/- THE CELL 'sum', in the pinned program and in every row, IS THE sha256 OF THE DUMP (.gsa) THAT YtdomlccfjnkbjaaGreatDoorProg.lean LOADS. Nothing in Lean hashes anything: it is a label: what it is worth is what the hold of that sum in a sandbox is worth. -/
noncomputable def Tryz.pinned : Pinned := { name := "ytdomlccfjnkbjaagreatdoor", sum := "1bd2f45106767456caea29698b9a27f9046dcf786444d2048fa9e9504ddd51c4", checked := Tryz.checked }
namespace Rows
def none {H : Type} : Left H := { results := [], args := [] }

/- WHAT THE LISTED PACKAGE-LEVEL VARIABLES READ AS WHEN THE CALL BEGINS. Each datum BY PROGRAM (the guide's laid-datum.mjs) off the statement by which the dump's own 'gosem.cut.vars' lays the variable. In a bare row this is a premise. The card (YtdomlccfjnkbjaaGreatDoorCards.lean) ties it to the program's text. -/
def laid_errors_errorType {H : Type} : DataW H := .iface "internal/reflectlite.rtype" (.agg [.ptr (.lit (.string [101, 114, 114, 111, 114]))])
def laid_drumline_plan_errParts {H : Type} : DataW H := .iface "*errors.errorString" (.ptr (.agg [.lit (.string [116, 111, 111, 32, 102, 101, 119, 32, 111, 114, 32, 116, 111, 111, 32, 109, 97, 110, 121, 32, 112, 97, 114, 116, 115])]))
def laid_drumline_plan_errNodes {H : Type} : DataW H := .iface "*errors.errorString" (.ptr (.agg [.lit (.string [116, 104, 101, 32, 112, 97, 114, 116, 32, 99, 97, 110, 110, 111, 116, 32, 104, 97, 118, 101, 32, 116, 104, 101, 115, 101, 32, 110, 111, 100, 101, 115, 32, 97, 110, 100, 32, 102, 97, 117, 108, 116, 115])]))
def laid_drumline_plan_errLinks {H : Type} : DataW H := .iface "*errors.errorString" (.ptr (.agg [.lit (.string [116, 111, 111, 32, 109, 97, 110, 121, 32, 108, 105, 110, 107, 115])]))
def laid_drumline_plan_errEnds {H : Type} : DataW H := .iface "*errors.errorString" (.ptr (.agg [.lit (.string [116, 104, 101, 32, 108, 105, 110, 107, 32, 100, 111, 101, 115, 32, 110, 111, 116, 32, 106, 111, 105, 110, 32, 97, 32, 112, 97, 114, 116, 32, 116, 111, 32, 97, 32, 108, 97, 116, 101, 114, 32, 111, 110, 101])]))
def laid_drumline_plan_errTwice {H : Type} : DataW H := .iface "*errors.errorString" (.ptr (.agg [.lit (.string [97, 110, 32, 101, 97, 114, 108, 105, 101, 114, 32, 108, 105, 110, 107, 32, 106, 111, 105, 110, 115, 32, 116, 104, 101, 32, 115, 97, 109, 101, 32, 112, 97, 114, 116, 115])]))
def laid_drumline_plan_errPorts {H : Type} : DataW H := .iface "*errors.errorString" (.ptr (.agg [.lit (.string [116, 104, 101, 32, 108, 105, 110, 107, 32, 99, 97, 110, 110, 111, 116, 32, 104, 97, 118, 101, 32, 116, 104, 101, 115, 101, 32, 112, 111, 114, 116, 115])]))
def laid_drumline_plan_errApart {H : Type} : DataW H := .iface "*errors.errorString" (.ptr (.agg [.lit (.string [116, 104, 101, 32, 112, 97, 114, 116, 32, 105, 115, 32, 110, 111, 116, 32, 114, 101, 97, 99, 104, 101, 100, 32, 102, 114, 111, 109, 32, 112, 97, 114, 116, 32, 48])]))
def laid_drumline_bounds_errRange {H : Type} : DataW H := .iface "*errors.errorString" (.ptr (.agg [.lit (.string [116, 104, 101, 32, 99, 111, 110, 100, 105, 116, 105, 111, 110, 32, 100, 111, 101, 115, 32, 110, 111, 116, 32, 104, 111, 108, 100])]))
def laid_drumline_frame_errShort {H : Type} : DataW H := .iface "*errors.errorString" (.ptr (.agg [.lit (.string [116, 104, 101, 32, 98, 121, 116, 101, 115, 32, 101, 110, 100, 32, 116, 111, 111, 32, 101, 97, 114, 108, 121])]))
def laid_drumline_frame_errSum {H : Type} : DataW H := .iface "*errors.errorString" (.ptr (.agg [.lit (.string [116, 104, 101, 32, 115, 117, 109, 32, 105, 115, 32, 119, 114, 111, 110, 103])]))
def laid_drumline_frame_errKind {H : Type} : DataW H := .iface "*errors.errorString" (.ptr (.agg [.lit (.string [110, 111, 32, 102, 114, 97, 109, 101, 32, 104, 97, 115, 32, 116, 104, 105, 115, 32, 107, 105, 110, 100])]))
def laid_drumline_frame_errForm {H : Type} : DataW H := .iface "*errors.errorString" (.ptr (.agg [.lit (.string [110, 111, 32, 102, 114, 97, 109, 101, 32, 104, 97, 115, 32, 116, 104, 105, 115, 32, 118, 97, 108, 117, 101])]))
def laid_drumline_frame_errLong {H : Type} : DataW H := .iface "*errors.errorString" (.ptr (.agg [.lit (.string [116, 104, 101, 32, 98, 121, 116, 101, 115, 32, 101, 110, 100, 32, 116, 111, 111, 32, 108, 97, 116, 101])]))

/-- 'drumlinelaw11.AirFits': WHATEVER THE INPUT: true; the input reads as it did. -/
def airFitsSpec : ChangeSpec := { name := "airFits", fn := fun _ => fun
  | [d1, d2, d3, d4] => { results := [.lit (.bool true)], args := [d1, d2, d3, d4] }
  | _ => none }
def airFitsRow : OpenClaim := { program := "ytdomlccfjnkbjaagreatdoor", sum := "1bd2f45106767456caea29698b9a27f9046dcf786444d2048fa9e9504ddd51c4", func := "drumline/drumlinelaw11.AirFits", spec := "airFits", inPlace := ["internal/reflectlite.TypeOf", "internal/reflectlite.ValueOf", "(internal/reflectlite.Value).Type", "(internal/reflectlite.Value).IsNil", "(internal/reflectlite.Value).Elem", "(internal/reflectlite.Value).Set"], unfollowed := true, recurses := true, named := ["drumline/bounds.errRange", "drumline/plan.errParts", "drumline/plan.errNodes", "drumline/plan.errLinks", "drumline/plan.errApart", "drumline/plan.errEnds", "drumline/plan.errTwice", "drumline/plan.errPorts", "errors.errorType", "drumline/frame.errShort", "drumline/frame.errSum", "drumline/frame.errLong", "drumline/frame.errKind", "drumline/frame.errForm"], apart := false, laid := [("errors.errorType", laid_errors_errorType), ("drumline/plan.errParts", laid_drumline_plan_errParts), ("drumline/plan.errNodes", laid_drumline_plan_errNodes), ("drumline/plan.errLinks", laid_drumline_plan_errLinks), ("drumline/plan.errEnds", laid_drumline_plan_errEnds), ("drumline/plan.errTwice", laid_drumline_plan_errTwice), ("drumline/plan.errPorts", laid_drumline_plan_errPorts), ("drumline/plan.errApart", laid_drumline_plan_errApart), ("drumline/bounds.errRange", laid_drumline_bounds_errRange), ("drumline/frame.errShort", laid_drumline_frame_errShort), ("drumline/frame.errSum", laid_drumline_frame_errSum), ("drumline/frame.errKind", laid_drumline_frame_errKind), ("drumline/frame.errForm", laid_drumline_frame_errForm), ("drumline/frame.errLong", laid_drumline_frame_errLong)] }
def AirFitsSaid : Prop := airFitsRow.holds Tryz.pinned (OpenSpec.ofChange airFitsSpec)

/-- ITS FALSE NEIGHBOUR: 'it returns false'. Refute it at one input. -/
def airFitsWrong : ChangeSpec := { name := "airFits", fn := fun _ => fun
  | [d1, d2, d3, d4] => { results := [.lit (.bool false)], args := [d1, d2, d3, d4] }
  | _ => none }
def AirFitsWrongFalsely : Prop := airFitsRow.holds Tryz.pinned (OpenSpec.ofChange airFitsWrong)

/-- 'drumlinelaw11.AirRaw': WHATEVER THE INPUT: true; the input reads as it did. -/
def airRawSpec : ChangeSpec := { name := "airRaw", fn := fun _ => fun
  | [d1, d2, d3, d4, d5, d6] => { results := [.lit (.bool true)], args := [d1, d2, d3, d4, d5, d6] }
  | _ => none }
def airRawRow : OpenClaim := { program := "ytdomlccfjnkbjaagreatdoor", sum := "1bd2f45106767456caea29698b9a27f9046dcf786444d2048fa9e9504ddd51c4", func := "drumline/drumlinelaw11.AirRaw", spec := "airRaw", inPlace := ["internal/reflectlite.TypeOf", "internal/reflectlite.ValueOf", "(internal/reflectlite.Value).Type", "(internal/reflectlite.Value).IsNil", "(internal/reflectlite.Value).Elem", "(internal/reflectlite.Value).Set"], unfollowed := true, recurses := true, named := ["drumline/bounds.errRange", "drumline/plan.errParts", "drumline/plan.errNodes", "drumline/plan.errLinks", "drumline/plan.errApart", "drumline/plan.errEnds", "drumline/plan.errTwice", "drumline/plan.errPorts", "errors.errorType", "drumline/frame.errShort", "drumline/frame.errSum", "drumline/frame.errLong", "drumline/frame.errKind", "drumline/frame.errForm"], apart := false, laid := [("errors.errorType", laid_errors_errorType), ("drumline/plan.errParts", laid_drumline_plan_errParts), ("drumline/plan.errNodes", laid_drumline_plan_errNodes), ("drumline/plan.errLinks", laid_drumline_plan_errLinks), ("drumline/plan.errEnds", laid_drumline_plan_errEnds), ("drumline/plan.errTwice", laid_drumline_plan_errTwice), ("drumline/plan.errPorts", laid_drumline_plan_errPorts), ("drumline/plan.errApart", laid_drumline_plan_errApart), ("drumline/bounds.errRange", laid_drumline_bounds_errRange), ("drumline/frame.errShort", laid_drumline_frame_errShort), ("drumline/frame.errSum", laid_drumline_frame_errSum), ("drumline/frame.errKind", laid_drumline_frame_errKind), ("drumline/frame.errForm", laid_drumline_frame_errForm), ("drumline/frame.errLong", laid_drumline_frame_errLong)] }
def AirRawSaid : Prop := airRawRow.holds Tryz.pinned (OpenSpec.ofChange airRawSpec)

/-- ITS FALSE NEIGHBOUR: 'it returns false'. Refute it at one input. -/
def airRawWrong : ChangeSpec := { name := "airRaw", fn := fun _ => fun
  | [d1, d2, d3, d4, d5, d6] => { results := [.lit (.bool false)], args := [d1, d2, d3, d4, d5, d6] }
  | _ => none }
def AirRawWrongFalsely : Prop := airRawRow.holds Tryz.pinned (OpenSpec.ofChange airRawWrong)

/-- 'drumlinelaw11.AirHeard': WHATEVER THE INPUT: true; the input reads as it did. -/
def airHeardSpec : ChangeSpec := { name := "airHeard", fn := fun _ => fun
  | [d1, d2, d3, d4, d5] => { results := [.lit (.bool true)], args := [d1, d2, d3, d4, d5] }
  | _ => none }
def airHeardRow : OpenClaim := { program := "ytdomlccfjnkbjaagreatdoor", sum := "1bd2f45106767456caea29698b9a27f9046dcf786444d2048fa9e9504ddd51c4", func := "drumline/drumlinelaw11.AirHeard", spec := "airHeard", inPlace := ["internal/reflectlite.TypeOf", "internal/reflectlite.ValueOf", "(internal/reflectlite.Value).Type", "(internal/reflectlite.Value).IsNil", "(internal/reflectlite.Value).Elem", "(internal/reflectlite.Value).Set"], unfollowed := true, recurses := true, named := ["drumline/bounds.errRange", "drumline/plan.errParts", "drumline/plan.errNodes", "drumline/plan.errLinks", "drumline/plan.errApart", "drumline/plan.errEnds", "drumline/plan.errTwice", "drumline/plan.errPorts", "errors.errorType", "drumline/frame.errShort", "drumline/frame.errSum", "drumline/frame.errLong", "drumline/frame.errKind", "drumline/frame.errForm"], apart := false, laid := [("errors.errorType", laid_errors_errorType), ("drumline/plan.errParts", laid_drumline_plan_errParts), ("drumline/plan.errNodes", laid_drumline_plan_errNodes), ("drumline/plan.errLinks", laid_drumline_plan_errLinks), ("drumline/plan.errEnds", laid_drumline_plan_errEnds), ("drumline/plan.errTwice", laid_drumline_plan_errTwice), ("drumline/plan.errPorts", laid_drumline_plan_errPorts), ("drumline/plan.errApart", laid_drumline_plan_errApart), ("drumline/bounds.errRange", laid_drumline_bounds_errRange), ("drumline/frame.errShort", laid_drumline_frame_errShort), ("drumline/frame.errSum", laid_drumline_frame_errSum), ("drumline/frame.errKind", laid_drumline_frame_errKind), ("drumline/frame.errForm", laid_drumline_frame_errForm), ("drumline/frame.errLong", laid_drumline_frame_errLong)] }
def AirHeardSaid : Prop := airHeardRow.holds Tryz.pinned (OpenSpec.ofChange airHeardSpec)

/-- ITS FALSE NEIGHBOUR: 'it returns false'. Refute it at one input. -/
def airHeardWrong : ChangeSpec := { name := "airHeard", fn := fun _ => fun
  | [d1, d2, d3, d4, d5] => { results := [.lit (.bool false)], args := [d1, d2, d3, d4, d5] }
  | _ => none }
def AirHeardWrongFalsely : Prop := airHeardRow.holds Tryz.pinned (OpenSpec.ofChange airHeardWrong)

/-- 'drumlinelaw11.AirOrder': WHATEVER THE INPUT: true; the input reads as it did. -/
def airOrderSpec : ChangeSpec := { name := "airOrder", fn := fun _ => fun
  | [d1, d2, d3, d4, d5] => { results := [.lit (.bool true)], args := [d1, d2, d3, d4, d5] }
  | _ => none }
def airOrderRow : OpenClaim := { program := "ytdomlccfjnkbjaagreatdoor", sum := "1bd2f45106767456caea29698b9a27f9046dcf786444d2048fa9e9504ddd51c4", func := "drumline/drumlinelaw11.AirOrder", spec := "airOrder", inPlace := ["internal/reflectlite.TypeOf", "internal/reflectlite.ValueOf", "(internal/reflectlite.Value).Type", "(internal/reflectlite.Value).IsNil", "(internal/reflectlite.Value).Elem", "(internal/reflectlite.Value).Set"], unfollowed := true, recurses := true, named := ["drumline/bounds.errRange", "drumline/plan.errParts", "drumline/plan.errNodes", "drumline/plan.errLinks", "drumline/plan.errApart", "drumline/plan.errEnds", "drumline/plan.errTwice", "drumline/plan.errPorts", "errors.errorType", "drumline/frame.errShort", "drumline/frame.errSum", "drumline/frame.errLong", "drumline/frame.errKind", "drumline/frame.errForm"], apart := false, laid := [("errors.errorType", laid_errors_errorType), ("drumline/plan.errParts", laid_drumline_plan_errParts), ("drumline/plan.errNodes", laid_drumline_plan_errNodes), ("drumline/plan.errLinks", laid_drumline_plan_errLinks), ("drumline/plan.errEnds", laid_drumline_plan_errEnds), ("drumline/plan.errTwice", laid_drumline_plan_errTwice), ("drumline/plan.errPorts", laid_drumline_plan_errPorts), ("drumline/plan.errApart", laid_drumline_plan_errApart), ("drumline/bounds.errRange", laid_drumline_bounds_errRange), ("drumline/frame.errShort", laid_drumline_frame_errShort), ("drumline/frame.errSum", laid_drumline_frame_errSum), ("drumline/frame.errKind", laid_drumline_frame_errKind), ("drumline/frame.errForm", laid_drumline_frame_errForm), ("drumline/frame.errLong", laid_drumline_frame_errLong)] }
def AirOrderSaid : Prop := airOrderRow.holds Tryz.pinned (OpenSpec.ofChange airOrderSpec)

/-- ITS FALSE NEIGHBOUR: 'it returns false'. Refute it at one input. -/
def airOrderWrong : ChangeSpec := { name := "airOrder", fn := fun _ => fun
  | [d1, d2, d3, d4, d5] => { results := [.lit (.bool false)], args := [d1, d2, d3, d4, d5] }
  | _ => none }
def AirOrderWrongFalsely : Prop := airOrderRow.holds Tryz.pinned (OpenSpec.ofChange airOrderWrong)

/-- 'drumlinelaw11.AirLost': WHATEVER THE INPUT: true; the input reads as it did. -/
def airLostSpec : ChangeSpec := { name := "airLost", fn := fun _ => fun
  | [d1, d2, d3, d4, d5] => { results := [.lit (.bool true)], args := [d1, d2, d3, d4, d5] }
  | _ => none }
def airLostRow : OpenClaim := { program := "ytdomlccfjnkbjaagreatdoor", sum := "1bd2f45106767456caea29698b9a27f9046dcf786444d2048fa9e9504ddd51c4", func := "drumline/drumlinelaw11.AirLost", spec := "airLost", inPlace := ["internal/reflectlite.TypeOf", "internal/reflectlite.ValueOf", "(internal/reflectlite.Value).Type", "(internal/reflectlite.Value).IsNil", "(internal/reflectlite.Value).Elem", "(internal/reflectlite.Value).Set"], unfollowed := true, recurses := true, named := ["drumline/bounds.errRange", "drumline/plan.errParts", "drumline/plan.errNodes", "drumline/plan.errLinks", "drumline/plan.errApart", "drumline/plan.errEnds", "drumline/plan.errTwice", "drumline/plan.errPorts", "errors.errorType", "drumline/frame.errShort", "drumline/frame.errSum", "drumline/frame.errLong", "drumline/frame.errKind", "drumline/frame.errForm"], apart := false, laid := [("errors.errorType", laid_errors_errorType), ("drumline/plan.errParts", laid_drumline_plan_errParts), ("drumline/plan.errNodes", laid_drumline_plan_errNodes), ("drumline/plan.errLinks", laid_drumline_plan_errLinks), ("drumline/plan.errEnds", laid_drumline_plan_errEnds), ("drumline/plan.errTwice", laid_drumline_plan_errTwice), ("drumline/plan.errPorts", laid_drumline_plan_errPorts), ("drumline/plan.errApart", laid_drumline_plan_errApart), ("drumline/bounds.errRange", laid_drumline_bounds_errRange), ("drumline/frame.errShort", laid_drumline_frame_errShort), ("drumline/frame.errSum", laid_drumline_frame_errSum), ("drumline/frame.errKind", laid_drumline_frame_errKind), ("drumline/frame.errForm", laid_drumline_frame_errForm), ("drumline/frame.errLong", laid_drumline_frame_errLong)] }
def AirLostSaid : Prop := airLostRow.holds Tryz.pinned (OpenSpec.ofChange airLostSpec)

/-- ITS FALSE NEIGHBOUR: 'it returns false'. Refute it at one input. -/
def airLostWrong : ChangeSpec := { name := "airLost", fn := fun _ => fun
  | [d1, d2, d3, d4, d5] => { results := [.lit (.bool false)], args := [d1, d2, d3, d4, d5] }
  | _ => none }
def AirLostWrongFalsely : Prop := airLostRow.holds Tryz.pinned (OpenSpec.ofChange airLostWrong)

/- THE SECOND FORM. 'bulk': how many values and letters a reading holds, each counted each time it is reached (what is shared counts as often as it is met; a slice's spare places count too). A statement '..UptoSaid' is the law's where the arguments, and the package variables that the reading takes, are together of bulk at most 1048576: NARROWER than '..Said'. Prove '..Said' where nothing that the law and all that it calls make is longer than what came in: it says more and counts as full. Else prove '..UptoSaid'. A law counts once. -/
mutual
def uptoBulk {H : Type} : DataW H → Nat
  | .lit (.string bytes) => bytes.length + 1
  | .lit _ => 1
  | .nil => 1
  | .ptr d => uptoBulk d + 1
  | .slice elems spare => uptoBulkAll elems + uptoBulkAll spare + 1
  | .agg parts => uptoBulkAll parts + 1
  | .iface _ d => uptoBulk d + 1
  | .map entries => uptoBulkEntries entries + 1
  | .held _ => 1
def uptoBulkAll {H : Type} : List (DataW H) → Nat
  | [] => 0
  | d :: r => uptoBulk d + uptoBulkAll r
def uptoBulkEntries {H : Type} : List (Lit × DataW H) → Nat
  | [] => 0
  | x :: r => uptoBulkEntry x + uptoBulkEntries r
def uptoBulkEntry {H : Type} : Lit × DataW H → Nat
  | (.string bytes, d) => bytes.length + uptoBulk d + 1
  | (_, d) => uptoBulk d + 1
 end
def uptoSmall : (H : Type) → List (DataW H) → Bool := fun _ ds => decide (uptoBulkAll ds ≤ 1048576)
def OpenSpec.upto (s : _root_.Go.ChangeSpec) : _root_.Go.OpenSpec := { _root_.Go.OpenSpec.ofChange s with cond := some uptoSmall }

/-- 'drumlinelaw11.AirFits', WHERE WHAT IT READS IS OF BULK AT MOST 1048576: true; the input reads as it did. -/
def airFitsUptoRow : OpenClaim := { program := "ytdomlccfjnkbjaagreatdoor", sum := "1bd2f45106767456caea29698b9a27f9046dcf786444d2048fa9e9504ddd51c4", func := "drumline/drumlinelaw11.AirFits", spec := "airFits", inPlace := ["internal/reflectlite.TypeOf", "internal/reflectlite.ValueOf", "(internal/reflectlite.Value).Type", "(internal/reflectlite.Value).IsNil", "(internal/reflectlite.Value).Elem", "(internal/reflectlite.Value).Set"], unfollowed := true, recurses := true, named := ["drumline/bounds.errRange", "drumline/plan.errParts", "drumline/plan.errNodes", "drumline/plan.errLinks", "drumline/plan.errApart", "drumline/plan.errEnds", "drumline/plan.errTwice", "drumline/plan.errPorts", "errors.errorType", "drumline/frame.errShort", "drumline/frame.errSum", "drumline/frame.errLong", "drumline/frame.errKind", "drumline/frame.errForm"], apart := false, laid := [("errors.errorType", laid_errors_errorType), ("drumline/plan.errParts", laid_drumline_plan_errParts), ("drumline/plan.errNodes", laid_drumline_plan_errNodes), ("drumline/plan.errLinks", laid_drumline_plan_errLinks), ("drumline/plan.errEnds", laid_drumline_plan_errEnds), ("drumline/plan.errTwice", laid_drumline_plan_errTwice), ("drumline/plan.errPorts", laid_drumline_plan_errPorts), ("drumline/plan.errApart", laid_drumline_plan_errApart), ("drumline/bounds.errRange", laid_drumline_bounds_errRange), ("drumline/frame.errShort", laid_drumline_frame_errShort), ("drumline/frame.errSum", laid_drumline_frame_errSum), ("drumline/frame.errKind", laid_drumline_frame_errKind), ("drumline/frame.errForm", laid_drumline_frame_errForm), ("drumline/frame.errLong", laid_drumline_frame_errLong)], narrowed := true }
def AirFitsUptoSaid : Prop := airFitsUptoRow.holds Tryz.pinned (OpenSpec.upto airFitsSpec)

/-- 'drumlinelaw11.AirRaw', WHERE WHAT IT READS IS OF BULK AT MOST 1048576: true; the input reads as it did. -/
def airRawUptoRow : OpenClaim := { program := "ytdomlccfjnkbjaagreatdoor", sum := "1bd2f45106767456caea29698b9a27f9046dcf786444d2048fa9e9504ddd51c4", func := "drumline/drumlinelaw11.AirRaw", spec := "airRaw", inPlace := ["internal/reflectlite.TypeOf", "internal/reflectlite.ValueOf", "(internal/reflectlite.Value).Type", "(internal/reflectlite.Value).IsNil", "(internal/reflectlite.Value).Elem", "(internal/reflectlite.Value).Set"], unfollowed := true, recurses := true, named := ["drumline/bounds.errRange", "drumline/plan.errParts", "drumline/plan.errNodes", "drumline/plan.errLinks", "drumline/plan.errApart", "drumline/plan.errEnds", "drumline/plan.errTwice", "drumline/plan.errPorts", "errors.errorType", "drumline/frame.errShort", "drumline/frame.errSum", "drumline/frame.errLong", "drumline/frame.errKind", "drumline/frame.errForm"], apart := false, laid := [("errors.errorType", laid_errors_errorType), ("drumline/plan.errParts", laid_drumline_plan_errParts), ("drumline/plan.errNodes", laid_drumline_plan_errNodes), ("drumline/plan.errLinks", laid_drumline_plan_errLinks), ("drumline/plan.errEnds", laid_drumline_plan_errEnds), ("drumline/plan.errTwice", laid_drumline_plan_errTwice), ("drumline/plan.errPorts", laid_drumline_plan_errPorts), ("drumline/plan.errApart", laid_drumline_plan_errApart), ("drumline/bounds.errRange", laid_drumline_bounds_errRange), ("drumline/frame.errShort", laid_drumline_frame_errShort), ("drumline/frame.errSum", laid_drumline_frame_errSum), ("drumline/frame.errKind", laid_drumline_frame_errKind), ("drumline/frame.errForm", laid_drumline_frame_errForm), ("drumline/frame.errLong", laid_drumline_frame_errLong)], narrowed := true }
def AirRawUptoSaid : Prop := airRawUptoRow.holds Tryz.pinned (OpenSpec.upto airRawSpec)

/-- 'drumlinelaw11.AirHeard', WHERE WHAT IT READS IS OF BULK AT MOST 1048576: true; the input reads as it did. -/
def airHeardUptoRow : OpenClaim := { program := "ytdomlccfjnkbjaagreatdoor", sum := "1bd2f45106767456caea29698b9a27f9046dcf786444d2048fa9e9504ddd51c4", func := "drumline/drumlinelaw11.AirHeard", spec := "airHeard", inPlace := ["internal/reflectlite.TypeOf", "internal/reflectlite.ValueOf", "(internal/reflectlite.Value).Type", "(internal/reflectlite.Value).IsNil", "(internal/reflectlite.Value).Elem", "(internal/reflectlite.Value).Set"], unfollowed := true, recurses := true, named := ["drumline/bounds.errRange", "drumline/plan.errParts", "drumline/plan.errNodes", "drumline/plan.errLinks", "drumline/plan.errApart", "drumline/plan.errEnds", "drumline/plan.errTwice", "drumline/plan.errPorts", "errors.errorType", "drumline/frame.errShort", "drumline/frame.errSum", "drumline/frame.errLong", "drumline/frame.errKind", "drumline/frame.errForm"], apart := false, laid := [("errors.errorType", laid_errors_errorType), ("drumline/plan.errParts", laid_drumline_plan_errParts), ("drumline/plan.errNodes", laid_drumline_plan_errNodes), ("drumline/plan.errLinks", laid_drumline_plan_errLinks), ("drumline/plan.errEnds", laid_drumline_plan_errEnds), ("drumline/plan.errTwice", laid_drumline_plan_errTwice), ("drumline/plan.errPorts", laid_drumline_plan_errPorts), ("drumline/plan.errApart", laid_drumline_plan_errApart), ("drumline/bounds.errRange", laid_drumline_bounds_errRange), ("drumline/frame.errShort", laid_drumline_frame_errShort), ("drumline/frame.errSum", laid_drumline_frame_errSum), ("drumline/frame.errKind", laid_drumline_frame_errKind), ("drumline/frame.errForm", laid_drumline_frame_errForm), ("drumline/frame.errLong", laid_drumline_frame_errLong)], narrowed := true }
def AirHeardUptoSaid : Prop := airHeardUptoRow.holds Tryz.pinned (OpenSpec.upto airHeardSpec)

/-- 'drumlinelaw11.AirOrder', WHERE WHAT IT READS IS OF BULK AT MOST 1048576: true; the input reads as it did. -/
def airOrderUptoRow : OpenClaim := { program := "ytdomlccfjnkbjaagreatdoor", sum := "1bd2f45106767456caea29698b9a27f9046dcf786444d2048fa9e9504ddd51c4", func := "drumline/drumlinelaw11.AirOrder", spec := "airOrder", inPlace := ["internal/reflectlite.TypeOf", "internal/reflectlite.ValueOf", "(internal/reflectlite.Value).Type", "(internal/reflectlite.Value).IsNil", "(internal/reflectlite.Value).Elem", "(internal/reflectlite.Value).Set"], unfollowed := true, recurses := true, named := ["drumline/bounds.errRange", "drumline/plan.errParts", "drumline/plan.errNodes", "drumline/plan.errLinks", "drumline/plan.errApart", "drumline/plan.errEnds", "drumline/plan.errTwice", "drumline/plan.errPorts", "errors.errorType", "drumline/frame.errShort", "drumline/frame.errSum", "drumline/frame.errLong", "drumline/frame.errKind", "drumline/frame.errForm"], apart := false, laid := [("errors.errorType", laid_errors_errorType), ("drumline/plan.errParts", laid_drumline_plan_errParts), ("drumline/plan.errNodes", laid_drumline_plan_errNodes), ("drumline/plan.errLinks", laid_drumline_plan_errLinks), ("drumline/plan.errEnds", laid_drumline_plan_errEnds), ("drumline/plan.errTwice", laid_drumline_plan_errTwice), ("drumline/plan.errPorts", laid_drumline_plan_errPorts), ("drumline/plan.errApart", laid_drumline_plan_errApart), ("drumline/bounds.errRange", laid_drumline_bounds_errRange), ("drumline/frame.errShort", laid_drumline_frame_errShort), ("drumline/frame.errSum", laid_drumline_frame_errSum), ("drumline/frame.errKind", laid_drumline_frame_errKind), ("drumline/frame.errForm", laid_drumline_frame_errForm), ("drumline/frame.errLong", laid_drumline_frame_errLong)], narrowed := true }
def AirOrderUptoSaid : Prop := airOrderUptoRow.holds Tryz.pinned (OpenSpec.upto airOrderSpec)

/-- 'drumlinelaw11.AirLost', WHERE WHAT IT READS IS OF BULK AT MOST 1048576: true; the input reads as it did. -/
def airLostUptoRow : OpenClaim := { program := "ytdomlccfjnkbjaagreatdoor", sum := "1bd2f45106767456caea29698b9a27f9046dcf786444d2048fa9e9504ddd51c4", func := "drumline/drumlinelaw11.AirLost", spec := "airLost", inPlace := ["internal/reflectlite.TypeOf", "internal/reflectlite.ValueOf", "(internal/reflectlite.Value).Type", "(internal/reflectlite.Value).IsNil", "(internal/reflectlite.Value).Elem", "(internal/reflectlite.Value).Set"], unfollowed := true, recurses := true, named := ["drumline/bounds.errRange", "drumline/plan.errParts", "drumline/plan.errNodes", "drumline/plan.errLinks", "drumline/plan.errApart", "drumline/plan.errEnds", "drumline/plan.errTwice", "drumline/plan.errPorts", "errors.errorType", "drumline/frame.errShort", "drumline/frame.errSum", "drumline/frame.errLong", "drumline/frame.errKind", "drumline/frame.errForm"], apart := false, laid := [("errors.errorType", laid_errors_errorType), ("drumline/plan.errParts", laid_drumline_plan_errParts), ("drumline/plan.errNodes", laid_drumline_plan_errNodes), ("drumline/plan.errLinks", laid_drumline_plan_errLinks), ("drumline/plan.errEnds", laid_drumline_plan_errEnds), ("drumline/plan.errTwice", laid_drumline_plan_errTwice), ("drumline/plan.errPorts", laid_drumline_plan_errPorts), ("drumline/plan.errApart", laid_drumline_plan_errApart), ("drumline/bounds.errRange", laid_drumline_bounds_errRange), ("drumline/frame.errShort", laid_drumline_frame_errShort), ("drumline/frame.errSum", laid_drumline_frame_errSum), ("drumline/frame.errKind", laid_drumline_frame_errKind), ("drumline/frame.errForm", laid_drumline_frame_errForm), ("drumline/frame.errLong", laid_drumline_frame_errLong)], narrowed := true }
def AirLostUptoSaid : Prop := airLostUptoRow.holds Tryz.pinned (OpenSpec.upto airLostSpec)

end Rows
end Go.Proofs.YtdomlccfjnkbjaaGreatDoor
