/-
  DERIVED. GIVEN WITH THE SEED: THE PROGRAM's TIES (one call each: nine closed facts by the kernel) AND EACH ROW's TIE, after the 31st guide's Derived/Test/Toyas{Tie, Card}.lean. No idea stands in it: it is a product of the set-up. Laid BY PROGRAM, IN A SANDBOX (cutbox-door.mjs). By AI agents, Wed Nov 11 2026. No macro, syntax, notation, axiom, sorry.
-/
import Derived.Test.YtdomlccfjnkbjaaGreatDoorRows
import Derived.LaidByTextLater
import Derived.SevenTiedAt
import Derived.LaidSub
import Derived.LaidOnce
namespace Go.Proofs.YtdomlccfjnkbjaaGreatDoor
open Go
set_option maxRecDepth 100000
theorem seatTie1 : Tryz.prog.laidByTextLater [("errors.errorType", Rows.laid_errors_errorType), ("drumline/plan.errParts", Rows.laid_drumline_plan_errParts), ("drumline/plan.errNodes", Rows.laid_drumline_plan_errNodes), ("drumline/plan.errLinks", Rows.laid_drumline_plan_errLinks), ("drumline/plan.errEnds", Rows.laid_drumline_plan_errEnds), ("drumline/plan.errTwice", Rows.laid_drumline_plan_errTwice), ("drumline/plan.errPorts", Rows.laid_drumline_plan_errPorts), ("drumline/plan.errApart", Rows.laid_drumline_plan_errApart), ("drumline/bounds.errRange", Rows.laid_drumline_bounds_errRange), ("drumline/frame.errShort", Rows.laid_drumline_frame_errShort), ("drumline/frame.errSum", Rows.laid_drumline_frame_errSum), ("drumline/frame.errKind", Rows.laid_drumline_frame_errKind), ("drumline/frame.errForm", Rows.laid_drumline_frame_errForm), ("drumline/frame.errLong", Rows.laid_drumline_frame_errLong)] [.handle, .sentinel, .sentinel, .sentinel, .sentinel, .sentinel, .sentinel, .sentinel, .sentinel, .sentinel, .sentinel, .sentinel, .sentinel, .sentinel] true :=
  Program.laidByTextLater_by_one 263 8 2 (by kernel_rfl) (by kernel_rfl) (by kernel_rfl) (by kernel_rfl) (by kernel_rfl) (by kernel_rfl) (fun _ _ => by kernel_rfl)
theorem noOwnUnsafe : Tryz.pinned.checked.prog.headLifts.contains "ownunsafe" = false := by kernel_rfl
theorem tie : Tryz.prog.laidByTextLater [("errors.errorType", Rows.laid_errors_errorType), ("drumline/plan.errParts", Rows.laid_drumline_plan_errParts), ("drumline/plan.errNodes", Rows.laid_drumline_plan_errNodes), ("drumline/plan.errLinks", Rows.laid_drumline_plan_errLinks), ("drumline/plan.errEnds", Rows.laid_drumline_plan_errEnds), ("drumline/plan.errTwice", Rows.laid_drumline_plan_errTwice), ("drumline/plan.errPorts", Rows.laid_drumline_plan_errPorts), ("drumline/plan.errApart", Rows.laid_drumline_plan_errApart), ("drumline/bounds.errRange", Rows.laid_drumline_bounds_errRange), ("drumline/frame.errShort", Rows.laid_drumline_frame_errShort), ("drumline/frame.errSum", Rows.laid_drumline_frame_errSum), ("drumline/frame.errKind", Rows.laid_drumline_frame_errKind), ("drumline/frame.errForm", Rows.laid_drumline_frame_errForm), ("drumline/frame.errLong", Rows.laid_drumline_frame_errLong)] [.handle, .sentinel, .sentinel, .sentinel, .sentinel, .sentinel, .sentinel, .sentinel, .sentinel, .sentinel, .sentinel, .sentinel, .sentinel, .sentinel] true :=
  Program.laidByTextLater.sub seatTie1 ["errors.errorType", "drumline/plan.errParts", "drumline/plan.errNodes", "drumline/plan.errLinks", "drumline/plan.errEnds", "drumline/plan.errTwice", "drumline/plan.errPorts", "drumline/plan.errApart", "drumline/bounds.errRange", "drumline/frame.errShort", "drumline/frame.errSum", "drumline/frame.errKind", "drumline/frame.errForm", "drumline/frame.errLong"] (by kernel_rfl) (by kernel_rfl)
theorem airFits_row_tie : Rows.airFitsRow.laidByTextAt .later Tryz.pinned [.handle, .sentinel, .sentinel, .sentinel, .sentinel, .sentinel, .sentinel, .sentinel, .sentinel, .sentinel, .sentinel, .sentinel, .sentinel, .sentinel] true :=
  OpenClaim.laidByTextAt_later rfl rfl tie noOwnUnsafe
theorem airRaw_row_tie : Rows.airRawRow.laidByTextAt .later Tryz.pinned [.handle, .sentinel, .sentinel, .sentinel, .sentinel, .sentinel, .sentinel, .sentinel, .sentinel, .sentinel, .sentinel, .sentinel, .sentinel, .sentinel] true :=
  OpenClaim.laidByTextAt_later rfl rfl tie noOwnUnsafe
theorem airHeard_row_tie : Rows.airHeardRow.laidByTextAt .later Tryz.pinned [.handle, .sentinel, .sentinel, .sentinel, .sentinel, .sentinel, .sentinel, .sentinel, .sentinel, .sentinel, .sentinel, .sentinel, .sentinel, .sentinel] true :=
  OpenClaim.laidByTextAt_later rfl rfl tie noOwnUnsafe
theorem airOrder_row_tie : Rows.airOrderRow.laidByTextAt .later Tryz.pinned [.handle, .sentinel, .sentinel, .sentinel, .sentinel, .sentinel, .sentinel, .sentinel, .sentinel, .sentinel, .sentinel, .sentinel, .sentinel, .sentinel] true :=
  OpenClaim.laidByTextAt_later rfl rfl tie noOwnUnsafe
theorem airLost_row_tie : Rows.airLostRow.laidByTextAt .later Tryz.pinned [.handle, .sentinel, .sentinel, .sentinel, .sentinel, .sentinel, .sentinel, .sentinel, .sentinel, .sentinel, .sentinel, .sentinel, .sentinel, .sentinel] true :=
  OpenClaim.laidByTextAt_later rfl rfl tie noOwnUnsafe
theorem airFitsUpto_row_tie : Rows.airFitsUptoRow.laidByTextAt .later Tryz.pinned [.handle, .sentinel, .sentinel, .sentinel, .sentinel, .sentinel, .sentinel, .sentinel, .sentinel, .sentinel, .sentinel, .sentinel, .sentinel, .sentinel] true :=
  OpenClaim.laidByTextAt_later rfl rfl tie noOwnUnsafe
theorem airRawUpto_row_tie : Rows.airRawUptoRow.laidByTextAt .later Tryz.pinned [.handle, .sentinel, .sentinel, .sentinel, .sentinel, .sentinel, .sentinel, .sentinel, .sentinel, .sentinel, .sentinel, .sentinel, .sentinel, .sentinel] true :=
  OpenClaim.laidByTextAt_later rfl rfl tie noOwnUnsafe
theorem airHeardUpto_row_tie : Rows.airHeardUptoRow.laidByTextAt .later Tryz.pinned [.handle, .sentinel, .sentinel, .sentinel, .sentinel, .sentinel, .sentinel, .sentinel, .sentinel, .sentinel, .sentinel, .sentinel, .sentinel, .sentinel] true :=
  OpenClaim.laidByTextAt_later rfl rfl tie noOwnUnsafe
theorem airOrderUpto_row_tie : Rows.airOrderUptoRow.laidByTextAt .later Tryz.pinned [.handle, .sentinel, .sentinel, .sentinel, .sentinel, .sentinel, .sentinel, .sentinel, .sentinel, .sentinel, .sentinel, .sentinel, .sentinel, .sentinel] true :=
  OpenClaim.laidByTextAt_later rfl rfl tie noOwnUnsafe
theorem airLostUpto_row_tie : Rows.airLostUptoRow.laidByTextAt .later Tryz.pinned [.handle, .sentinel, .sentinel, .sentinel, .sentinel, .sentinel, .sentinel, .sentinel, .sentinel, .sentinel, .sentinel, .sentinel, .sentinel, .sentinel] true :=
  OpenClaim.laidByTextAt_later rfl rfl tie noOwnUnsafe
end Go.Proofs.YtdomlccfjnkbjaaGreatDoor
