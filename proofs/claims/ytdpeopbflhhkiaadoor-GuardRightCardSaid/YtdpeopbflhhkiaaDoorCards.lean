/-
  DERIVED. GIVEN WITH THE SEED: THE CARDS: each row of YtdpeopbflhhkiaaDoorRows.lean that lists a variable, with what it lists TIED to the program's text (the seventh form; the later family's looks); each row that meets fmt, with fmt's text TOLD by the authors' own Lean function (tested against real Go, not proved from fmt's source: count such statements apart). THE CARD IS WHAT COUNTS. Prove the row's statement (the work); the ties are given (YtdpeopbflhhkiaaDoorTie.lean); close each card by the builder's one call (the guide's Derived/Test/ToyasCard.lean, 'card_holds'). Laid BY PROGRAM, IN A SANDBOX (cutbox-door.mjs). By AI agents, Wed Nov 11 2026. No macro, syntax, notation, axiom, sorry.
-/
import Derived.Test.YtdpeopbflhhkiaaDoorRows
import GoSem.ClaimSeven
namespace Go.Proofs.YtdpeopbflhhkiaaDoor
namespace Rows

/-- THE TIED CARD OF 'drumlinelaw10.GuardRight'. -/
def guardRightCard : Claim7 := { stood := { row := guardRightRow, standIns := [], harness := (true, "5816c1cec2cc91c832f671e84a30d9cb767e870776f5d022fa882f42dccbe124"), looks := true }, kinds := [], alts := [], laidByText := true, laidKinds := [.handle, .sentinel, .sentinel, .sentinel, .sentinel, .sentinel, .sentinel, .sentinel, .sentinel], laidTests := true, laidLooks := .later }
def GuardRightCardSaid : Prop := Claim7.holds Tryd.pinned (.plain (OpenSpec.ofChange guardRightSpec)) guardRightCard

/-- THE SECOND FORM's CARD OF 'drumlinelaw10.GuardRight'. -/
def guardRightUptoCard : Claim7 := { stood := { row := guardRightUptoRow, standIns := [], harness := (true, "5816c1cec2cc91c832f671e84a30d9cb767e870776f5d022fa882f42dccbe124"), looks := true }, kinds := [], alts := [], laidByText := true, laidKinds := [.handle, .sentinel, .sentinel, .sentinel, .sentinel, .sentinel, .sentinel, .sentinel, .sentinel], laidTests := true, laidLooks := .later }
def GuardRightUptoCardSaid : Prop := Claim7.holds Tryd.pinned (.plain (OpenSpec.upto guardRightSpec)) guardRightUptoCard
end Rows
end Go.Proofs.YtdpeopbflhhkiaaDoor
