/-
  DERIVED. GIVEN WITH THE SEED: THE CARDS: each row of YtagdeldgpkjjjaaDoorRows.lean that lists a variable, with what it lists TIED to the program's text (the seventh form; the later family's looks); each row that meets fmt, with fmt's text TOLD by the authors' own Lean function (tested against real Go, not proved from fmt's source: count such statements apart). THE CARD IS WHAT COUNTS. Prove the row's statement (the work); the ties are given (YtagdeldgpkjjjaaDoorTie.lean); close each card by the builder's one call (the guide's Derived/Test/ToyasCard.lean, 'card_holds'). Laid BY PROGRAM, IN A SANDBOX (cutbox-door.mjs). By AI agents, Wed Nov 11 2026. No macro, syntax, notation, axiom, sorry.
-/
import Derived.Test.YtagdeldgpkjjjaaDoorRows
import GoSem.ClaimSeven
namespace Go.Proofs.YtagdeldgpkjjjaaDoor
namespace Rows

/-- THE TIED CARD OF 'drumlinelaw8.ClockApart'. -/
def clockApartCard : Claim7 := { stood := { row := clockApartRow, standIns := [], harness := (true, "1369e1439b28bd120e8724a6e9d10ee85ba6bed6a8a1aa373d66647b101999a1"), looks := true }, kinds := [], alts := [], laidByText := true, laidKinds := [.handle, .sentinel, .sentinel, .sentinel, .sentinel, .sentinel, .sentinel, .sentinel, .sentinel], laidTests := true, laidLooks := .later }
def ClockApartCardSaid : Prop := Claim7.holds Tryd.pinned (.plain (OpenSpec.ofChange clockApartSpec)) clockApartCard

/-- THE TIED CARD OF 'drumlinelaw8.ClockTick'. -/
def clockTickCard : Claim7 := { stood := { row := clockTickRow, standIns := [], harness := (true, "1369e1439b28bd120e8724a6e9d10ee85ba6bed6a8a1aa373d66647b101999a1"), looks := true }, kinds := [], alts := [], laidByText := true, laidKinds := [.handle, .sentinel, .sentinel, .sentinel, .sentinel, .sentinel, .sentinel, .sentinel, .sentinel], laidTests := true, laidLooks := .later }
def ClockTickCardSaid : Prop := Claim7.holds Tryd.pinned (.plain (OpenSpec.ofChange clockTickSpec)) clockTickCard

/-- THE SECOND FORM's CARD OF 'drumlinelaw8.ClockApart'. -/
def clockApartUptoCard : Claim7 := { stood := { row := clockApartUptoRow, standIns := [], harness := (true, "1369e1439b28bd120e8724a6e9d10ee85ba6bed6a8a1aa373d66647b101999a1"), looks := true }, kinds := [], alts := [], laidByText := true, laidKinds := [.handle, .sentinel, .sentinel, .sentinel, .sentinel, .sentinel, .sentinel, .sentinel, .sentinel], laidTests := true, laidLooks := .later }
def ClockApartUptoCardSaid : Prop := Claim7.holds Tryd.pinned (.plain (OpenSpec.upto clockApartSpec)) clockApartUptoCard

/-- THE SECOND FORM's CARD OF 'drumlinelaw8.ClockTick'. -/
def clockTickUptoCard : Claim7 := { stood := { row := clockTickUptoRow, standIns := [], harness := (true, "1369e1439b28bd120e8724a6e9d10ee85ba6bed6a8a1aa373d66647b101999a1"), looks := true }, kinds := [], alts := [], laidByText := true, laidKinds := [.handle, .sentinel, .sentinel, .sentinel, .sentinel, .sentinel, .sentinel, .sentinel, .sentinel], laidTests := true, laidLooks := .later }
def ClockTickUptoCardSaid : Prop := Claim7.holds Tryd.pinned (.plain (OpenSpec.upto clockTickSpec)) clockTickUptoCard
end Rows
end Go.Proofs.YtagdeldgpkjjjaaDoor
