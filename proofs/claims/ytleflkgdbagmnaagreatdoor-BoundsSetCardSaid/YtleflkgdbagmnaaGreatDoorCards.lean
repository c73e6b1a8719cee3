/-
  DERIVED. GIVEN WITH THE SEED: THE CARDS: each row of YtleflkgdbagmnaaGreatDoorRows.lean that lists a variable, with what it lists TIED to the program's text (the seventh form; the later family's looks); each row that meets fmt, with fmt's text TOLD by the authors' own Lean function (tested against real Go, not proved from fmt's source: count such statements apart). THE CARD IS WHAT COUNTS. Prove the row's statement (the work); the ties are given (YtleflkgdbagmnaaGreatDoorTie.lean); close each card by the builder's one call (the guide's Derived/Test/ToyasCard.lean, 'card_holds'). Laid BY PROGRAM, IN A SANDBOX (cutbox-door.mjs). By AI agents, Wed Nov 11 2026. No macro, syntax, notation, axiom, sorry.
-/
import Derived.Test.YtleflkgdbagmnaaGreatDoorRows
import GoSem.ClaimSeven
namespace Go.Proofs.YtleflkgdbagmnaaGreatDoor
namespace Rows

/-- THE TIED CARD OF 'drumlinelaw7.BoundsTells'. -/
def boundsTellsCard : Claim7 := { stood := { row := boundsTellsRow, standIns := [], harness := (true, "ae28dc4ed602e5d8d91a5f2c0542cb87eca9d8aaaa801afc46eaf472e8b16684"), looks := true }, kinds := [], alts := [], laidByText := true, laidKinds := [.handle, .sentinel, .sentinel, .sentinel, .sentinel, .sentinel, .sentinel, .sentinel, .sentinel], laidTests := true, laidLooks := .later }
def BoundsTellsCardSaid : Prop := Claim7.holds Tryz.pinned (.plain (OpenSpec.ofChange boundsTellsSpec)) boundsTellsCard

/-- THE TIED CARD OF 'drumlinelaw7.BoundsFits'. -/
def boundsFitsCard : Claim7 := { stood := { row := boundsFitsRow, standIns := [], harness := (true, "ae28dc4ed602e5d8d91a5f2c0542cb87eca9d8aaaa801afc46eaf472e8b16684"), looks := true }, kinds := [], alts := [], laidByText := true, laidKinds := [.handle, .sentinel, .sentinel, .sentinel, .sentinel, .sentinel, .sentinel, .sentinel, .sentinel], laidTests := true, laidLooks := .later }
def BoundsFitsCardSaid : Prop := Claim7.holds Tryz.pinned (.plain (OpenSpec.ofChange boundsFitsSpec)) boundsFitsCard

/-- THE TIED CARD OF 'drumlinelaw7.BoundsSet'. -/
def boundsSetCard : Claim7 := { stood := { row := boundsSetRow, standIns := [], harness := (true, "ae28dc4ed602e5d8d91a5f2c0542cb87eca9d8aaaa801afc46eaf472e8b16684"), looks := true }, kinds := [], alts := [], laidByText := true, laidKinds := [.handle, .sentinel, .sentinel, .sentinel, .sentinel, .sentinel, .sentinel, .sentinel, .sentinel], laidTests := true, laidLooks := .later }
def BoundsSetCardSaid : Prop := Claim7.holds Tryz.pinned (.plain (OpenSpec.ofChange boundsSetSpec)) boundsSetCard

/-- THE SECOND FORM's CARD OF 'drumlinelaw7.BoundsTells'. -/
def boundsTellsUptoCard : Claim7 := { stood := { row := boundsTellsUptoRow, standIns := [], harness := (true, "ae28dc4ed602e5d8d91a5f2c0542cb87eca9d8aaaa801afc46eaf472e8b16684"), looks := true }, kinds := [], alts := [], laidByText := true, laidKinds := [.handle, .sentinel, .sentinel, .sentinel, .sentinel, .sentinel, .sentinel, .sentinel, .sentinel], laidTests := true, laidLooks := .later }
def BoundsTellsUptoCardSaid : Prop := Claim7.holds Tryz.pinned (.plain (OpenSpec.upto boundsTellsSpec)) boundsTellsUptoCard

/-- THE SECOND FORM's CARD OF 'drumlinelaw7.BoundsFits'. -/
def boundsFitsUptoCard : Claim7 := { stood := { row := boundsFitsUptoRow, standIns := [], harness := (true, "ae28dc4ed602e5d8d91a5f2c0542cb87eca9d8aaaa801afc46eaf472e8b16684"), looks := true }, kinds := [], alts := [], laidByText := true, laidKinds := [.handle, .sentinel, .sentinel, .sentinel, .sentinel, .sentinel, .sentinel, .sentinel, .sentinel], laidTests := true, laidLooks := .later }
def BoundsFitsUptoCardSaid : Prop := Claim7.holds Tryz.pinned (.plain (OpenSpec.upto boundsFitsSpec)) boundsFitsUptoCard

/-- THE SECOND FORM's CARD OF 'drumlinelaw7.BoundsSet'. -/
def boundsSetUptoCard : Claim7 := { stood := { row := boundsSetUptoRow, standIns := [], harness := (true, "ae28dc4ed602e5d8d91a5f2c0542cb87eca9d8aaaa801afc46eaf472e8b16684"), looks := true }, kinds := [], alts := [], laidByText := true, laidKinds := [.handle, .sentinel, .sentinel, .sentinel, .sentinel, .sentinel, .sentinel, .sentinel, .sentinel], laidTests := true, laidLooks := .later }
def BoundsSetUptoCardSaid : Prop := Claim7.holds Tryz.pinned (.plain (OpenSpec.upto boundsSetSpec)) boundsSetUptoCard
end Rows
end Go.Proofs.YtleflkgdbagmnaaGreatDoor
