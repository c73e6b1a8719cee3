/-
  DERIVED. GIVEN WITH THE SEED: THE CARDS: each row of YtleflkgdbagmnaaDoorRows.lean that lists a variable, with what it lists TIED to the program's text (the seventh form; the later family's looks); each row that meets fmt, with fmt's text TOLD by the authors' own Lean function (tested against real Go, not proved from fmt's source: count such statements apart). THE CARD IS WHAT COUNTS. Prove the row's statement (the work); the ties are given (YtleflkgdbagmnaaDoorTie.lean); close each card by the builder's one call (the guide's Derived/Test/ToyasCard.lean, 'card_holds'). Laid BY PROGRAM, IN A SANDBOX (cutbox-door.mjs). By AI agents, Wed Nov 11 2026. No macro, syntax, notation, axiom, sorry.
-/
import Derived.Test.YtleflkgdbagmnaaDoorRows
import GoSem.ClaimSeven
namespace Go.Proofs.YtleflkgdbagmnaaDoor
namespace Rows

/-- THE TIED CARD OF 'drumlinelaw6.HopsTells'. -/
def hopsTellsCard : Claim7 := { stood := { row := hopsTellsRow, standIns := [], harness := (true, "be0e1e87561097a6b98ea94eb3840b6b2562c6da409bc556a137c4463b754dc1"), looks := true }, kinds := [], alts := [], laidByText := true, laidKinds := [.handle, .sentinel, .sentinel, .sentinel, .sentinel, .sentinel, .sentinel, .sentinel], laidTests := true, laidLooks := .later }
def HopsTellsCardSaid : Prop := Claim7.holds Tryd.pinned (.plain (OpenSpec.ofChange hopsTellsSpec)) hopsTellsCard

/-- THE TIED CARD OF 'drumlinelaw6.HopsMade'. -/
def hopsMadeCard : Claim7 := { stood := { row := hopsMadeRow, standIns := [], harness := (true, "be0e1e87561097a6b98ea94eb3840b6b2562c6da409bc556a137c4463b754dc1"), looks := true }, kinds := [], alts := [], laidByText := true, laidKinds := [.handle, .sentinel, .sentinel, .sentinel, .sentinel, .sentinel, .sentinel, .sentinel], laidTests := true, laidLooks := .later }
def HopsMadeCardSaid : Prop := Claim7.holds Tryd.pinned (.plain (OpenSpec.ofChange hopsMadeSpec)) hopsMadeCard

/-- THE TIED CARD OF 'drumlinelaw6.HopsSteps'. -/
def hopsStepsCard : Claim7 := { stood := { row := hopsStepsRow, standIns := [], harness := (true, "be0e1e87561097a6b98ea94eb3840b6b2562c6da409bc556a137c4463b754dc1"), looks := true }, kinds := [], alts := [], laidByText := true, laidKinds := [.handle, .sentinel, .sentinel, .sentinel, .sentinel, .sentinel, .sentinel, .sentinel], laidTests := true, laidLooks := .later }
def HopsStepsCardSaid : Prop := Claim7.holds Tryd.pinned (.plain (OpenSpec.ofChange hopsStepsSpec)) hopsStepsCard

/-- THE TIED CARD OF 'drumlinelaw6.HopsWays'. -/
def hopsWaysCard : Claim7 := { stood := { row := hopsWaysRow, standIns := [], harness := (true, "be0e1e87561097a6b98ea94eb3840b6b2562c6da409bc556a137c4463b754dc1"), looks := true }, kinds := [], alts := [], laidByText := true, laidKinds := [.handle, .sentinel, .sentinel, .sentinel, .sentinel, .sentinel, .sentinel, .sentinel], laidTests := true, laidLooks := .later }
def HopsWaysCardSaid : Prop := Claim7.holds Tryd.pinned (.plain (OpenSpec.ofChange hopsWaysSpec)) hopsWaysCard

/-- THE SECOND FORM's CARD OF 'drumlinelaw6.HopsTells'. -/
def hopsTellsUptoCard : Claim7 := { stood := { row := hopsTellsUptoRow, standIns := [], harness := (true, "be0e1e87561097a6b98ea94eb3840b6b2562c6da409bc556a137c4463b754dc1"), looks := true }, kinds := [], alts := [], laidByText := true, laidKinds := [.handle, .sentinel, .sentinel, .sentinel, .sentinel, .sentinel, .sentinel, .sentinel], laidTests := true, laidLooks := .later }
def HopsTellsUptoCardSaid : Prop := Claim7.holds Tryd.pinned (.plain (OpenSpec.upto hopsTellsSpec)) hopsTellsUptoCard

/-- THE SECOND FORM's CARD OF 'drumlinelaw6.HopsMade'. -/
def hopsMadeUptoCard : Claim7 := { stood := { row := hopsMadeUptoRow, standIns := [], harness := (true, "be0e1e87561097a6b98ea94eb3840b6b2562c6da409bc556a137c4463b754dc1"), looks := true }, kinds := [], alts := [], laidByText := true, laidKinds := [.handle, .sentinel, .sentinel, .sentinel, .sentinel, .sentinel, .sentinel, .sentinel], laidTests := true, laidLooks := .later }
def HopsMadeUptoCardSaid : Prop := Claim7.holds Tryd.pinned (.plain (OpenSpec.upto hopsMadeSpec)) hopsMadeUptoCard

/-- THE SECOND FORM's CARD OF 'drumlinelaw6.HopsSteps'. -/
def hopsStepsUptoCard : Claim7 := { stood := { row := hopsStepsUptoRow, standIns := [], harness := (true, "be0e1e87561097a6b98ea94eb3840b6b2562c6da409bc556a137c4463b754dc1"), looks := true }, kinds := [], alts := [], laidByText := true, laidKinds := [.handle, .sentinel, .sentinel, .sentinel, .sentinel, .sentinel, .sentinel, .sentinel], laidTests := true, laidLooks := .later }
def HopsStepsUptoCardSaid : Prop := Claim7.holds Tryd.pinned (.plain (OpenSpec.upto hopsStepsSpec)) hopsStepsUptoCard

/-- THE SECOND FORM's CARD OF 'drumlinelaw6.HopsWays'. -/
def hopsWaysUptoCard : Claim7 := { stood := { row := hopsWaysUptoRow, standIns := [], harness := (true, "be0e1e87561097a6b98ea94eb3840b6b2562c6da409bc556a137c4463b754dc1"), looks := true }, kinds := [], alts := [], laidByText := true, laidKinds := [.handle, .sentinel, .sentinel, .sentinel, .sentinel, .sentinel, .sentinel, .sentinel], laidTests := true, laidLooks := .later }
def HopsWaysUptoCardSaid : Prop := Claim7.holds Tryd.pinned (.plain (OpenSpec.upto hopsWaysSpec)) hopsWaysUptoCard
end Rows
end Go.Proofs.YtleflkgdbagmnaaDoor
