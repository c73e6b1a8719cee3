/-
  DERIVED. GIVEN WITH THE SEED: THE CARDS: each row of YtlcjcdgmiaakjaaDoorRows.lean that lists a variable, with what it lists TIED to the program's text (the seventh form; the later family's looks); each row that meets fmt, with fmt's text TOLD by the authors' own Lean function (tested against real Go, not proved from fmt's source: count such statements apart). THE CARD IS WHAT COUNTS. Prove the row's statement (the work); the ties are given (YtlcjcdgmiaakjaaDoorTie.lean); close each card by the builder's one call (the guide's Derived/Test/ToyasCard.lean, 'card_holds'). Laid BY PROGRAM, IN A SANDBOX (cutbox-door.mjs). By AI agents, Wed Nov 11 2026. No macro, syntax, notation, axiom, sorry.
-/
import Derived.Test.YtlcjcdgmiaakjaaDoorRows
import GoSem.ClaimSeven
namespace Go.Proofs.YtlcjcdgmiaakjaaDoor
namespace Rows

/-- THE TIED CARD OF 'drumlinelaw5.PlanChecks'. -/
def planChecksCard : Claim7 := { stood := { row := planChecksRow, standIns := [], harness := (true, "bff5d21563315dcab472e1b250cdfa2918f216763c00330c244183b358c3a07f"), looks := true }, kinds := [], alts := [], laidByText := true, laidKinds := [.handle, .sentinel, .sentinel, .sentinel, .sentinel, .sentinel, .sentinel, .sentinel], laidTests := true, laidLooks := .later }
def PlanChecksCardSaid : Prop := Claim7.holds Tryd.pinned (.plain (OpenSpec.ofChange planChecksSpec)) planChecksCard

/-- THE TIED CARD OF 'drumlinelaw5.PlanTells'. -/
def planTellsCard : Claim7 := { stood := { row := planTellsRow, standIns := [], harness := (true, "bff5d21563315dcab472e1b250cdfa2918f216763c00330c244183b358c3a07f"), looks := true }, kinds := [], alts := [], laidByText := true, laidKinds := [.handle, .sentinel, .sentinel, .sentinel, .sentinel, .sentinel, .sentinel, .sentinel], laidTests := true, laidLooks := .later }
def PlanTellsCardSaid : Prop := Claim7.holds Tryd.pinned (.plain (OpenSpec.ofChange planTellsSpec)) planTellsCard

/-- THE TIED CARD OF 'drumlinelaw5.PlanFar'. -/
def planFarCard : Claim7 := { stood := { row := planFarRow, standIns := [], harness := (true, "bff5d21563315dcab472e1b250cdfa2918f216763c00330c244183b358c3a07f"), looks := true }, kinds := [], alts := [], laidByText := true, laidKinds := [.handle, .sentinel, .sentinel, .sentinel, .sentinel, .sentinel, .sentinel, .sentinel], laidTests := true, laidLooks := .later }
def PlanFarCardSaid : Prop := Claim7.holds Tryd.pinned (.plain (OpenSpec.ofChange planFarSpec)) planFarCard

/-- THE TIED CARD OF 'drumlinelaw5.PlanSpoiled'. -/
def planSpoiledCard : Claim7 := { stood := { row := planSpoiledRow, standIns := [], harness := (true, "bff5d21563315dcab472e1b250cdfa2918f216763c00330c244183b358c3a07f"), looks := true }, kinds := [], alts := [], laidByText := true, laidKinds := [.handle, .sentinel, .sentinel, .sentinel, .sentinel, .sentinel, .sentinel, .sentinel], laidTests := true, laidLooks := .later }
def PlanSpoiledCardSaid : Prop := Claim7.holds Tryd.pinned (.plain (OpenSpec.ofChange planSpoiledSpec)) planSpoiledCard

/-- THE TIED CARD OF 'drumlinelaw5.PlanPorts'. -/
def planPortsCard : Claim7 := { stood := { row := planPortsRow, standIns := [], harness := (true, "bff5d21563315dcab472e1b250cdfa2918f216763c00330c244183b358c3a07f"), looks := true }, kinds := [], alts := [], laidByText := true, laidKinds := [.handle, .sentinel, .sentinel, .sentinel, .sentinel, .sentinel, .sentinel, .sentinel], laidTests := true, laidLooks := .later }
def PlanPortsCardSaid : Prop := Claim7.holds Tryd.pinned (.plain (OpenSpec.ofChange planPortsSpec)) planPortsCard

/-- THE TIED CARD OF 'drumlinelaw6.HopsTells'. -/
def hopsTellsCard : Claim7 := { stood := { row := hopsTellsRow, standIns := [], harness := (true, "bff5d21563315dcab472e1b250cdfa2918f216763c00330c244183b358c3a07f"), looks := true }, kinds := [], alts := [], laidByText := true, laidKinds := [.handle, .sentinel, .sentinel, .sentinel, .sentinel, .sentinel, .sentinel, .sentinel], laidTests := true, laidLooks := .later }
def HopsTellsCardSaid : Prop := Claim7.holds Tryd.pinned (.plain (OpenSpec.ofChange hopsTellsSpec)) hopsTellsCard

/-- THE TIED CARD OF 'drumlinelaw6.HopsMade'. -/
def hopsMadeCard : Claim7 := { stood := { row := hopsMadeRow, standIns := [], harness := (true, "bff5d21563315dcab472e1b250cdfa2918f216763c00330c244183b358c3a07f"), looks := true }, kinds := [], alts := [], laidByText := true, laidKinds := [.handle, .sentinel, .sentinel, .sentinel, .sentinel, .sentinel, .sentinel, .sentinel], laidTests := true, laidLooks := .later }
def HopsMadeCardSaid : Prop := Claim7.holds Tryd.pinned (.plain (OpenSpec.ofChange hopsMadeSpec)) hopsMadeCard

/-- THE TIED CARD OF 'drumlinelaw6.HopsSteps'. -/
def hopsStepsCard : Claim7 := { stood := { row := hopsStepsRow, standIns := [], harness := (true, "bff5d21563315dcab472e1b250cdfa2918f216763c00330c244183b358c3a07f"), looks := true }, kinds := [], alts := [], laidByText := true, laidKinds := [.handle, .sentinel, .sentinel, .sentinel, .sentinel, .sentinel, .sentinel, .sentinel], laidTests := true, laidLooks := .later }
def HopsStepsCardSaid : Prop := Claim7.holds Tryd.pinned (.plain (OpenSpec.ofChange hopsStepsSpec)) hopsStepsCard

/-- THE TIED CARD OF 'drumlinelaw6.HopsWays'. -/
def hopsWaysCard : Claim7 := { stood := { row := hopsWaysRow, standIns := [], harness := (true, "bff5d21563315dcab472e1b250cdfa2918f216763c00330c244183b358c3a07f"), looks := true }, kinds := [], alts := [], laidByText := true, laidKinds := [.handle, .sentinel, .sentinel, .sentinel, .sentinel, .sentinel, .sentinel, .sentinel], laidTests := true, laidLooks := .later }
def HopsWaysCardSaid : Prop := Claim7.holds Tryd.pinned (.plain (OpenSpec.ofChange hopsWaysSpec)) hopsWaysCard

/-- THE SECOND FORM's CARD OF 'drumlinelaw5.PlanChecks'. -/
def planChecksUptoCard : Claim7 := { stood := { row := planChecksUptoRow, standIns := [], harness := (true, "bff5d21563315dcab472e1b250cdfa2918f216763c00330c244183b358c3a07f"), looks := true }, kinds := [], alts := [], laidByText := true, laidKinds := [.handle, .sentinel, .sentinel, .sentinel, .sentinel, .sentinel, .sentinel, .sentinel], laidTests := true, laidLooks := .later }
def PlanChecksUptoCardSaid : Prop := Claim7.holds Tryd.pinned (.plain (OpenSpec.upto planChecksSpec)) planChecksUptoCard

/-- THE SECOND FORM's CARD OF 'drumlinelaw5.PlanTells'. -/
def planTellsUptoCard : Claim7 := { stood := { row := planTellsUptoRow, standIns := [], harness := (true, "bff5d21563315dcab472e1b250cdfa2918f216763c00330c244183b358c3a07f"), looks := true }, kinds := [], alts := [], laidByText := true, laidKinds := [.handle, .sentinel, .sentinel, .sentinel, .sentinel, .sentinel, .sentinel, .sentinel], laidTests := true, laidLooks := .later }
def PlanTellsUptoCardSaid : Prop := Claim7.holds Tryd.pinned (.plain (OpenSpec.upto planTellsSpec)) planTellsUptoCard

/-- THE SECOND FORM's CARD OF 'drumlinelaw5.PlanFar'. -/
def planFarUptoCard : Claim7 := { stood := { row := planFarUptoRow, standIns := [], harness := (true, "bff5d21563315dcab472e1b250cdfa2918f216763c00330c244183b358c3a07f"), looks := true }, kinds := [], alts := [], laidByText := true, laidKinds := [.handle, .sentinel, .sentinel, .sentinel, .sentinel, .sentinel, .sentinel, .sentinel], laidTests := true, laidLooks := .later }
def PlanFarUptoCardSaid : Prop := Claim7.holds Tryd.pinned (.plain (OpenSpec.upto planFarSpec)) planFarUptoCard

/-- THE SECOND FORM's CARD OF 'drumlinelaw5.PlanSpoiled'. -/
def planSpoiledUptoCard : Claim7 := { stood := { row := planSpoiledUptoRow, standIns := [], harness := (true, "bff5d21563315dcab472e1b250cdfa2918f216763c00330c244183b358c3a07f"), looks := true }, kinds := [], alts := [], laidByText := true, laidKinds := [.handle, .sentinel, .sentinel, .sentinel, .sentinel, .sentinel, .sentinel, .sentinel], laidTests := true, laidLooks := .later }
def PlanSpoiledUptoCardSaid : Prop := Claim7.holds Tryd.pinned (.plain (OpenSpec.upto planSpoiledSpec)) planSpoiledUptoCard

/-- THE SECOND FORM's CARD OF 'drumlinelaw5.PlanPorts'. -/
def planPortsUptoCard : Claim7 := { stood := { row := planPortsUptoRow, standIns := [], harness := (true, "bff5d21563315dcab472e1b250cdfa2918f216763c00330c244183b358c3a07f"), looks := true }, kinds := [], alts := [], laidByText := true, laidKinds := [.handle, .sentinel, .sentinel, .sentinel, .sentinel, .sentinel, .sentinel, .sentinel], laidTests := true, laidLooks := .later }
def PlanPortsUptoCardSaid : Prop := Claim7.holds Tryd.pinned (.plain (OpenSpec.upto planPortsSpec)) planPortsUptoCard

/-- THE SECOND FORM's CARD OF 'drumlinelaw6.HopsTells'. -/
def hopsTellsUptoCard : Claim7 := { stood := { row := hopsTellsUptoRow, standIns := [], harness := (true, "bff5d21563315dcab472e1b250cdfa2918f216763c00330c244183b358c3a07f"), looks := true }, kinds := [], alts := [], laidByText := true, laidKinds := [.handle, .sentinel, .sentinel, .sentinel, .sentinel, .sentinel, .sentinel, .sentinel], laidTests := true, laidLooks := .later }
def HopsTellsUptoCardSaid : Prop := Claim7.holds Tryd.pinned (.plain (OpenSpec.upto hopsTellsSpec)) hopsTellsUptoCard

/-- THE SECOND FORM's CARD OF 'drumlinelaw6.HopsMade'. -/
def hopsMadeUptoCard : Claim7 := { stood := { row := hopsMadeUptoRow, standIns := [], harness := (true, "bff5d21563315dcab472e1b250cdfa2918f216763c00330c244183b358c3a07f"), looks := true }, kinds := [], alts := [], laidByText := true, laidKinds := [.handle, .sentinel, .sentinel, .sentinel, .sentinel, .sentinel, .sentinel, .sentinel], laidTests := true, laidLooks := .later }
def HopsMadeUptoCardSaid : Prop := Claim7.holds Tryd.pinned (.plain (OpenSpec.upto hopsMadeSpec)) hopsMadeUptoCard

/-- THE SECOND FORM's CARD OF 'drumlinelaw6.HopsSteps'. -/
def hopsStepsUptoCard : Claim7 := { stood := { row := hopsStepsUptoRow, standIns := [], harness := (true, "bff5d21563315dcab472e1b250cdfa2918f216763c00330c244183b358c3a07f"), looks := true }, kinds := [], alts := [], laidByText := true, laidKinds := [.handle, .sentinel, .sentinel, .sentinel, .sentinel, .sentinel, .sentinel, .sentinel], laidTests := true, laidLooks := .later }
def HopsStepsUptoCardSaid : Prop := Claim7.holds Tryd.pinned (.plain (OpenSpec.upto hopsStepsSpec)) hopsStepsUptoCard

/-- THE SECOND FORM's CARD OF 'drumlinelaw6.HopsWays'. -/
def hopsWaysUptoCard : Claim7 := { stood := { row := hopsWaysUptoRow, standIns := [], harness := (true, "bff5d21563315dcab472e1b250cdfa2918f216763c00330c244183b358c3a07f"), looks := true }, kinds := [], alts := [], laidByText := true, laidKinds := [.handle, .sentinel, .sentinel, .sentinel, .sentinel, .sentinel, .sentinel, .sentinel], laidTests := true, laidLooks := .later }
def HopsWaysUptoCardSaid : Prop := Claim7.holds Tryd.pinned (.plain (OpenSpec.upto hopsWaysSpec)) hopsWaysUptoCard
end Rows
end Go.Proofs.YtlcjcdgmiaakjaaDoor
