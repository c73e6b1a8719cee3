/-
  DERIVED. GIVEN WITH THE SEED: THE CARDS: each row of YtgklghpkfmoogaaGreatDoorRows.lean that lists a variable, with what it lists TIED to the program's text (the seventh form; the later family's looks); each row that meets fmt, with fmt's text TOLD by the authors' own Lean function (tested against real Go, not proved from fmt's source: count such statements apart). THE CARD IS WHAT COUNTS. Prove the row's statement (the work); the ties are given (YtgklghpkfmoogaaGreatDoorTie.lean); close each card by the builder's one call (the guide's Derived/Test/ToyasCard.lean, 'card_holds'). Laid BY PROGRAM, IN A SANDBOX (cutbox-door.mjs). By AI agents, Wed Nov 11 2026. No macro, syntax, notation, axiom, sorry.
-/
import Derived.Test.YtgklghpkfmoogaaGreatDoorRows
import GoSem.ClaimSeven
namespace Go.Proofs.YtgklghpkfmoogaaGreatDoor
namespace Rows

/-- THE TIED CARD OF 'drumlinelaw12.GaugeBegins'. -/
def gaugeBeginsCard : Claim7 := { stood := { row := gaugeBeginsRow, standIns := [], harness := (true, "29f2de187f9ab43863ee8dc5aa9aa6d5c4a085352e8ef43672a7edcfba4dff2a"), looks := true }, kinds := [], alts := [], laidByText := true, laidKinds := [.handle, .sentinel, .sentinel, .sentinel, .sentinel, .sentinel, .sentinel, .sentinel, .sentinel], laidTests := true, laidLooks := .later }
def GaugeBeginsCardSaid : Prop := Claim7.holds Tryz.pinned (.plain (OpenSpec.ofChange gaugeBeginsSpec)) gaugeBeginsCard

/-- THE TIED CARD OF 'drumlinelaw12.GaugeAlike'. -/
def gaugeAlikeCard : Claim7 := { stood := { row := gaugeAlikeRow, standIns := [], harness := (true, "29f2de187f9ab43863ee8dc5aa9aa6d5c4a085352e8ef43672a7edcfba4dff2a"), looks := true }, kinds := [], alts := [], laidByText := true, laidKinds := [.handle, .sentinel, .sentinel, .sentinel, .sentinel, .sentinel, .sentinel, .sentinel, .sentinel], laidTests := true, laidLooks := .later }
def GaugeAlikeCardSaid : Prop := Claim7.holds Tryz.pinned (.plain (OpenSpec.ofChange gaugeAlikeSpec)) gaugeAlikeCard

/-- THE SECOND FORM's CARD OF 'drumlinelaw12.GaugeBegins'. -/
def gaugeBeginsUptoCard : Claim7 := { stood := { row := gaugeBeginsUptoRow, standIns := [], harness := (true, "29f2de187f9ab43863ee8dc5aa9aa6d5c4a085352e8ef43672a7edcfba4dff2a"), looks := true }, kinds := [], alts := [], laidByText := true, laidKinds := [.handle, .sentinel, .sentinel, .sentinel, .sentinel, .sentinel, .sentinel, .sentinel, .sentinel], laidTests := true, laidLooks := .later }
def GaugeBeginsUptoCardSaid : Prop := Claim7.holds Tryz.pinned (.plain (OpenSpec.upto gaugeBeginsSpec)) gaugeBeginsUptoCard

/-- THE SECOND FORM's CARD OF 'drumlinelaw12.GaugeAlike'. -/
def gaugeAlikeUptoCard : Claim7 := { stood := { row := gaugeAlikeUptoRow, standIns := [], harness := (true, "29f2de187f9ab43863ee8dc5aa9aa6d5c4a085352e8ef43672a7edcfba4dff2a"), looks := true }, kinds := [], alts := [], laidByText := true, laidKinds := [.handle, .sentinel, .sentinel, .sentinel, .sentinel, .sentinel, .sentinel, .sentinel, .sentinel], laidTests := true, laidLooks := .later }
def GaugeAlikeUptoCardSaid : Prop := Claim7.holds Tryz.pinned (.plain (OpenSpec.upto gaugeAlikeSpec)) gaugeAlikeUptoCard
end Rows
end Go.Proofs.YtgklghpkfmoogaaGreatDoor
