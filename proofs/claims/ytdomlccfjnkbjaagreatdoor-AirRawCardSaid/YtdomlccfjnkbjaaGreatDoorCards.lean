/-
  DERIVED. GIVEN WITH THE SEED: THE CARDS: each row of YtdomlccfjnkbjaaGreatDoorRows.lean that lists a variable, with what it lists TIED to the program's text (the seventh form; the later family's looks); each row that meets fmt, with fmt's text TOLD by the authors' own Lean function (tested against real Go, not proved from fmt's source: count such statements apart). THE CARD IS WHAT COUNTS. Prove the row's statement (the work); the ties are given (YtdomlccfjnkbjaaGreatDoorTie.lean); close each card by the builder's one call (the guide's Derived/Test/ToyasCard.lean, 'card_holds'). Laid BY PROGRAM, IN A SANDBOX (cutbox-door.mjs). By AI agents, Wed Nov 11 2026. No macro, syntax, notation, axiom, sorry.
-/
import Derived.Test.YtdomlccfjnkbjaaGreatDoorRows
import GoSem.ClaimSeven
namespace Go.Proofs.YtdomlccfjnkbjaaGreatDoor
namespace Rows

/-- THE TIED CARD OF 'drumlinelaw11.AirFits'. -/
def airFitsCard : Claim7 := { stood := { row := airFitsRow, standIns := [], harness := (true, "1210250b91a88c5310b0d5b433bf24a3e6b65387af06fa02e72a1e0d8d17a181"), looks := true }, kinds := [], alts := [], laidByText := true, laidKinds := [.handle, .sentinel, .sentinel, .sentinel, .sentinel, .sentinel, .sentinel, .sentinel, .sentinel, .sentinel, .sentinel, .sentinel, .sentinel, .sentinel], laidTests := true, laidLooks := .later }
def AirFitsCardSaid : Prop := Claim7.holds Tryz.pinned (.plain (OpenSpec.ofChange airFitsSpec)) airFitsCard

/-- THE TIED CARD OF 'drumlinelaw11.AirRaw'. -/
def airRawCard : Claim7 := { stood := { row := airRawRow, standIns := [], harness := (true, "1210250b91a88c5310b0d5b433bf24a3e6b65387af06fa02e72a1e0d8d17a181"), looks := true }, kinds := [], alts := [], laidByText := true, laidKinds := [.handle, .sentinel, .sentinel, .sentinel, .sentinel, .sentinel, .sentinel, .sentinel, .sentinel, .sentinel, .sentinel, .sentinel, .sentinel, .sentinel], laidTests := true, laidLooks := .later }
def AirRawCardSaid : Prop := Claim7.holds Tryz.pinned (.plain (OpenSpec.ofChange airRawSpec)) airRawCard

/-- THE TIED CARD OF 'drumlinelaw11.AirHeard'. -/
def airHeardCard : Claim7 := { stood := { row := airHeardRow, standIns := [], harness := (true, "1210250b91a88c5310b0d5b433bf24a3e6b65387af06fa02e72a1e0d8d17a181"), looks := true }, kinds := [], alts := [], laidByText := true, laidKinds := [.handle, .sentinel, .sentinel, .sentinel, .sentinel, .sentinel, .sentinel, .sentinel, .sentinel, .sentinel, .sentinel, .sentinel, .sentinel, .sentinel], laidTests := true, laidLooks := .later }
def AirHeardCardSaid : Prop := Claim7.holds Tryz.pinned (.plain (OpenSpec.ofChange airHeardSpec)) airHeardCard

/-- THE TIED CARD OF 'drumlinelaw11.AirOrder'. -/
def airOrderCard : Claim7 := { stood := { row := airOrderRow, standIns := [], harness := (true, "1210250b91a88c5310b0d5b433bf24a3e6b65387af06fa02e72a1e0d8d17a181"), looks := true }, kinds := [], alts := [], laidByText := true, laidKinds := [.handle, .sentinel, .sentinel, .sentinel, .sentinel, .sentinel, .sentinel, .sentinel, .sentinel, .sentinel, .sentinel, .sentinel, .sentinel, .sentinel], laidTests := true, laidLooks := .later }
def AirOrderCardSaid : Prop := Claim7.holds Tryz.pinned (.plain (OpenSpec.ofChange airOrderSpec)) airOrderCard

/-- THE TIED CARD OF 'drumlinelaw11.AirLost'. -/
def airLostCard : Claim7 := { stood := { row := airLostRow, standIns := [], harness := (true, "1210250b91a88c5310b0d5b433bf24a3e6b65387af06fa02e72a1e0d8d17a181"), looks := true }, kinds := [], alts := [], laidByText := true, laidKinds := [.handle, .sentinel, .sentinel, .sentinel, .sentinel, .sentinel, .sentinel, .sentinel, .sentinel, .sentinel, .sentinel, .sentinel, .sentinel, .sentinel], laidTests := true, laidLooks := .later }
def AirLostCardSaid : Prop := Claim7.holds Tryz.pinned (.plain (OpenSpec.ofChange airLostSpec)) airLostCard

/-- THE SECOND FORM's CARD OF 'drumlinelaw11.AirFits'. -/
def airFitsUptoCard : Claim7 := { stood := { row := airFitsUptoRow, standIns := [], harness := (true, "1210250b91a88c5310b0d5b433bf24a3e6b65387af06fa02e72a1e0d8d17a181"), looks := true }, kinds := [], alts := [], laidByText := true, laidKinds := [.handle, .sentinel, .sentinel, .sentinel, .sentinel, .sentinel, .sentinel, .sentinel, .sentinel, .sentinel, .sentinel, .sentinel, .sentinel, .sentinel], laidTests := true, laidLooks := .later }
def AirFitsUptoCardSaid : Prop := Claim7.holds Tryz.pinned (.plain (OpenSpec.upto airFitsSpec)) airFitsUptoCard

/-- THE SECOND FORM's CARD OF 'drumlinelaw11.AirRaw'. -/
def airRawUptoCard : Claim7 := { stood := { row := airRawUptoRow, standIns := [], harness := (true, "1210250b91a88c5310b0d5b433bf24a3e6b65387af06fa02e72a1e0d8d17a181"), looks := true }, kinds := [], alts := [], laidByText := true, laidKinds := [.handle, .sentinel, .sentinel, .sentinel, .sentinel, .sentinel, .sentinel, .sentinel, .sentinel, .sentinel, .sentinel, .sentinel, .sentinel, .sentinel], laidTests := true, laidLooks := .later }
def AirRawUptoCardSaid : Prop := Claim7.holds Tryz.pinned (.plain (OpenSpec.upto airRawSpec)) airRawUptoCard

/-- THE SECOND FORM's CARD OF 'drumlinelaw11.AirHeard'. -/
def airHeardUptoCard : Claim7 := { stood := { row := airHeardUptoRow, standIns := [], harness := (true, "1210250b91a88c5310b0d5b433bf24a3e6b65387af06fa02e72a1e0d8d17a181"), looks := true }, kinds := [], alts := [], laidByText := true, laidKinds := [.handle, .sentinel, .sentinel, .sentinel, .sentinel, .sentinel, .sentinel, .sentinel, .sentinel, .sentinel, .sentinel, .sentinel, .sentinel, .sentinel], laidTests := true, laidLooks := .later }
def AirHeardUptoCardSaid : Prop := Claim7.holds Tryz.pinned (.plain (OpenSpec.upto airHeardSpec)) airHeardUptoCard

/-- THE SECOND FORM's CARD OF 'drumlinelaw11.AirOrder'. -/
def airOrderUptoCard : Claim7 := { stood := { row := airOrderUptoRow, standIns := [], harness := (true, "1210250b91a88c5310b0d5b433bf24a3e6b65387af06fa02e72a1e0d8d17a181"), looks := true }, kinds := [], alts := [], laidByText := true, laidKinds := [.handle, .sentinel, .sentinel, .sentinel, .sentinel, .sentinel, .sentinel, .sentinel, .sentinel, .sentinel, .sentinel, .sentinel, .sentinel, .sentinel], laidTests := true, laidLooks := .later }
def AirOrderUptoCardSaid : Prop := Claim7.holds Tryz.pinned (.plain (OpenSpec.upto airOrderSpec)) airOrderUptoCard

/-- THE SECOND FORM's CARD OF 'drumlinelaw11.AirLost'. -/
def airLostUptoCard : Claim7 := { stood := { row := airLostUptoRow, standIns := [], harness := (true, "1210250b91a88c5310b0d5b433bf24a3e6b65387af06fa02e72a1e0d8d17a181"), looks := true }, kinds := [], alts := [], laidByText := true, laidKinds := [.handle, .sentinel, .sentinel, .sentinel, .sentinel, .sentinel, .sentinel, .sentinel, .sentinel, .sentinel, .sentinel, .sentinel, .sentinel, .sentinel], laidTests := true, laidLooks := .later }
def AirLostUptoCardSaid : Prop := Claim7.holds Tryz.pinned (.plain (OpenSpec.upto airLostSpec)) airLostUptoCard
end Rows
end Go.Proofs.YtdomlccfjnkbjaaGreatDoor
