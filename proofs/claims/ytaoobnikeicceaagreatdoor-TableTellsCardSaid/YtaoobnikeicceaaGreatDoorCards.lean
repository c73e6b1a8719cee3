/-
  DERIVED. GIVEN WITH THE SEED: THE CARDS: each row of YtaoobnikeicceaaGreatDoorRows.lean that lists a variable, with what it lists TIED to the program's text (the seventh form; the later family's looks); each row that meets fmt, with fmt's text TOLD by the authors' own Lean function (tested against real Go, not proved from fmt's source: count such statements apart). THE CARD IS WHAT COUNTS. Prove the row's statement (the work); the ties are given (YtaoobnikeicceaaGreatDoorTie.lean); close each card by the builder's one call (the guide's Derived/Test/ToyasCard.lean, 'card_holds'). Laid BY PROGRAM, IN A SANDBOX (cutbox-door.mjs). By AI agents, Wed Nov 11 2026. No macro, syntax, notation, axiom, sorry.
-/
import Derived.Test.YtaoobnikeicceaaGreatDoorRows
import GoSem.ClaimSeven
namespace Go.Proofs.YtaoobnikeicceaaGreatDoor
namespace Rows

/-- THE TIED CARD OF 'drumlinelaw9.TableTells'. -/
def tableTellsCard : Claim7 := { stood := { row := tableTellsRow, standIns := [], harness := (true, "df7f6d2ef939b51d51600f031769b9c4e20627387d0e65db081d1ecc479e314e"), looks := true }, kinds := [], alts := [], laidByText := true, laidKinds := [.handle, .sentinel, .sentinel, .sentinel, .sentinel, .sentinel, .sentinel, .sentinel, .sentinel], laidTests := true, laidLooks := .later }
def TableTellsCardSaid : Prop := Claim7.holds Tryz.pinned (.plain (OpenSpec.ofChange tableTellsSpec)) tableTellsCard

/-- THE TIED CARD OF 'drumlinelaw9.TableMade'. -/
def tableMadeCard : Claim7 := { stood := { row := tableMadeRow, standIns := [], harness := (true, "df7f6d2ef939b51d51600f031769b9c4e20627387d0e65db081d1ecc479e314e"), looks := true }, kinds := [], alts := [], laidByText := true, laidKinds := [.handle, .sentinel, .sentinel, .sentinel, .sentinel, .sentinel, .sentinel, .sentinel, .sentinel], laidTests := true, laidLooks := .later }
def TableMadeCardSaid : Prop := Claim7.holds Tryz.pinned (.plain (OpenSpec.ofChange tableMadeSpec)) tableMadeCard

/-- THE TIED CARD OF 'drumlinelaw9.TableApart'. -/
def tableApartCard : Claim7 := { stood := { row := tableApartRow, standIns := [], harness := (true, "df7f6d2ef939b51d51600f031769b9c4e20627387d0e65db081d1ecc479e314e"), looks := true }, kinds := [], alts := [], laidByText := true, laidKinds := [.handle, .sentinel, .sentinel, .sentinel, .sentinel, .sentinel, .sentinel, .sentinel, .sentinel], laidTests := true, laidLooks := .later }
def TableApartCardSaid : Prop := Claim7.holds Tryz.pinned (.plain (OpenSpec.ofChange tableApartSpec)) tableApartCard

/-- THE TIED CARD OF 'drumlinelaw9.TableWhich'. -/
def tableWhichCard : Claim7 := { stood := { row := tableWhichRow, standIns := [], harness := (true, "df7f6d2ef939b51d51600f031769b9c4e20627387d0e65db081d1ecc479e314e"), looks := true }, kinds := [], alts := [], laidByText := true, laidKinds := [.handle, .sentinel, .sentinel, .sentinel, .sentinel, .sentinel, .sentinel, .sentinel, .sentinel], laidTests := true, laidLooks := .later }
def TableWhichCardSaid : Prop := Claim7.holds Tryz.pinned (.plain (OpenSpec.ofChange tableWhichSpec)) tableWhichCard

/-- THE TIED CARD OF 'drumlinelaw9.TableOwns'. -/
def tableOwnsCard : Claim7 := { stood := { row := tableOwnsRow, standIns := [], harness := (true, "df7f6d2ef939b51d51600f031769b9c4e20627387d0e65db081d1ecc479e314e"), looks := true }, kinds := [], alts := [], laidByText := true, laidKinds := [.handle, .sentinel, .sentinel, .sentinel, .sentinel, .sentinel, .sentinel, .sentinel, .sentinel], laidTests := true, laidLooks := .later }
def TableOwnsCardSaid : Prop := Claim7.holds Tryz.pinned (.plain (OpenSpec.ofChange tableOwnsSpec)) tableOwnsCard

/-- THE SECOND FORM's CARD OF 'drumlinelaw9.TableTells'. -/
def tableTellsUptoCard : Claim7 := { stood := { row := tableTellsUptoRow, standIns := [], harness := (true, "df7f6d2ef939b51d51600f031769b9c4e20627387d0e65db081d1ecc479e314e"), looks := true }, kinds := [], alts := [], laidByText := true, laidKinds := [.handle, .sentinel, .sentinel, .sentinel, .sentinel, .sentinel, .sentinel, .sentinel, .sentinel], laidTests := true, laidLooks := .later }
def TableTellsUptoCardSaid : Prop := Claim7.holds Tryz.pinned (.plain (OpenSpec.upto tableTellsSpec)) tableTellsUptoCard

/-- THE SECOND FORM's CARD OF 'drumlinelaw9.TableMade'. -/
def tableMadeUptoCard : Claim7 := { stood := { row := tableMadeUptoRow, standIns := [], harness := (true, "df7f6d2ef939b51d51600f031769b9c4e20627387d0e65db081d1ecc479e314e"), looks := true }, kinds := [], alts := [], laidByText := true, laidKinds := [.handle, .sentinel, .sentinel, .sentinel, .sentinel, .sentinel, .sentinel, .sentinel, .sentinel], laidTests := true, laidLooks := .later }
def TableMadeUptoCardSaid : Prop := Claim7.holds Tryz.pinned (.plain (OpenSpec.upto tableMadeSpec)) tableMadeUptoCard

/-- THE SECOND FORM's CARD OF 'drumlinelaw9.TableApart'. -/
def tableApartUptoCard : Claim7 := { stood := { row := tableApartUptoRow, standIns := [], harness := (true, "df7f6d2ef939b51d51600f031769b9c4e20627387d0e65db081d1ecc479e314e"), looks := true }, kinds := [], alts := [], laidByText := true, laidKinds := [.handle, .sentinel, .sentinel, .sentinel, .sentinel, .sentinel, .sentinel, .sentinel, .sentinel], laidTests := true, laidLooks := .later }
def TableApartUptoCardSaid : Prop := Claim7.holds Tryz.pinned (.plain (OpenSpec.upto tableApartSpec)) tableApartUptoCard

/-- THE SECOND FORM's CARD OF 'drumlinelaw9.TableWhich'. -/
def tableWhichUptoCard : Claim7 := { stood := { row := tableWhichUptoRow, standIns := [], harness := (true, "df7f6d2ef939b51d51600f031769b9c4e20627387d0e65db081d1ecc479e314e"), looks := true }, kinds := [], alts := [], laidByText := true, laidKinds := [.handle, .sentinel, .sentinel, .sentinel, .sentinel, .sentinel, .sentinel, .sentinel, .sentinel], laidTests := true, laidLooks := .later }
def TableWhichUptoCardSaid : Prop := Claim7.holds Tryz.pinned (.plain (OpenSpec.upto tableWhichSpec)) tableWhichUptoCard

/-- THE SECOND FORM's CARD OF 'drumlinelaw9.TableOwns'. -/
def tableOwnsUptoCard : Claim7 := { stood := { row := tableOwnsUptoRow, standIns := [], harness := (true, "df7f6d2ef939b51d51600f031769b9c4e20627387d0e65db081d1ecc479e314e"), looks := true }, kinds := [], alts := [], laidByText := true, laidKinds := [.handle, .sentinel, .sentinel, .sentinel, .sentinel, .sentinel, .sentinel, .sentinel, .sentinel], laidTests := true, laidLooks := .later }
def TableOwnsUptoCardSaid : Prop := Claim7.holds Tryz.pinned (.plain (OpenSpec.upto tableOwnsSpec)) tableOwnsUptoCard
end Rows
end Go.Proofs.YtaoobnikeicceaaGreatDoor
