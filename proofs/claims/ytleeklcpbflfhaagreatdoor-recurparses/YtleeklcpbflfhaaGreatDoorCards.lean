/-
  DERIVED. GIVEN WITH THE SEED: THE CARDS: each row of YtleeklcpbflfhaaGreatDoorRows.lean that lists a variable, with what it lists TIED to the program's text (the seventh form; the later family's looks); each row that meets fmt, with fmt's text TOLD by the authors' own Lean function (tested against real Go, not proved from fmt's source: count such statements apart). THE CARD IS WHAT COUNTS. Prove the row's statement (the work); the ties are given (YtleeklcpbflfhaaGreatDoorTie.lean); close each card by the builder's one call (the guide's Derived/Test/ToyasCard.lean, 'card_holds'). Laid BY PROGRAM, IN A SANDBOX (cutbox-door.mjs). By AI agents, Wed Nov 11 2026. No macro, syntax, notation, axiom, sorry.
-/
import Derived.Test.YtleeklcpbflfhaaGreatDoorRows
import GoSem.ClaimSeven
namespace Go.Proofs.YtleeklcpbflfhaaGreatDoor
namespace Rows

/-- THE TIED CARD OF 'trystlaw13.RecurPrints'. -/
def recurPrintsCard : Claim7 := { stood := { row := recurPrintsRow, standIns := [], harness := (true, "53855a1ded3c173c247ca9ed3f7728a6b5ca75bc528e672ff660c7ddc0b5b7e7"), looks := false }, kinds := [], alts := [], laidByText := true, laidKinds := [.data, .data, .data, .data, .data, .data, .data, .pinned], laidTests := true, laidLooks := .later }
def RecurPrintsCardSaid : Prop := Claim7.holds Tryz.pinned (.plain (OpenSpec.ofChange recurPrintsSpec)) recurPrintsCard

/-- THE TIED CARD OF 'trystlaw13.RecurParses'. -/
def recurParsesCard : Claim7 := { stood := { row := recurParsesRow, standIns := [], harness := (true, "53855a1ded3c173c247ca9ed3f7728a6b5ca75bc528e672ff660c7ddc0b5b7e7"), looks := false }, kinds := [], alts := [], laidByText := true, laidKinds := [.data, .data, .data, .data, .pinned], laidTests := true, laidLooks := .later }
def RecurParsesCardSaid : Prop := Claim7.holds Tryz.pinned (.plain (OpenSpec.ofChange recurParsesSpec)) recurParsesCard

/-- THE TIED CARD OF 'trystlaw13.RecurBack'. -/
def recurBackCard : Claim7 := { stood := { row := recurBackRow, standIns := [], harness := (true, "53855a1ded3c173c247ca9ed3f7728a6b5ca75bc528e672ff660c7ddc0b5b7e7"), looks := false }, kinds := [], alts := [], laidByText := true, laidKinds := [.data, .data, .data, .data, .data, .data, .data, .pinned], laidTests := true, laidLooks := .later }
def RecurBackCardSaid : Prop := Claim7.holds Tryz.pinned (.plain (OpenSpec.ofChange recurBackSpec)) recurBackCard

/-- THE TIED CARD OF 'trystlaw13.RecurEqual'. -/
def recurEqualCard : Claim7 := { stood := { row := recurEqualRow, standIns := [], harness := (true, "53855a1ded3c173c247ca9ed3f7728a6b5ca75bc528e672ff660c7ddc0b5b7e7"), looks := false }, kinds := [], alts := [], laidByText := true, laidKinds := [.data, .data, .data, .data, .pinned], laidTests := true, laidLooks := .later }
def RecurEqualCardSaid : Prop := Claim7.holds Tryz.pinned (.plain (OpenSpec.ofChange recurEqualSpec)) recurEqualCard

/-- THE SECOND FORM's CARD OF 'trystlaw13.RecurPrints'. -/
def recurPrintsUptoCard : Claim7 := { stood := { row := recurPrintsUptoRow, standIns := [], harness := (true, "53855a1ded3c173c247ca9ed3f7728a6b5ca75bc528e672ff660c7ddc0b5b7e7"), looks := false }, kinds := [], alts := [], laidByText := true, laidKinds := [.data, .data, .data, .data, .data, .data, .data, .pinned], laidTests := true, laidLooks := .later }
def RecurPrintsUptoCardSaid : Prop := Claim7.holds Tryz.pinned (.plain (OpenSpec.upto recurPrintsSpec)) recurPrintsUptoCard

/-- THE SECOND FORM's CARD OF 'trystlaw13.RecurParses'. -/
def recurParsesUptoCard : Claim7 := { stood := { row := recurParsesUptoRow, standIns := [], harness := (true, "53855a1ded3c173c247ca9ed3f7728a6b5ca75bc528e672ff660c7ddc0b5b7e7"), looks := false }, kinds := [], alts := [], laidByText := true, laidKinds := [.data, .data, .data, .data, .pinned], laidTests := true, laidLooks := .later }
def RecurParsesUptoCardSaid : Prop := Claim7.holds Tryz.pinned (.plain (OpenSpec.upto recurParsesSpec)) recurParsesUptoCard

/-- THE SECOND FORM's CARD OF 'trystlaw13.RecurBack'. -/
def recurBackUptoCard : Claim7 := { stood := { row := recurBackUptoRow, standIns := [], harness := (true, "53855a1ded3c173c247ca9ed3f7728a6b5ca75bc528e672ff660c7ddc0b5b7e7"), looks := false }, kinds := [], alts := [], laidByText := true, laidKinds := [.data, .data, .data, .data, .data, .data, .data, .pinned], laidTests := true, laidLooks := .later }
def RecurBackUptoCardSaid : Prop := Claim7.holds Tryz.pinned (.plain (OpenSpec.upto recurBackSpec)) recurBackUptoCard

/-- THE SECOND FORM's CARD OF 'trystlaw13.RecurEqual'. -/
def recurEqualUptoCard : Claim7 := { stood := { row := recurEqualUptoRow, standIns := [], harness := (true, "53855a1ded3c173c247ca9ed3f7728a6b5ca75bc528e672ff660c7ddc0b5b7e7"), looks := false }, kinds := [], alts := [], laidByText := true, laidKinds := [.data, .data, .data, .data, .pinned], laidTests := true, laidLooks := .later }
def RecurEqualUptoCardSaid : Prop := Claim7.holds Tryz.pinned (.plain (OpenSpec.upto recurEqualSpec)) recurEqualUptoCard
end Rows
end Go.Proofs.YtleeklcpbflfhaaGreatDoor
