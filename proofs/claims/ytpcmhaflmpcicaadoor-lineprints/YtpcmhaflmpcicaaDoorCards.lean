/-
  DERIVED. GIVEN WITH THE SEED: THE CARDS: each row of YtpcmhaflmpcicaaDoorRows.lean that lists a variable, with what it lists TIED to the program's text (the seventh form; the later family's looks); each row that meets fmt, with fmt's text TOLD by the authors' own Lean function (tested against real Go, not proved from fmt's source: count such statements apart). THE CARD IS WHAT COUNTS. Prove the row's statement (the work); the ties are given (YtpcmhaflmpcicaaDoorTie.lean); close each card by the builder's one call (the guide's Derived/Test/ToyasCard.lean, 'card_holds'). Laid BY PROGRAM, IN A SANDBOX (cutbox-door.mjs). By AI agents, Wed Nov 11 2026. No macro, syntax, notation, axiom, sorry.
-/
import Derived.Test.YtpcmhaflmpcicaaDoorRows
import GoSem.ClaimSeven
namespace Go.Proofs.YtpcmhaflmpcicaaDoor
namespace Rows

/-- THE TIED CARD OF 'trystlaw10.LinePrints'. -/
def linePrintsCard : Claim7 := { stood := { row := linePrintsRow, standIns := [], harness := (true, "862ddb29af9f6d2a071ec5e10da3b5b93a145814d3feda9132cead4635323620"), looks := false }, kinds := [], alts := [], laidByText := true, laidKinds := [.data, .pinned], laidTests := true, laidLooks := .later }
def LinePrintsCardSaid : Prop := Claim7.holds Tryd.pinned (.plain (OpenSpec.ofChange linePrintsSpec)) linePrintsCard

/-- THE TIED CARD OF 'trystlaw10.LineBack'. -/
def lineBackCard : Claim7 := { stood := { row := lineBackRow, standIns := [], harness := (true, "862ddb29af9f6d2a071ec5e10da3b5b93a145814d3feda9132cead4635323620"), looks := false }, kinds := [], alts := [], laidByText := true, laidKinds := [.data, .pinned], laidTests := true, laidLooks := .later }
def LineBackCardSaid : Prop := Claim7.holds Tryd.pinned (.plain (OpenSpec.ofChange lineBackSpec)) lineBackCard

/-- THE TIED CARD OF 'trystlaw10.LineAgain'. -/
def lineAgainCard : Claim7 := { stood := { row := lineAgainRow, standIns := [], harness := (true, "862ddb29af9f6d2a071ec5e10da3b5b93a145814d3feda9132cead4635323620"), looks := false }, kinds := [], alts := [], laidByText := true, laidKinds := [.data, .pinned], laidTests := true, laidLooks := .later }
def LineAgainCardSaid : Prop := Claim7.holds Tryd.pinned (.plain (OpenSpec.ofChange lineAgainSpec)) lineAgainCard

/-- THE TIED CARD OF 'trystlaw10.LineEqual'. -/
def lineEqualCard : Claim7 := { stood := { row := lineEqualRow, standIns := [], harness := (true, "862ddb29af9f6d2a071ec5e10da3b5b93a145814d3feda9132cead4635323620"), looks := false }, kinds := [], alts := [], laidByText := true, laidKinds := [.data, .pinned], laidTests := true, laidLooks := .later }
def LineEqualCardSaid : Prop := Claim7.holds Tryd.pinned (.plain (OpenSpec.ofChange lineEqualSpec)) lineEqualCard

/-- THE SECOND FORM's CARD OF 'trystlaw10.LinePrints'. -/
def linePrintsUptoCard : Claim7 := { stood := { row := linePrintsUptoRow, standIns := [], harness := (true, "862ddb29af9f6d2a071ec5e10da3b5b93a145814d3feda9132cead4635323620"), looks := false }, kinds := [], alts := [], laidByText := true, laidKinds := [.data, .pinned], laidTests := true, laidLooks := .later }
def LinePrintsUptoCardSaid : Prop := Claim7.holds Tryd.pinned (.plain (OpenSpec.upto linePrintsSpec)) linePrintsUptoCard

/-- THE SECOND FORM's CARD OF 'trystlaw10.LineBack'. -/
def lineBackUptoCard : Claim7 := { stood := { row := lineBackUptoRow, standIns := [], harness := (true, "862ddb29af9f6d2a071ec5e10da3b5b93a145814d3feda9132cead4635323620"), looks := false }, kinds := [], alts := [], laidByText := true, laidKinds := [.data, .pinned], laidTests := true, laidLooks := .later }
def LineBackUptoCardSaid : Prop := Claim7.holds Tryd.pinned (.plain (OpenSpec.upto lineBackSpec)) lineBackUptoCard

/-- THE SECOND FORM's CARD OF 'trystlaw10.LineAgain'. -/
def lineAgainUptoCard : Claim7 := { stood := { row := lineAgainUptoRow, standIns := [], harness := (true, "862ddb29af9f6d2a071ec5e10da3b5b93a145814d3feda9132cead4635323620"), looks := false }, kinds := [], alts := [], laidByText := true, laidKinds := [.data, .pinned], laidTests := true, laidLooks := .later }
def LineAgainUptoCardSaid : Prop := Claim7.holds Tryd.pinned (.plain (OpenSpec.upto lineAgainSpec)) lineAgainUptoCard

/-- THE SECOND FORM's CARD OF 'trystlaw10.LineEqual'. -/
def lineEqualUptoCard : Claim7 := { stood := { row := lineEqualUptoRow, standIns := [], harness := (true, "862ddb29af9f6d2a071ec5e10da3b5b93a145814d3feda9132cead4635323620"), looks := false }, kinds := [], alts := [], laidByText := true, laidKinds := [.data, .pinned], laidTests := true, laidLooks := .later }
def LineEqualUptoCardSaid : Prop := Claim7.holds Tryd.pinned (.plain (OpenSpec.upto lineEqualSpec)) lineEqualUptoCard
end Rows
end Go.Proofs.YtpcmhaflmpcicaaDoor
