/-
  DERIVED. GIVEN WITH THE SEED: THE CARDS: each row of YtafpdiikhhikeaaGreatDoorRows.lean that lists a variable, with what it lists TIED to the program's text (the seventh form; the later family's looks); each row that meets fmt, with fmt's text TOLD by the authors' own Lean function (tested against real Go, not proved from fmt's source: count such statements apart). THE CARD IS WHAT COUNTS. Prove the row's statement (the work); the ties are given (YtafpdiikhhikeaaGreatDoorTie.lean); close each card by the builder's one call (the guide's Derived/Test/ToyasCard.lean, 'card_holds'). Laid BY PROGRAM, IN A SANDBOX (cutbox-door.mjs). By AI agents, Wed Nov 11 2026. No macro, syntax, notation, axiom, sorry.
-/
import Derived.Test.YtafpdiikhhikeaaGreatDoorRows
import GoSem.ClaimSeven
namespace Go.Proofs.YtafpdiikhhikeaaGreatDoor
namespace Rows

/-- THE TIED CARD OF 'trystlaw12.ValueTimes'. -/
def valueTimesCard : Claim7 := { stood := { row := valueTimesRow, standIns := [], harness := (true, "861d32047284b16d995bc9681b0f0a6461832c8b3eb4c41bf4a9618d0776b137"), looks := false }, kinds := [], alts := [], laidByText := true, laidKinds := [.data, .data, .data], laidTests := true, laidLooks := .later }
def ValueTimesCardSaid : Prop := Claim7.holds Tryz.pinned (.plain (OpenSpec.ofChange valueTimesSpec)) valueTimesCard

/-- THE SECOND FORM's CARD OF 'trystlaw12.ValueTimes'. -/
def valueTimesUptoCard : Claim7 := { stood := { row := valueTimesUptoRow, standIns := [], harness := (true, "861d32047284b16d995bc9681b0f0a6461832c8b3eb4c41bf4a9618d0776b137"), looks := false }, kinds := [], alts := [], laidByText := true, laidKinds := [.data, .data, .data], laidTests := true, laidLooks := .later }
def ValueTimesUptoCardSaid : Prop := Claim7.holds Tryz.pinned (.plain (OpenSpec.upto valueTimesSpec)) valueTimesUptoCard
end Rows
end Go.Proofs.YtafpdiikhhikeaaGreatDoor
