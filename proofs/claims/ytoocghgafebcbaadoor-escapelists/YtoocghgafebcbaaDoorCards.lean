/-
  DERIVED. GIVEN WITH THE SEED: THE CARDS: each row of YtoocghgafebcbaaDoorRows.lean that lists a variable, with what it lists TIED to the program's text (the seventh form; the later family's looks); each row that meets fmt, with fmt's text TOLD by the authors' own Lean function (tested against real Go, not proved from fmt's source: count such statements apart). THE CARD IS WHAT COUNTS. Prove the row's statement (the work); the ties are given (YtoocghgafebcbaaDoorTie.lean); close each card by the builder's one call (the guide's Derived/Test/ToyasCard.lean, 'card_holds'). Laid BY PROGRAM, IN A SANDBOX (cutbox-door.mjs). By AI agents, Wed Nov 11 2026. No macro, syntax, notation, axiom, sorry.
-/
import Derived.Test.YtoocghgafebcbaaDoorRows
import GoSem.ClaimSeven
namespace Go.Proofs.YtoocghgafebcbaaDoor
namespace Rows

/-- THE TIED CARD OF 'trystlaw09.EscapeWrites'. -/
def escapeWritesCard : Claim7 := { stood := { row := escapeWritesRow, standIns := [], harness := (true, "e4de3192b778345046991d160ed3d7cf2d438a6ab9210d40b50113442000ed75"), looks := false }, kinds := [], alts := [], laidByText := true, laidKinds := [.data, .pinned], laidTests := true, laidLooks := .later }
def EscapeWritesCardSaid : Prop := Claim7.holds Tryd.pinned (.plain (OpenSpec.ofChange escapeWritesSpec)) escapeWritesCard

/-- THE TIED CARD OF 'trystlaw09.EscapeReads'. -/
def escapeReadsCard : Claim7 := { stood := { row := escapeReadsRow, standIns := [], harness := (true, "e4de3192b778345046991d160ed3d7cf2d438a6ab9210d40b50113442000ed75"), looks := false }, kinds := [], alts := [], laidByText := true, laidKinds := [.data, .pinned], laidTests := true, laidLooks := .later }
def EscapeReadsCardSaid : Prop := Claim7.holds Tryd.pinned (.plain (OpenSpec.ofChange escapeReadsSpec)) escapeReadsCard

/-- THE TIED CARD OF 'trystlaw09.EscapeBack'. -/
def escapeBackCard : Claim7 := { stood := { row := escapeBackRow, standIns := [], harness := (true, "e4de3192b778345046991d160ed3d7cf2d438a6ab9210d40b50113442000ed75"), looks := false }, kinds := [], alts := [], laidByText := true, laidKinds := [.data, .pinned], laidTests := true, laidLooks := .later }
def EscapeBackCardSaid : Prop := Claim7.holds Tryd.pinned (.plain (OpenSpec.ofChange escapeBackSpec)) escapeBackCard

/-- THE TIED CARD OF 'trystlaw09.EscapeLists'. -/
def escapeListsCard : Claim7 := { stood := { row := escapeListsRow, standIns := [], harness := (true, "e4de3192b778345046991d160ed3d7cf2d438a6ab9210d40b50113442000ed75"), looks := false }, kinds := [], alts := [], laidByText := true, laidKinds := [.data, .pinned], laidTests := true, laidLooks := .later }
def EscapeListsCardSaid : Prop := Claim7.holds Tryd.pinned (.plain (OpenSpec.ofChange escapeListsSpec)) escapeListsCard

/-- THE SECOND FORM's CARD OF 'trystlaw09.EscapeWrites'. -/
def escapeWritesUptoCard : Claim7 := { stood := { row := escapeWritesUptoRow, standIns := [], harness := (true, "e4de3192b778345046991d160ed3d7cf2d438a6ab9210d40b50113442000ed75"), looks := false }, kinds := [], alts := [], laidByText := true, laidKinds := [.data, .pinned], laidTests := true, laidLooks := .later }
def EscapeWritesUptoCardSaid : Prop := Claim7.holds Tryd.pinned (.plain (OpenSpec.upto escapeWritesSpec)) escapeWritesUptoCard

/-- THE SECOND FORM's CARD OF 'trystlaw09.EscapeReads'. -/
def escapeReadsUptoCard : Claim7 := { stood := { row := escapeReadsUptoRow, standIns := [], harness := (true, "e4de3192b778345046991d160ed3d7cf2d438a6ab9210d40b50113442000ed75"), looks := false }, kinds := [], alts := [], laidByText := true, laidKinds := [.data, .pinned], laidTests := true, laidLooks := .later }
def EscapeReadsUptoCardSaid : Prop := Claim7.holds Tryd.pinned (.plain (OpenSpec.upto escapeReadsSpec)) escapeReadsUptoCard

/-- THE SECOND FORM's CARD OF 'trystlaw09.EscapeBack'. -/
def escapeBackUptoCard : Claim7 := { stood := { row := escapeBackUptoRow, standIns := [], harness := (true, "e4de3192b778345046991d160ed3d7cf2d438a6ab9210d40b50113442000ed75"), looks := false }, kinds := [], alts := [], laidByText := true, laidKinds := [.data, .pinned], laidTests := true, laidLooks := .later }
def EscapeBackUptoCardSaid : Prop := Claim7.holds Tryd.pinned (.plain (OpenSpec.upto escapeBackSpec)) escapeBackUptoCard

/-- THE SECOND FORM's CARD OF 'trystlaw09.EscapeLists'. -/
def escapeListsUptoCard : Claim7 := { stood := { row := escapeListsUptoRow, standIns := [], harness := (true, "e4de3192b778345046991d160ed3d7cf2d438a6ab9210d40b50113442000ed75"), looks := false }, kinds := [], alts := [], laidByText := true, laidKinds := [.data, .pinned], laidTests := true, laidLooks := .later }
def EscapeListsUptoCardSaid : Prop := Claim7.holds Tryd.pinned (.plain (OpenSpec.upto escapeListsSpec)) escapeListsUptoCard
end Rows
end Go.Proofs.YtoocghgafebcbaaDoor
