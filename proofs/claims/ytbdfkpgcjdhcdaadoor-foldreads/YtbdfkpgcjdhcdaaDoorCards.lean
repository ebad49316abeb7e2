/-
  DERIVED. GIVEN WITH THE SEED: THE CARDS: each row of YtbdfkpgcjdhcdaaDoorRows.lean that lists a variable, with what it lists TIED to the program's text (the seventh form; the later family's looks); each row that meets fmt, with fmt's text TOLD by the authors' own Lean function (tested against real Go, not proved from fmt's source: count such statements apart). THE CARD IS WHAT COUNTS. Prove the row's statement (the work); the ties are given (YtbdfkpgcjdhcdaaDoorTie.lean); close each card by the builder's one call (the guide's Derived/Test/ToyasCard.lean, 'card_holds'). Laid BY PROGRAM, IN A SANDBOX (cutbox-door.mjs). By AI agents, Wed Nov 11 2026. No macro, syntax, notation, axiom, sorry.
-/
import Derived.Test.YtbdfkpgcjdhcdaaDoorRows
import GoSem.ClaimSeven
namespace Go.Proofs.YtbdfkpgcjdhcdaaDoor
namespace Rows

/-- THE TIED CARD OF 'trystlaw08.FoldWrites'. -/
def foldWritesCard : Claim7 := { stood := { row := foldWritesRow, standIns := [], harness := (true, "375dff063b1cc47042ed341cf868254e077f81b478be83d6f7f8690f908b2944"), looks := false }, kinds := [], alts := [], laidByText := true, laidKinds := [.data, .pinned], laidTests := true, laidLooks := .later }
def FoldWritesCardSaid : Prop := Claim7.holds Tryd.pinned (.plain (OpenSpec.ofChange foldWritesSpec)) foldWritesCard

/-- THE TIED CARD OF 'trystlaw08.FoldReads'. -/
def foldReadsCard : Claim7 := { stood := { row := foldReadsRow, standIns := [], harness := (true, "375dff063b1cc47042ed341cf868254e077f81b478be83d6f7f8690f908b2944"), looks := false }, kinds := [], alts := [], laidByText := true, laidKinds := [.data, .pinned], laidTests := true, laidLooks := .later }
def FoldReadsCardSaid : Prop := Claim7.holds Tryd.pinned (.plain (OpenSpec.ofChange foldReadsSpec)) foldReadsCard

/-- THE TIED CARD OF 'trystlaw08.FoldBack'. -/
def foldBackCard : Claim7 := { stood := { row := foldBackRow, standIns := [], harness := (true, "375dff063b1cc47042ed341cf868254e077f81b478be83d6f7f8690f908b2944"), looks := false }, kinds := [], alts := [], laidByText := true, laidKinds := [.data, .pinned], laidTests := true, laidLooks := .later }
def FoldBackCardSaid : Prop := Claim7.holds Tryd.pinned (.plain (OpenSpec.ofChange foldBackSpec)) foldBackCard

/-- THE TIED CARD OF 'trystlaw08.FoldOther'. -/
def foldOtherCard : Claim7 := { stood := { row := foldOtherRow, standIns := [], harness := (true, "375dff063b1cc47042ed341cf868254e077f81b478be83d6f7f8690f908b2944"), looks := false }, kinds := [], alts := [], laidByText := true, laidKinds := [.data, .pinned], laidTests := true, laidLooks := .later }
def FoldOtherCardSaid : Prop := Claim7.holds Tryd.pinned (.plain (OpenSpec.ofChange foldOtherSpec)) foldOtherCard

/-- THE SECOND FORM's CARD OF 'trystlaw08.FoldWrites'. -/
def foldWritesUptoCard : Claim7 := { stood := { row := foldWritesUptoRow, standIns := [], harness := (true, "375dff063b1cc47042ed341cf868254e077f81b478be83d6f7f8690f908b2944"), looks := false }, kinds := [], alts := [], laidByText := true, laidKinds := [.data, .pinned], laidTests := true, laidLooks := .later }
def FoldWritesUptoCardSaid : Prop := Claim7.holds Tryd.pinned (.plain (OpenSpec.upto foldWritesSpec)) foldWritesUptoCard

/-- THE SECOND FORM's CARD OF 'trystlaw08.FoldReads'. -/
def foldReadsUptoCard : Claim7 := { stood := { row := foldReadsUptoRow, standIns := [], harness := (true, "375dff063b1cc47042ed341cf868254e077f81b478be83d6f7f8690f908b2944"), looks := false }, kinds := [], alts := [], laidByText := true, laidKinds := [.data, .pinned], laidTests := true, laidLooks := .later }
def FoldReadsUptoCardSaid : Prop := Claim7.holds Tryd.pinned (.plain (OpenSpec.upto foldReadsSpec)) foldReadsUptoCard

/-- THE SECOND FORM's CARD OF 'trystlaw08.FoldBack'. -/
def foldBackUptoCard : Claim7 := { stood := { row := foldBackUptoRow, standIns := [], harness := (true, "375dff063b1cc47042ed341cf868254e077f81b478be83d6f7f8690f908b2944"), looks := false }, kinds := [], alts := [], laidByText := true, laidKinds := [.data, .pinned], laidTests := true, laidLooks := .later }
def FoldBackUptoCardSaid : Prop := Claim7.holds Tryd.pinned (.plain (OpenSpec.upto foldBackSpec)) foldBackUptoCard

/-- THE SECOND FORM's CARD OF 'trystlaw08.FoldOther'. -/
def foldOtherUptoCard : Claim7 := { stood := { row := foldOtherUptoRow, standIns := [], harness := (true, "375dff063b1cc47042ed341cf868254e077f81b478be83d6f7f8690f908b2944"), looks := false }, kinds := [], alts := [], laidByText := true, laidKinds := [.data, .pinned], laidTests := true, laidLooks := .later }
def FoldOtherUptoCardSaid : Prop := Claim7.holds Tryd.pinned (.plain (OpenSpec.upto foldOtherSpec)) foldOtherUptoCard
end Rows
end Go.Proofs.YtbdfkpgcjdhcdaaDoor
