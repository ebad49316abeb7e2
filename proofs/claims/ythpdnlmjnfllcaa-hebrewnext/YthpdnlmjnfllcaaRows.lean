/-
  No cell of these rows narrows 'for every input' (looked for: loops, veiled, ifaces, maps, wideKeys, modest, calm, conditions, laid).
  DERIVED. THE GIVEN ROWS OF THIS SEAT. 6 by the template 'for every input the law returns true; each argument reads behind the call as it read before'; 0 by the template 'total and deterministic' (their statements: YthpdnlmjnfllcaaTotals.lean).
  GIVEN WITH THE SEED: the statements are not yours to turn. If you find one false, say at which input.
  Laid BY PROGRAM, IN A SANDBOX (cutbox-rows.mjs): the forced cells as the released guide's own fill.sh prints them over the translation e350e4d7e074b94b… (all of the seat's roots in one cut). By AI agents, Wed Nov 11 2026. No macro, syntax, notation, axiom, sorry.
-/
import Derived.Test.YthpdnlmjnfllcaaChecked
import GoSem.Claim
import GoSem.ClaimJoined
import GoSem.ClaimMapViews
import Derived.JoinedTies
import Derived.KernelRfl
namespace Go.Proofs.Ythpdnlmjnfllcaa
/- THE CELL 'sum', in the pinned program and in every row, IS THE sha256 OF THE DUMP (.gsa) THAT YthpdnlmjnfllcaaProg.lean LOADS. Nothing in Lean hashes anything: it is a label: what it is worth is what the hold of that sum in a sandbox is worth. -/
noncomputable def Try.pinned : Pinned := { name := "ythpdnlmjnfllcaa", sum := "e350e4d7e074b94b1cba88782f77183e529371aed5389d4b7b50692131ccb5a4", checked := Try.checked }
namespace Rows
def none {H : Type} : Left H := { results := [], args := [] }

/-- 'trystlaw06.HebrewDates': WHATEVER THE INPUT: true; the input reads as it did. -/
def hebrewDatesSpec : ChangeSpec := { name := "hebrewDates", fn := fun _ => fun
  | [d] => { results := [.lit (.bool true)], args := [d] }
  | _ => none }
def hebrewDatesRow : OpenClaim := { program := "ythpdnlmjnfllcaa", sum := "e350e4d7e074b94b1cba88782f77183e529371aed5389d4b7b50692131ccb5a4", func := "tryst/trystlaw06.HebrewDates", spec := "hebrewDates", apart := false }
def HebrewDatesSaid : Prop := hebrewDatesRow.holds Try.pinned (OpenSpec.ofChange hebrewDatesSpec)

/-- ITS FALSE NEIGHBOUR: 'it returns false'. Refute it at one input. -/
def hebrewDatesWrong : ChangeSpec := { name := "hebrewDates", fn := fun _ => fun
  | [d] => { results := [.lit (.bool false)], args := [d] }
  | _ => none }
def HebrewDatesWrongFalsely : Prop := hebrewDatesRow.holds Try.pinned (OpenSpec.ofChange hebrewDatesWrong)

/-- 'trystlaw06.HebrewDays': WHATEVER THE INPUT: true; the input reads as it did. -/
def hebrewDaysSpec : ChangeSpec := { name := "hebrewDays", fn := fun _ => fun
  | [d] => { results := [.lit (.bool true)], args := [d] }
  | _ => none }
def hebrewDaysRow : OpenClaim := { program := "ythpdnlmjnfllcaa", sum := "e350e4d7e074b94b1cba88782f77183e529371aed5389d4b7b50692131ccb5a4", func := "tryst/trystlaw06.HebrewDays", spec := "hebrewDays", apart := false }
def HebrewDaysSaid : Prop := hebrewDaysRow.holds Try.pinned (OpenSpec.ofChange hebrewDaysSpec)

/-- ITS FALSE NEIGHBOUR: 'it returns false'. Refute it at one input. -/
def hebrewDaysWrong : ChangeSpec := { name := "hebrewDays", fn := fun _ => fun
  | [d] => { results := [.lit (.bool false)], args := [d] }
  | _ => none }
def HebrewDaysWrongFalsely : Prop := hebrewDaysRow.holds Try.pinned (OpenSpec.ofChange hebrewDaysWrong)

/-- 'trystlaw06.HebrewBack': WHATEVER THE INPUT: true; the input reads as it did. -/
def hebrewBackSpec : ChangeSpec := { name := "hebrewBack", fn := fun _ => fun
  | [d1, d2] => { results := [.lit (.bool true)], args := [d1, d2] }
  | _ => none }
def hebrewBackRow : OpenClaim := { program := "ythpdnlmjnfllcaa", sum := "e350e4d7e074b94b1cba88782f77183e529371aed5389d4b7b50692131ccb5a4", func := "tryst/trystlaw06.HebrewBack", spec := "hebrewBack", apart := false }
def HebrewBackSaid : Prop := hebrewBackRow.holds Try.pinned (OpenSpec.ofChange hebrewBackSpec)

/-- ITS FALSE NEIGHBOUR: 'it returns false'. Refute it at one input. -/
def hebrewBackWrong : ChangeSpec := { name := "hebrewBack", fn := fun _ => fun
  | [d1, d2] => { results := [.lit (.bool false)], args := [d1, d2] }
  | _ => none }
def HebrewBackWrongFalsely : Prop := hebrewBackRow.holds Try.pinned (OpenSpec.ofChange hebrewBackWrong)

/-- 'trystlaw06.HebrewNext': WHATEVER THE INPUT: true; the input reads as it did. -/
def hebrewNextSpec : ChangeSpec := { name := "hebrewNext", fn := fun _ => fun
  | [d] => { results := [.lit (.bool true)], args := [d] }
  | _ => none }
def hebrewNextRow : OpenClaim := { program := "ythpdnlmjnfllcaa", sum := "e350e4d7e074b94b1cba88782f77183e529371aed5389d4b7b50692131ccb5a4", func := "tryst/trystlaw06.HebrewNext", spec := "hebrewNext", apart := false }
def HebrewNextSaid : Prop := hebrewNextRow.holds Try.pinned (OpenSpec.ofChange hebrewNextSpec)

/-- ITS FALSE NEIGHBOUR: 'it returns false'. Refute it at one input. -/
def hebrewNextWrong : ChangeSpec := { name := "hebrewNext", fn := fun _ => fun
  | [d] => { results := [.lit (.bool false)], args := [d] }
  | _ => none }
def HebrewNextWrongFalsely : Prop := hebrewNextRow.holds Try.pinned (OpenSpec.ofChange hebrewNextWrong)

/-- 'trystlaw06.HebrewYears': WHATEVER THE INPUT: true; the input reads as it did. -/
def hebrewYearsSpec : ChangeSpec := { name := "hebrewYears", fn := fun _ => fun
  | [d1, d2] => { results := [.lit (.bool true)], args := [d1, d2] }
  | _ => none }
def hebrewYearsRow : OpenClaim := { program := "ythpdnlmjnfllcaa", sum := "e350e4d7e074b94b1cba88782f77183e529371aed5389d4b7b50692131ccb5a4", func := "tryst/trystlaw06.HebrewYears", spec := "hebrewYears", apart := false }
def HebrewYearsSaid : Prop := hebrewYearsRow.holds Try.pinned (OpenSpec.ofChange hebrewYearsSpec)

/-- ITS FALSE NEIGHBOUR: 'it returns false'. Refute it at one input. -/
def hebrewYearsWrong : ChangeSpec := { name := "hebrewYears", fn := fun _ => fun
  | [d1, d2] => { results := [.lit (.bool false)], args := [d1, d2] }
  | _ => none }
def HebrewYearsWrongFalsely : Prop := hebrewYearsRow.holds Try.pinned (OpenSpec.ofChange hebrewYearsWrong)

/-- 'trystlaw06.HebrewBegins': WHATEVER THE INPUT: true; the input reads as it did. -/
def hebrewBeginsSpec : ChangeSpec := { name := "hebrewBegins", fn := fun _ => fun
  | [d] => { results := [.lit (.bool true)], args := [d] }
  | _ => none }
def hebrewBeginsRow : OpenClaim := { program := "ythpdnlmjnfllcaa", sum := "e350e4d7e074b94b1cba88782f77183e529371aed5389d4b7b50692131ccb5a4", func := "tryst/trystlaw06.HebrewBegins", spec := "hebrewBegins", apart := false }
def HebrewBeginsSaid : Prop := hebrewBeginsRow.holds Try.pinned (OpenSpec.ofChange hebrewBeginsSpec)

/-- ITS FALSE NEIGHBOUR: 'it returns false'. Refute it at one input. -/
def hebrewBeginsWrong : ChangeSpec := { name := "hebrewBegins", fn := fun _ => fun
  | [d] => { results := [.lit (.bool false)], args := [d] }
  | _ => none }
def HebrewBeginsWrongFalsely : Prop := hebrewBeginsRow.holds Try.pinned (OpenSpec.ofChange hebrewBeginsWrong)

/- THE SECOND FORM. 'bulk': how many values and letters a reading holds, each counted each time it is reached (what is shared counts as often as it is met; a slice's spare places count too). A statement '..UptoSaid' is the law's where the arguments, and the package variables that the reading takes, are together of bulk at most 1048576: NARROWER than '..Said'. Prove '..Said' where nothing that the law and all that it calls make is longer than what came in: it says more and counts as full. Else prove '..UptoSaid'. A law counts once. -/
mutual
def uptoBulk {H : Type} : DataW H → Nat
  | .lit (.string bytes) => bytes.length + 1
  | .lit _ => 1
  | .nil => 1
  | .ptr d => uptoBulk d + 1
  | .slice elems spare => uptoBulkAll elems + uptoBulkAll spare + 1
  | .agg parts => uptoBulkAll parts + 1
  | .iface _ d => uptoBulk d + 1
  | .map entries => uptoBulkEntries entries + 1
  | .held _ => 1
def uptoBulkAll {H : Type} : List (DataW H) → Nat
  | [] => 0
  | d :: r => uptoBulk d + uptoBulkAll r
def uptoBulkEntries {H : Type} : List (Lit × DataW H) → Nat
  | [] => 0
  | x :: r => uptoBulkEntry x + uptoBulkEntries r
def uptoBulkEntry {H : Type} : Lit × DataW H → Nat
  | (.string bytes, d) => bytes.length + uptoBulk d + 1
  | (_, d) => uptoBulk d + 1
 end
def uptoSmall : (H : Type) → List (DataW H) → Bool := fun _ ds => decide (uptoBulkAll ds ≤ 1048576)
def OpenSpec.upto (s : _root_.Go.ChangeSpec) : _root_.Go.OpenSpec := { _root_.Go.OpenSpec.ofChange s with cond := some uptoSmall }

/-- 'trystlaw06.HebrewDates', WHERE WHAT IT READS IS OF BULK AT MOST 1048576: true; the input reads as it did. -/
def hebrewDatesUptoRow : OpenClaim := { program := "ythpdnlmjnfllcaa", sum := "e350e4d7e074b94b1cba88782f77183e529371aed5389d4b7b50692131ccb5a4", func := "tryst/trystlaw06.HebrewDates", spec := "hebrewDates", apart := false, narrowed := true }
def HebrewDatesUptoSaid : Prop := hebrewDatesUptoRow.holds Try.pinned (OpenSpec.upto hebrewDatesSpec)

/-- 'trystlaw06.HebrewDays', WHERE WHAT IT READS IS OF BULK AT MOST 1048576: true; the input reads as it did. -/
def hebrewDaysUptoRow : OpenClaim := { program := "ythpdnlmjnfllcaa", sum := "e350e4d7e074b94b1cba88782f77183e529371aed5389d4b7b50692131ccb5a4", func := "tryst/trystlaw06.HebrewDays", spec := "hebrewDays", apart := false, narrowed := true }
def HebrewDaysUptoSaid : Prop := hebrewDaysUptoRow.holds Try.pinned (OpenSpec.upto hebrewDaysSpec)

/-- 'trystlaw06.HebrewBack', WHERE WHAT IT READS IS OF BULK AT MOST 1048576: true; the input reads as it did. -/
def hebrewBackUptoRow : OpenClaim := { program := "ythpdnlmjnfllcaa", sum := "e350e4d7e074b94b1cba88782f77183e529371aed5389d4b7b50692131ccb5a4", func := "tryst/trystlaw06.HebrewBack", spec := "hebrewBack", apart := false, narrowed := true }
def HebrewBackUptoSaid : Prop := hebrewBackUptoRow.holds Try.pinned (OpenSpec.upto hebrewBackSpec)

/-- 'trystlaw06.HebrewNext', WHERE WHAT IT READS IS OF BULK AT MOST 1048576: true; the input reads as it did. -/
def hebrewNextUptoRow : OpenClaim := { program := "ythpdnlmjnfllcaa", sum := "e350e4d7e074b94b1cba88782f77183e529371aed5389d4b7b50692131ccb5a4", func := "tryst/trystlaw06.HebrewNext", spec := "hebrewNext", apart := false, narrowed := true }
def HebrewNextUptoSaid : Prop := hebrewNextUptoRow.holds Try.pinned (OpenSpec.upto hebrewNextSpec)

/-- 'trystlaw06.HebrewYears', WHERE WHAT IT READS IS OF BULK AT MOST 1048576: true; the input reads as it did. -/
def hebrewYearsUptoRow : OpenClaim := { program := "ythpdnlmjnfllcaa", sum := "e350e4d7e074b94b1cba88782f77183e529371aed5389d4b7b50692131ccb5a4", func := "tryst/trystlaw06.HebrewYears", spec := "hebrewYears", apart := false, narrowed := true }
def HebrewYearsUptoSaid : Prop := hebrewYearsUptoRow.holds Try.pinned (OpenSpec.upto hebrewYearsSpec)

/-- 'trystlaw06.HebrewBegins', WHERE WHAT IT READS IS OF BULK AT MOST 1048576: true; the input reads as it did. -/
def hebrewBeginsUptoRow : OpenClaim := { program := "ythpdnlmjnfllcaa", sum := "e350e4d7e074b94b1cba88782f77183e529371aed5389d4b7b50692131ccb5a4", func := "tryst/trystlaw06.HebrewBegins", spec := "hebrewBegins", apart := false, narrowed := true }
def HebrewBeginsUptoSaid : Prop := hebrewBeginsUptoRow.holds Try.pinned (OpenSpec.upto hebrewBeginsSpec)

end Rows
end Go.Proofs.Ythpdnlmjnfllcaa
