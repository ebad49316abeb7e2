/-
  No cell of these rows narrows 'for every input' (looked for: loops, veiled, ifaces, maps, wideKeys, modest, calm, conditions, laid).
  DERIVED. THE GIVEN ROWS OF THIS SEAT. 5 by the template 'for every input the law returns true; each argument reads behind the call as it read before'; 0 by the template 'total and deterministic' (their statements: YtjngioanpphdkaaTotals.lean).
  GIVEN WITH THE SEED: the statements are not yours to turn. If you find one false, say at which input.
  Laid BY PROGRAM, IN A SANDBOX (cutbox-rows.mjs): the forced cells as the released guide's own fill.sh prints them over the translation 369a0bbe11ad72e9… (all of the seat's roots in one cut). By AI agents, Wed Nov 11 2026. No macro, syntax, notation, axiom, sorry.
-/
import Derived.Test.YtjngioanpphdkaaChecked
import GoSem.Claim
import GoSem.ClaimJoined
import GoSem.ClaimMapViews
import Derived.JoinedTies
import Derived.KernelRfl
namespace Go.Proofs.Ytjngioanpphdkaa
/- THE CELL 'sum', in the pinned program and in every row, IS THE sha256 OF THE DUMP (.gsa) THAT YtjngioanpphdkaaProg.lean LOADS. Nothing in Lean hashes anything: it is a label: what it is worth is what the hold of that sum in a sandbox is worth. -/
noncomputable def Try.pinned : Pinned := { name := "ytjngioanpphdkaa", sum := "369a0bbe11ad72e91c624a2be344a46a12df9a9477287457f452b243b0c532f9", checked := Try.checked }
namespace Rows
def none {H : Type} : Left H := { results := [], args := [] }

/-- 'trystlaw05.PersianDates': WHATEVER THE INPUT: true; the input reads as it did. -/
def persianDatesSpec : ChangeSpec := { name := "persianDates", fn := fun _ => fun
  | [d] => { results := [.lit (.bool true)], args := [d] }
  | _ => none }
def persianDatesRow : OpenClaim := { program := "ytjngioanpphdkaa", sum := "369a0bbe11ad72e91c624a2be344a46a12df9a9477287457f452b243b0c532f9", func := "tryst/trystlaw05.PersianDates", spec := "persianDates", apart := false }
def PersianDatesSaid : Prop := persianDatesRow.holds Try.pinned (OpenSpec.ofChange persianDatesSpec)

/-- ITS FALSE NEIGHBOUR: 'it returns false'. Refute it at one input. -/
def persianDatesWrong : ChangeSpec := { name := "persianDates", fn := fun _ => fun
  | [d] => { results := [.lit (.bool false)], args := [d] }
  | _ => none }
def PersianDatesWrongFalsely : Prop := persianDatesRow.holds Try.pinned (OpenSpec.ofChange persianDatesWrong)

/-- 'trystlaw05.PersianDays': WHATEVER THE INPUT: true; the input reads as it did. -/
def persianDaysSpec : ChangeSpec := { name := "persianDays", fn := fun _ => fun
  | [d] => { results := [.lit (.bool true)], args := [d] }
  | _ => none }
def persianDaysRow : OpenClaim := { program := "ytjngioanpphdkaa", sum := "369a0bbe11ad72e91c624a2be344a46a12df9a9477287457f452b243b0c532f9", func := "tryst/trystlaw05.PersianDays", spec := "persianDays", apart := false }
def PersianDaysSaid : Prop := persianDaysRow.holds Try.pinned (OpenSpec.ofChange persianDaysSpec)

/-- ITS FALSE NEIGHBOUR: 'it returns false'. Refute it at one input. -/
def persianDaysWrong : ChangeSpec := { name := "persianDays", fn := fun _ => fun
  | [d] => { results := [.lit (.bool false)], args := [d] }
  | _ => none }
def PersianDaysWrongFalsely : Prop := persianDaysRow.holds Try.pinned (OpenSpec.ofChange persianDaysWrong)

/-- 'trystlaw05.PersianBack': WHATEVER THE INPUT: true; the input reads as it did. -/
def persianBackSpec : ChangeSpec := { name := "persianBack", fn := fun _ => fun
  | [d1, d2] => { results := [.lit (.bool true)], args := [d1, d2] }
  | _ => none }
def persianBackRow : OpenClaim := { program := "ytjngioanpphdkaa", sum := "369a0bbe11ad72e91c624a2be344a46a12df9a9477287457f452b243b0c532f9", func := "tryst/trystlaw05.PersianBack", spec := "persianBack", apart := false }
def PersianBackSaid : Prop := persianBackRow.holds Try.pinned (OpenSpec.ofChange persianBackSpec)

/-- ITS FALSE NEIGHBOUR: 'it returns false'. Refute it at one input. -/
def persianBackWrong : ChangeSpec := { name := "persianBack", fn := fun _ => fun
  | [d1, d2] => { results := [.lit (.bool false)], args := [d1, d2] }
  | _ => none }
def PersianBackWrongFalsely : Prop := persianBackRow.holds Try.pinned (OpenSpec.ofChange persianBackWrong)

/-- 'trystlaw05.PersianNext': WHATEVER THE INPUT: true; the input reads as it did. -/
def persianNextSpec : ChangeSpec := { name := "persianNext", fn := fun _ => fun
  | [d] => { results := [.lit (.bool true)], args := [d] }
  | _ => none }
def persianNextRow : OpenClaim := { program := "ytjngioanpphdkaa", sum := "369a0bbe11ad72e91c624a2be344a46a12df9a9477287457f452b243b0c532f9", func := "tryst/trystlaw05.PersianNext", spec := "persianNext", apart := false }
def PersianNextSaid : Prop := persianNextRow.holds Try.pinned (OpenSpec.ofChange persianNextSpec)

/-- ITS FALSE NEIGHBOUR: 'it returns false'. Refute it at one input. -/
def persianNextWrong : ChangeSpec := { name := "persianNext", fn := fun _ => fun
  | [d] => { results := [.lit (.bool false)], args := [d] }
  | _ => none }
def PersianNextWrongFalsely : Prop := persianNextRow.holds Try.pinned (OpenSpec.ofChange persianNextWrong)

/-- 'trystlaw05.PersianLeaps': WHATEVER THE INPUT: true; the input reads as it did. -/
def persianLeapsSpec : ChangeSpec := { name := "persianLeaps", fn := fun _ => fun
  | [d] => { results := [.lit (.bool true)], args := [d] }
  | _ => none }
def persianLeapsRow : OpenClaim := { program := "ytjngioanpphdkaa", sum := "369a0bbe11ad72e91c624a2be344a46a12df9a9477287457f452b243b0c532f9", func := "tryst/trystlaw05.PersianLeaps", spec := "persianLeaps", apart := false }
def PersianLeapsSaid : Prop := persianLeapsRow.holds Try.pinned (OpenSpec.ofChange persianLeapsSpec)

/-- ITS FALSE NEIGHBOUR: 'it returns false'. Refute it at one input. -/
def persianLeapsWrong : ChangeSpec := { name := "persianLeaps", fn := fun _ => fun
  | [d] => { results := [.lit (.bool false)], args := [d] }
  | _ => none }
def PersianLeapsWrongFalsely : Prop := persianLeapsRow.holds Try.pinned (OpenSpec.ofChange persianLeapsWrong)

/- THE SECOND FORM. 'bulk': how many values and letters a reading holds, each counted each time it is reached (what is shared counts as often as it is met; a slice's spare places count too). A statement '..UptoSaid' is the law's where the arguments, and the package variables that the reading takes, are together of bulk at most 1048576: NARROWER than '..Said'. Prove '..Said' where nothing that the law and all that it calls make is longer than what came in: it says more and counts as full. Else prove '..UptoSaid'. A law counts once. -/
mutual
def uptoBulk {H : Type} : DataW H → Nat
  | .lit (.string bytes) => bytes.length + 1
  | .lit _ => 1
  | .nil => 1
  | .ptr d => uptoBulk d + 1
  | .slice elems spare => uptoBulkAll elems + uptoBulkAll spare + 1
  | .agg parts => uptoBulkAll parts + 1
  | .iface _ d => uptoBulk d + 1
  | .map entries => uptoBulkEntries entries + 1
  | .held _ => 1
def uptoBulkAll {H : Type} : List (DataW H) → Nat
  | [] => 0
  | d :: r => uptoBulk d + uptoBulkAll r
def uptoBulkEntries {H : Type} : List (Lit × DataW H) → Nat
  | [] => 0
  | x :: r => uptoBulkEntry x + uptoBulkEntries r
def uptoBulkEntry {H : Type} : Lit × DataW H → Nat
  | (.string bytes, d) => bytes.length + uptoBulk d + 1
  | (_, d) => uptoBulk d + 1
 end
def uptoSmall : (H : Type) → List (DataW H) → Bool := fun _ ds => decide (uptoBulkAll ds ≤ 1048576)
def OpenSpec.upto (s : _root_.Go.ChangeSpec) : _root_.Go.OpenSpec := { _root_.Go.OpenSpec.ofChange s with cond := some uptoSmall }

/-- 'trystlaw05.PersianDates', WHERE WHAT IT READS IS OF BULK AT MOST 1048576: true; the input reads as it did. -/
def persianDatesUptoRow : OpenClaim := { program := "ytjngioanpphdkaa", sum := "369a0bbe11ad72e91c624a2be344a46a12df9a9477287457f452b243b0c532f9", func := "tryst/trystlaw05.PersianDates", spec := "persianDates", apart := false, narrowed := true }
def PersianDatesUptoSaid : Prop := persianDatesUptoRow.holds Try.pinned (OpenSpec.upto persianDatesSpec)

/-- 'trystlaw05.PersianDays', WHERE WHAT IT READS IS OF BULK AT MOST 1048576: true; the input reads as it did. -/
def persianDaysUptoRow : OpenClaim := { program := "ytjngioanpphdkaa", sum := "369a0bbe11ad72e91c624a2be344a46a12df9a9477287457f452b243b0c532f9", func := "tryst/trystlaw05.PersianDays", spec := "persianDays", apart := false, narrowed := true }
def PersianDaysUptoSaid : Prop := persianDaysUptoRow.holds Try.pinned (OpenSpec.upto persianDaysSpec)

/-- 'trystlaw05.PersianBack', WHERE WHAT IT READS IS OF BULK AT MOST 1048576: true; the input reads as it did. -/
def persianBackUptoRow : OpenClaim := { program := "ytjngioanpphdkaa", sum := "369a0bbe11ad72e91c624a2be344a46a12df9a9477287457f452b243b0c532f9", func := "tryst/trystlaw05.PersianBack", spec := "persianBack", apart := false, narrowed := true }
def PersianBackUptoSaid : Prop := persianBackUptoRow.holds Try.pinned (OpenSpec.upto persianBackSpec)

/-- 'trystlaw05.PersianNext', WHERE WHAT IT READS IS OF BULK AT MOST 1048576: true; the input reads as it did. -/
def persianNextUptoRow : OpenClaim := { program := "ytjngioanpphdkaa", sum := "369a0bbe11ad72e91c624a2be344a46a12df9a9477287457f452b243b0c532f9", func := "tryst/trystlaw05.PersianNext", spec := "persianNext", apart := false, narrowed := true }
def PersianNextUptoSaid : Prop := persianNextUptoRow.holds Try.pinned (OpenSpec.upto persianNextSpec)

/-- 'trystlaw05.PersianLeaps', WHERE WHAT IT READS IS OF BULK AT MOST 1048576: true; the input reads as it did. -/
def persianLeapsUptoRow : OpenClaim := { program := "ytjngioanpphdkaa", sum := "369a0bbe11ad72e91c624a2be344a46a12df9a9477287457f452b243b0c532f9", func := "tryst/trystlaw05.PersianLeaps", spec := "persianLeaps", apart := false, narrowed := true }
def PersianLeapsUptoSaid : Prop := persianLeapsUptoRow.holds Try.pinned (OpenSpec.upto persianLeapsSpec)

end Rows
end Go.Proofs.Ytjngioanpphdkaa
