/-
  No cell of these rows narrows 'for every input' (looked for: loops, veiled, ifaces, maps, wideKeys, modest, calm, conditions, laid).
  DERIVED. THE GIVEN ROWS OF THIS SEAT. 5 by the template 'for every input the law returns true; each argument reads behind the call as it read before'; 0 by the template 'total and deterministic' (their statements: YtbaokfbefklikaaTotals.lean).
  GIVEN WITH THE SEED: the statements are not yours to turn. If you find one false, say at which input.
  Laid BY PROGRAM, IN A SANDBOX (cutbox-rows.mjs): the forced cells as the released guide's own fill.sh prints them over the translation 2b68824742fe1c64… (all of the seat's roots in one cut). By AI agents, Wed Nov 11 2026. No macro, syntax, notation, axiom, sorry.
-/
import Derived.Test.YtbaokfbefklikaaChecked
import GoSem.Claim
import GoSem.ClaimJoined
import GoSem.ClaimMapViews
import Derived.JoinedTies
import Derived.KernelRfl
namespace Go.Proofs.Ytbaokfbefklikaa
/- THE CELL 'sum', in the pinned program and in every row, IS THE sha256 OF THE DUMP (.gsa) THAT YtbaokfbefklikaaProg.lean LOADS. Nothing in Lean hashes anything: it is a label: what it is worth is what the hold of that sum in a sandbox is worth. -/
noncomputable def Try.pinned : Pinned := { name := "ytbaokfbefklikaa", sum := "2b68824742fe1c6417e07e83dd8e8cca5784cebf7fb4746975b7cb6bf5d5c6a8", checked := Try.checked }
namespace Rows
def none {H : Type} : Left H := { results := [], args := [] }

/-- 'trystlaw04.IslamDates': WHATEVER THE INPUT: true; the input reads as it did. -/
def islamDatesSpec : ChangeSpec := { name := "islamDates", fn := fun _ => fun
  | [d] => { results := [.lit (.bool true)], args := [d] }
  | _ => none }
def islamDatesRow : OpenClaim := { program := "ytbaokfbefklikaa", sum := "2b68824742fe1c6417e07e83dd8e8cca5784cebf7fb4746975b7cb6bf5d5c6a8", func := "tryst/trystlaw04.IslamDates", spec := "islamDates", apart := false }
def IslamDatesSaid : Prop := islamDatesRow.holds Try.pinned (OpenSpec.ofChange islamDatesSpec)

/-- ITS FALSE NEIGHBOUR: 'it returns false'. Refute it at one input. -/
def islamDatesWrong : ChangeSpec := { name := "islamDates", fn := fun _ => fun
  | [d] => { results := [.lit (.bool false)], args := [d] }
  | _ => none }
def IslamDatesWrongFalsely : Prop := islamDatesRow.holds Try.pinned (OpenSpec.ofChange islamDatesWrong)

/-- 'trystlaw04.IslamDays': WHATEVER THE INPUT: true; the input reads as it did. -/
def islamDaysSpec : ChangeSpec := { name := "islamDays", fn := fun _ => fun
  | [d] => { results := [.lit (.bool true)], args := [d] }
  | _ => none }
def islamDaysRow : OpenClaim := { program := "ytbaokfbefklikaa", sum := "2b68824742fe1c6417e07e83dd8e8cca5784cebf7fb4746975b7cb6bf5d5c6a8", func := "tryst/trystlaw04.IslamDays", spec := "islamDays", apart := false }
def IslamDaysSaid : Prop := islamDaysRow.holds Try.pinned (OpenSpec.ofChange islamDaysSpec)

/-- ITS FALSE NEIGHBOUR: 'it returns false'. Refute it at one input. -/
def islamDaysWrong : ChangeSpec := { name := "islamDays", fn := fun _ => fun
  | [d] => { results := [.lit (.bool false)], args := [d] }
  | _ => none }
def IslamDaysWrongFalsely : Prop := islamDaysRow.holds Try.pinned (OpenSpec.ofChange islamDaysWrong)

/-- 'trystlaw04.IslamBack': WHATEVER THE INPUT: true; the input reads as it did. -/
def islamBackSpec : ChangeSpec := { name := "islamBack", fn := fun _ => fun
  | [d1, d2] => { results := [.lit (.bool true)], args := [d1, d2] }
  | _ => none }
def islamBackRow : OpenClaim := { program := "ytbaokfbefklikaa", sum := "2b68824742fe1c6417e07e83dd8e8cca5784cebf7fb4746975b7cb6bf5d5c6a8", func := "tryst/trystlaw04.IslamBack", spec := "islamBack", apart := false }
def IslamBackSaid : Prop := islamBackRow.holds Try.pinned (OpenSpec.ofChange islamBackSpec)

/-- ITS FALSE NEIGHBOUR: 'it returns false'. Refute it at one input. -/
def islamBackWrong : ChangeSpec := { name := "islamBack", fn := fun _ => fun
  | [d1, d2] => { results := [.lit (.bool false)], args := [d1, d2] }
  | _ => none }
def IslamBackWrongFalsely : Prop := islamBackRow.holds Try.pinned (OpenSpec.ofChange islamBackWrong)

/-- 'trystlaw04.IslamNext': WHATEVER THE INPUT: true; the input reads as it did. -/
def islamNextSpec : ChangeSpec := { name := "islamNext", fn := fun _ => fun
  | [d] => { results := [.lit (.bool true)], args := [d] }
  | _ => none }
def islamNextRow : OpenClaim := { program := "ytbaokfbefklikaa", sum := "2b68824742fe1c6417e07e83dd8e8cca5784cebf7fb4746975b7cb6bf5d5c6a8", func := "tryst/trystlaw04.IslamNext", spec := "islamNext", apart := false }
def IslamNextSaid : Prop := islamNextRow.holds Try.pinned (OpenSpec.ofChange islamNextSpec)

/-- ITS FALSE NEIGHBOUR: 'it returns false'. Refute it at one input. -/
def islamNextWrong : ChangeSpec := { name := "islamNext", fn := fun _ => fun
  | [d] => { results := [.lit (.bool false)], args := [d] }
  | _ => none }
def IslamNextWrongFalsely : Prop := islamNextRow.holds Try.pinned (OpenSpec.ofChange islamNextWrong)

/-- 'trystlaw04.IslamLeaps': WHATEVER THE INPUT: true; the input reads as it did. -/
def islamLeapsSpec : ChangeSpec := { name := "islamLeaps", fn := fun _ => fun
  | [d] => { results := [.lit (.bool true)], args := [d] }
  | _ => none }
def islamLeapsRow : OpenClaim := { program := "ytbaokfbefklikaa", sum := "2b68824742fe1c6417e07e83dd8e8cca5784cebf7fb4746975b7cb6bf5d5c6a8", func := "tryst/trystlaw04.IslamLeaps", spec := "islamLeaps", apart := false }
def IslamLeapsSaid : Prop := islamLeapsRow.holds Try.pinned (OpenSpec.ofChange islamLeapsSpec)

/-- ITS FALSE NEIGHBOUR: 'it returns false'. Refute it at one input. -/
def islamLeapsWrong : ChangeSpec := { name := "islamLeaps", fn := fun _ => fun
  | [d] => { results := [.lit (.bool false)], args := [d] }
  | _ => none }
def IslamLeapsWrongFalsely : Prop := islamLeapsRow.holds Try.pinned (OpenSpec.ofChange islamLeapsWrong)

/- THE SECOND FORM. 'bulk': how many values and letters a reading holds, each counted each time it is reached (what is shared counts as often as it is met; a slice's spare places count too). A statement '..UptoSaid' is the law's where the arguments, and the package variables that the reading takes, are together of bulk at most 1048576: NARROWER than '..Said'. Prove '..Said' where nothing that the law and all that it calls make is longer than what came in: it says more and counts as full. Else prove '..UptoSaid'. A law counts once. -/
mutual
def uptoBulk {H : Type} : DataW H → Nat
  | .lit (.string bytes) => bytes.length + 1
  | .lit _ => 1
  | .nil => 1
  | .ptr d => uptoBulk d + 1
  | .slice elems spare => uptoBulkAll elems + uptoBulkAll spare + 1
  | .agg parts => uptoBulkAll parts + 1
  | .iface _ d => uptoBulk d + 1
  | .map entries => uptoBulkEntries entries + 1
  | .held _ => 1
def uptoBulkAll {H : Type} : List (DataW H) → Nat
  | [] => 0
  | d :: r => uptoBulk d + uptoBulkAll r
def uptoBulkEntries {H : Type} : List (Lit × DataW H) → Nat
  | [] => 0
  | x :: r => uptoBulkEntry x + uptoBulkEntries r
def uptoBulkEntry {H : Type} : Lit × DataW H → Nat
  | (.string bytes, d) => bytes.length + uptoBulk d + 1
  | (_, d) => uptoBulk d + 1
 end
def uptoSmall : (H : Type) → List (DataW H) → Bool := fun _ ds => decide (uptoBulkAll ds ≤ 1048576)
def OpenSpec.upto (s : _root_.Go.ChangeSpec) : _root_.Go.OpenSpec := { _root_.Go.OpenSpec.ofChange s with cond := some uptoSmall }

/-- 'trystlaw04.IslamDates', WHERE WHAT IT READS IS OF BULK AT MOST 1048576: true; the input reads as it did. -/
def islamDatesUptoRow : OpenClaim := { program := "ytbaokfbefklikaa", sum := "2b68824742fe1c6417e07e83dd8e8cca5784cebf7fb4746975b7cb6bf5d5c6a8", func := "tryst/trystlaw04.IslamDates", spec := "islamDates", apart := false, narrowed := true }
def IslamDatesUptoSaid : Prop := islamDatesUptoRow.holds Try.pinned (OpenSpec.upto islamDatesSpec)

/-- 'trystlaw04.IslamDays', WHERE WHAT IT READS IS OF BULK AT MOST 1048576: true; the input reads as it did. -/
def islamDaysUptoRow : OpenClaim := { program := "ytbaokfbefklikaa", sum := "2b68824742fe1c6417e07e83dd8e8cca5784cebf7fb4746975b7cb6bf5d5c6a8", func := "tryst/trystlaw04.IslamDays", spec := "islamDays", apart := false, narrowed := true }
def IslamDaysUptoSaid : Prop := islamDaysUptoRow.holds Try.pinned (OpenSpec.upto islamDaysSpec)

/-- 'trystlaw04.IslamBack', WHERE WHAT IT READS IS OF BULK AT MOST 1048576: true; the input reads as it did. -/
def islamBackUptoRow : OpenClaim := { program := "ytbaokfbefklikaa", sum := "2b68824742fe1c6417e07e83dd8e8cca5784cebf7fb4746975b7cb6bf5d5c6a8", func := "tryst/trystlaw04.IslamBack", spec := "islamBack", apart := false, narrowed := true }
def IslamBackUptoSaid : Prop := islamBackUptoRow.holds Try.pinned (OpenSpec.upto islamBackSpec)

/-- 'trystlaw04.IslamNext', WHERE WHAT IT READS IS OF BULK AT MOST 1048576: true; the input reads as it did. -/
def islamNextUptoRow : OpenClaim := { program := "ytbaokfbefklikaa", sum := "2b68824742fe1c6417e07e83dd8e8cca5784cebf7fb4746975b7cb6bf5d5c6a8", func := "tryst/trystlaw04.IslamNext", spec := "islamNext", apart := false, narrowed := true }
def IslamNextUptoSaid : Prop := islamNextUptoRow.holds Try.pinned (OpenSpec.upto islamNextSpec)

/-- 'trystlaw04.IslamLeaps', WHERE WHAT IT READS IS OF BULK AT MOST 1048576: true; the input reads as it did. -/
def islamLeapsUptoRow : OpenClaim := { program := "ytbaokfbefklikaa", sum := "2b68824742fe1c6417e07e83dd8e8cca5784cebf7fb4746975b7cb6bf5d5c6a8", func := "tryst/trystlaw04.IslamLeaps", spec := "islamLeaps", apart := false, narrowed := true }
def IslamLeapsUptoSaid : Prop := islamLeapsUptoRow.holds Try.pinned (OpenSpec.upto islamLeapsSpec)

end Rows
end Go.Proofs.Ytbaokfbefklikaa
