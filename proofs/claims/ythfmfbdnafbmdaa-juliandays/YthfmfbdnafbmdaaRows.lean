/-
  No cell of these rows narrows 'for every input' (looked for: loops, veiled, ifaces, maps, wideKeys, modest, calm, conditions, laid).
  DERIVED. THE GIVEN ROWS OF THIS SEAT. 8 by the template 'for every input the law returns true; each argument reads behind the call as it read before'; 0 by the template 'total and deterministic' (their statements: YthfmfbdnafbmdaaTotals.lean).
  GIVEN WITH THE SEED: the statements are not yours to turn. If you find one false, say at which input.
  Laid BY PROGRAM, IN A SANDBOX (cutbox-rows.mjs): the forced cells as the released guide's own fill.sh prints them over the translation 7ef46e23ab73a04b… (all of the seat's roots in one cut). By AI agents, Wed Nov 11 2026. No macro, syntax, notation, axiom, sorry.
-/
import Derived.Test.YthfmfbdnafbmdaaChecked
import GoSem.Claim
import GoSem.ClaimJoined
import GoSem.ClaimMapViews
import Derived.JoinedTies
import Derived.KernelRfl
namespace Go.Proofs.Ythfmfbdnafbmdaa
/- THE CELL 'sum', in the pinned program and in every row, IS THE sha256 OF THE DUMP (.gsa) THAT YthfmfbdnafbmdaaProg.lean LOADS. Nothing in Lean hashes anything: it is a label: what it is worth is what the hold of that sum in a sandbox is worth. -/
noncomputable def Try.pinned : Pinned := { name := "ythfmfbdnafbmdaa", sum := "7ef46e23ab73a04bedf81e0aa4cb757bf2f2018bcc79b5f14487d642caaa92a0", checked := Try.checked }
namespace Rows
def none {H : Type} : Left H := { results := [], args := [] }

/-- 'trystlaw02.JulianDates': WHATEVER THE INPUT: true; the input reads as it did. -/
def julianDatesSpec : ChangeSpec := { name := "julianDates", fn := fun _ => fun
  | [d] => { results := [.lit (.bool true)], args := [d] }
  | _ => none }
def julianDatesRow : OpenClaim := { program := "ythfmfbdnafbmdaa", sum := "7ef46e23ab73a04bedf81e0aa4cb757bf2f2018bcc79b5f14487d642caaa92a0", func := "tryst/trystlaw02.JulianDates", spec := "julianDates", apart := false }
def JulianDatesSaid : Prop := julianDatesRow.holds Try.pinned (OpenSpec.ofChange julianDatesSpec)

/-- ITS FALSE NEIGHBOUR: 'it returns false'. Refute it at one input. -/
def julianDatesWrong : ChangeSpec := { name := "julianDates", fn := fun _ => fun
  | [d] => { results := [.lit (.bool false)], args := [d] }
  | _ => none }
def JulianDatesWrongFalsely : Prop := julianDatesRow.holds Try.pinned (OpenSpec.ofChange julianDatesWrong)

/-- 'trystlaw02.JulianDays': WHATEVER THE INPUT: true; the input reads as it did. -/
def julianDaysSpec : ChangeSpec := { name := "julianDays", fn := fun _ => fun
  | [d] => { results := [.lit (.bool true)], args := [d] }
  | _ => none }
def julianDaysRow : OpenClaim := { program := "ythfmfbdnafbmdaa", sum := "7ef46e23ab73a04bedf81e0aa4cb757bf2f2018bcc79b5f14487d642caaa92a0", func := "tryst/trystlaw02.JulianDays", spec := "julianDays", apart := false }
def JulianDaysSaid : Prop := julianDaysRow.holds Try.pinned (OpenSpec.ofChange julianDaysSpec)

/-- ITS FALSE NEIGHBOUR: 'it returns false'. Refute it at one input. -/
def julianDaysWrong : ChangeSpec := { name := "julianDays", fn := fun _ => fun
  | [d] => { results := [.lit (.bool false)], args := [d] }
  | _ => none }
def JulianDaysWrongFalsely : Prop := julianDaysRow.holds Try.pinned (OpenSpec.ofChange julianDaysWrong)

/-- 'trystlaw02.JulianBack': WHATEVER THE INPUT: true; the input reads as it did. -/
def julianBackSpec : ChangeSpec := { name := "julianBack", fn := fun _ => fun
  | [d1, d2] => { results := [.lit (.bool true)], args := [d1, d2] }
  | _ => none }
def julianBackRow : OpenClaim := { program := "ythfmfbdnafbmdaa", sum := "7ef46e23ab73a04bedf81e0aa4cb757bf2f2018bcc79b5f14487d642caaa92a0", func := "tryst/trystlaw02.JulianBack", spec := "julianBack", apart := false }
def JulianBackSaid : Prop := julianBackRow.holds Try.pinned (OpenSpec.ofChange julianBackSpec)

/-- ITS FALSE NEIGHBOUR: 'it returns false'. Refute it at one input. -/
def julianBackWrong : ChangeSpec := { name := "julianBack", fn := fun _ => fun
  | [d1, d2] => { results := [.lit (.bool false)], args := [d1, d2] }
  | _ => none }
def JulianBackWrongFalsely : Prop := julianBackRow.holds Try.pinned (OpenSpec.ofChange julianBackWrong)

/-- 'trystlaw02.JulianNext': WHATEVER THE INPUT: true; the input reads as it did. -/
def julianNextSpec : ChangeSpec := { name := "julianNext", fn := fun _ => fun
  | [d] => { results := [.lit (.bool true)], args := [d] }
  | _ => none }
def julianNextRow : OpenClaim := { program := "ythfmfbdnafbmdaa", sum := "7ef46e23ab73a04bedf81e0aa4cb757bf2f2018bcc79b5f14487d642caaa92a0", func := "tryst/trystlaw02.JulianNext", spec := "julianNext", apart := false }
def JulianNextSaid : Prop := julianNextRow.holds Try.pinned (OpenSpec.ofChange julianNextSpec)

/-- ITS FALSE NEIGHBOUR: 'it returns false'. Refute it at one input. -/
def julianNextWrong : ChangeSpec := { name := "julianNext", fn := fun _ => fun
  | [d] => { results := [.lit (.bool false)], args := [d] }
  | _ => none }
def JulianNextWrongFalsely : Prop := julianNextRow.holds Try.pinned (OpenSpec.ofChange julianNextWrong)

/-- 'trystlaw02.CopticDates': WHATEVER THE INPUT: true; the input reads as it did. -/
def copticDatesSpec : ChangeSpec := { name := "copticDates", fn := fun _ => fun
  | [d] => { results := [.lit (.bool true)], args := [d] }
  | _ => none }
def copticDatesRow : OpenClaim := { program := "ythfmfbdnafbmdaa", sum := "7ef46e23ab73a04bedf81e0aa4cb757bf2f2018bcc79b5f14487d642caaa92a0", func := "tryst/trystlaw02.CopticDates", spec := "copticDates", apart := false }
def CopticDatesSaid : Prop := copticDatesRow.holds Try.pinned (OpenSpec.ofChange copticDatesSpec)

/-- ITS FALSE NEIGHBOUR: 'it returns false'. Refute it at one input. -/
def copticDatesWrong : ChangeSpec := { name := "copticDates", fn := fun _ => fun
  | [d] => { results := [.lit (.bool false)], args := [d] }
  | _ => none }
def CopticDatesWrongFalsely : Prop := copticDatesRow.holds Try.pinned (OpenSpec.ofChange copticDatesWrong)

/-- 'trystlaw02.CopticDays': WHATEVER THE INPUT: true; the input reads as it did. -/
def copticDaysSpec : ChangeSpec := { name := "copticDays", fn := fun _ => fun
  | [d] => { results := [.lit (.bool true)], args := [d] }
  | _ => none }
def copticDaysRow : OpenClaim := { program := "ythfmfbdnafbmdaa", sum := "7ef46e23ab73a04bedf81e0aa4cb757bf2f2018bcc79b5f14487d642caaa92a0", func := "tryst/trystlaw02.CopticDays", spec := "copticDays", apart := false }
def CopticDaysSaid : Prop := copticDaysRow.holds Try.pinned (OpenSpec.ofChange copticDaysSpec)

/-- ITS FALSE NEIGHBOUR: 'it returns false'. Refute it at one input. -/
def copticDaysWrong : ChangeSpec := { name := "copticDays", fn := fun _ => fun
  | [d] => { results := [.lit (.bool false)], args := [d] }
  | _ => none }
def CopticDaysWrongFalsely : Prop := copticDaysRow.holds Try.pinned (OpenSpec.ofChange copticDaysWrong)

/-- 'trystlaw02.CopticBack': WHATEVER THE INPUT: true; the input reads as it did. -/
def copticBackSpec : ChangeSpec := { name := "copticBack", fn := fun _ => fun
  | [d1, d2] => { results := [.lit (.bool true)], args := [d1, d2] }
  | _ => none }
def copticBackRow : OpenClaim := { program := "ythfmfbdnafbmdaa", sum := "7ef46e23ab73a04bedf81e0aa4cb757bf2f2018bcc79b5f14487d642caaa92a0", func := "tryst/trystlaw02.CopticBack", spec := "copticBack", apart := false }
def CopticBackSaid : Prop := copticBackRow.holds Try.pinned (OpenSpec.ofChange copticBackSpec)

/-- ITS FALSE NEIGHBOUR: 'it returns false'. Refute it at one input. -/
def copticBackWrong : ChangeSpec := { name := "copticBack", fn := fun _ => fun
  | [d1, d2] => { results := [.lit (.bool false)], args := [d1, d2] }
  | _ => none }
def CopticBackWrongFalsely : Prop := copticBackRow.holds Try.pinned (OpenSpec.ofChange copticBackWrong)

/-- 'trystlaw02.CopticNext': WHATEVER THE INPUT: true; the input reads as it did. -/
def copticNextSpec : ChangeSpec := { name := "copticNext", fn := fun _ => fun
  | [d] => { results := [.lit (.bool true)], args := [d] }
  | _ => none }
def copticNextRow : OpenClaim := { program := "ythfmfbdnafbmdaa", sum := "7ef46e23ab73a04bedf81e0aa4cb757bf2f2018bcc79b5f14487d642caaa92a0", func := "tryst/trystlaw02.CopticNext", spec := "copticNext", apart := false }
def CopticNextSaid : Prop := copticNextRow.holds Try.pinned (OpenSpec.ofChange copticNextSpec)

/-- ITS FALSE NEIGHBOUR: 'it returns false'. Refute it at one input. -/
def copticNextWrong : ChangeSpec := { name := "copticNext", fn := fun _ => fun
  | [d] => { results := [.lit (.bool false)], args := [d] }
  | _ => none }
def CopticNextWrongFalsely : Prop := copticNextRow.holds Try.pinned (OpenSpec.ofChange copticNextWrong)

/- THE SECOND FORM. 'bulk': how many values and letters a reading holds, each counted each time it is reached (what is shared counts as often as it is met; a slice's spare places count too). A statement '..UptoSaid' is the law's where the arguments, and the package variables that the reading takes, are together of bulk at most 1048576: NARROWER than '..Said'. Prove '..Said' where nothing that the law and all that it calls make is longer than what came in: it says more and counts as full. Else prove '..UptoSaid'. A law counts once. -/
mutual
def uptoBulk {H : Type} : DataW H → Nat
  | .lit (.string bytes) => bytes.length + 1
  | .lit _ => 1
  | .nil => 1
  | .ptr d => uptoBulk d + 1
  | .slice elems spare => uptoBulkAll elems + uptoBulkAll spare + 1
  | .agg parts => uptoBulkAll parts + 1
  | .iface _ d => uptoBulk d + 1
  | .map entries => uptoBulkEntries entries + 1
  | .held _ => 1
def uptoBulkAll {H : Type} : List (DataW H) → Nat
  | [] => 0
  | d :: r => uptoBulk d + uptoBulkAll r
def uptoBulkEntries {H : Type} : List (Lit × DataW H) → Nat
  | [] => 0
  | x :: r => uptoBulkEntry x + uptoBulkEntries r
def uptoBulkEntry {H : Type} : Lit × DataW H → Nat
  | (.string bytes, d) => bytes.length + uptoBulk d + 1
  | (_, d) => uptoBulk d + 1
 end
def uptoSmall : (H : Type) → List (DataW H) → Bool := fun _ ds => decide (uptoBulkAll ds ≤ 1048576)
def OpenSpec.upto (s : _root_.Go.ChangeSpec) : _root_.Go.OpenSpec := { _root_.Go.OpenSpec.ofChange s with cond := some uptoSmall }

/-- 'trystlaw02.JulianDates', WHERE WHAT IT READS IS OF BULK AT MOST 1048576: true; the input reads as it did. -/
def julianDatesUptoRow : OpenClaim := { program := "ythfmfbdnafbmdaa", sum := "7ef46e23ab73a04bedf81e0aa4cb757bf2f2018bcc79b5f14487d642caaa92a0", func := "tryst/trystlaw02.JulianDates", spec := "julianDates", apart := false, narrowed := true }
def JulianDatesUptoSaid : Prop := julianDatesUptoRow.holds Try.pinned (OpenSpec.upto julianDatesSpec)

/-- 'trystlaw02.JulianDays', WHERE WHAT IT READS IS OF BULK AT MOST 1048576: true; the input reads as it did. -/
def julianDaysUptoRow : OpenClaim := { program := "ythfmfbdnafbmdaa", sum := "7ef46e23ab73a04bedf81e0aa4cb757bf2f2018bcc79b5f14487d642caaa92a0", func := "tryst/trystlaw02.JulianDays", spec := "julianDays", apart := false, narrowed := true }
def JulianDaysUptoSaid : Prop := julianDaysUptoRow.holds Try.pinned (OpenSpec.upto julianDaysSpec)

/-- 'trystlaw02.JulianBack', WHERE WHAT IT READS IS OF BULK AT MOST 1048576: true; the input reads as it did. -/
def julianBackUptoRow : OpenClaim := { program := "ythfmfbdnafbmdaa", sum := "7ef46e23ab73a04bedf81e0aa4cb757bf2f2018bcc79b5f14487d642caaa92a0", func := "tryst/trystlaw02.JulianBack", spec := "julianBack", apart := false, narrowed := true }
def JulianBackUptoSaid : Prop := julianBackUptoRow.holds Try.pinned (OpenSpec.upto julianBackSpec)

/-- 'trystlaw02.JulianNext', WHERE WHAT IT READS IS OF BULK AT MOST 1048576: true; the input reads as it did. -/
def julianNextUptoRow : OpenClaim := { program := "ythfmfbdnafbmdaa", sum := "7ef46e23ab73a04bedf81e0aa4cb757bf2f2018bcc79b5f14487d642caaa92a0", func := "tryst/trystlaw02.JulianNext", spec := "julianNext", apart := false, narrowed := true }
def JulianNextUptoSaid : Prop := julianNextUptoRow.holds Try.pinned (OpenSpec.upto julianNextSpec)

/-- 'trystlaw02.CopticDates', WHERE WHAT IT READS IS OF BULK AT MOST 1048576: true; the input reads as it did. -/
def copticDatesUptoRow : OpenClaim := { program := "ythfmfbdnafbmdaa", sum := "7ef46e23ab73a04bedf81e0aa4cb757bf2f2018bcc79b5f14487d642caaa92a0", func := "tryst/trystlaw02.CopticDates", spec := "copticDates", apart := false, narrowed := true }
def CopticDatesUptoSaid : Prop := copticDatesUptoRow.holds Try.pinned (OpenSpec.upto copticDatesSpec)

/-- 'trystlaw02.CopticDays', WHERE WHAT IT READS IS OF BULK AT MOST 1048576: true; the input reads as it did. -/
def copticDaysUptoRow : OpenClaim := { program := "ythfmfbdnafbmdaa", sum := "7ef46e23ab73a04bedf81e0aa4cb757bf2f2018bcc79b5f14487d642caaa92a0", func := "tryst/trystlaw02.CopticDays", spec := "copticDays", apart := false, narrowed := true }
def CopticDaysUptoSaid : Prop := copticDaysUptoRow.holds Try.pinned (OpenSpec.upto copticDaysSpec)

/-- 'trystlaw02.CopticBack', WHERE WHAT IT READS IS OF BULK AT MOST 1048576: true; the input reads as it did. -/
def copticBackUptoRow : OpenClaim := { program := "ythfmfbdnafbmdaa", sum := "7ef46e23ab73a04bedf81e0aa4cb757bf2f2018bcc79b5f14487d642caaa92a0", func := "tryst/trystlaw02.CopticBack", spec := "copticBack", apart := false, narrowed := true }
def CopticBackUptoSaid : Prop := copticBackUptoRow.holds Try.pinned (OpenSpec.upto copticBackSpec)

/-- 'trystlaw02.CopticNext', WHERE WHAT IT READS IS OF BULK AT MOST 1048576: true; the input reads as it did. -/
def copticNextUptoRow : OpenClaim := { program := "ythfmfbdnafbmdaa", sum := "7ef46e23ab73a04bedf81e0aa4cb757bf2f2018bcc79b5f14487d642caaa92a0", func := "tryst/trystlaw02.CopticNext", spec := "copticNext", apart := false, narrowed := true }
def CopticNextUptoSaid : Prop := copticNextUptoRow.holds Try.pinned (OpenSpec.upto copticNextSpec)

end Rows
end Go.Proofs.Ythfmfbdnafbmdaa
