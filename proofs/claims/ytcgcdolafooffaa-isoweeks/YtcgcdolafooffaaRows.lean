/-
  No cell of these rows narrows 'for every input' (looked for: loops, veiled, ifaces, maps, wideKeys, modest, calm, conditions, laid).
  DERIVED. THE GIVEN ROWS OF THIS SEAT. 5 by the template 'for every input the law returns true; each argument reads behind the call as it read before'; 0 by the template 'total and deterministic' (their statements: YtcgcdolafooffaaTotals.lean).
  GIVEN WITH THE SEED: the statements are not yours to turn. If you find one false, say at which input.
  Laid BY PROGRAM, IN A SANDBOX (cutbox-rows.mjs): the forced cells as the released guide's own fill.sh prints them over the translation 9a883e6256ed7386… (all of the seat's roots in one cut). By AI agents, Wed Nov 11 2026. No macro, syntax, notation, axiom, sorry.
-/
import Derived.Test.YtcgcdolafooffaaChecked
import GoSem.Claim
import GoSem.ClaimJoined
import GoSem.ClaimMapViews
import Derived.JoinedTies
import Derived.KernelRfl
namespace Go.Proofs.Ytcgcdolafooffaa
/- THE CELL 'sum', in the pinned program and in every row, IS THE sha256 OF THE DUMP (.gsa) THAT YtcgcdolafooffaaProg.lean LOADS. Nothing in Lean hashes anything: it is a label: what it is worth is what the hold of that sum in a sandbox is worth. -/
noncomputable def Try.pinned : Pinned := { name := "ytcgcdolafooffaa", sum := "9a883e6256ed7386dbeefde1a738409d646d84606b2b56c2cb2098eee699e940", checked := Try.checked }
namespace Rows
def none {H : Type} : Left H := { results := [], args := [] }

/-- 'trystlaw03.IsoDates': WHATEVER THE INPUT: true; the input reads as it did. -/
def isoDatesSpec : ChangeSpec := { name := "isoDates", fn := fun _ => fun
  | [d] => { results := [.lit (.bool true)], args := [d] }
  | _ => none }
def isoDatesRow : OpenClaim := { program := "ytcgcdolafooffaa", sum := "9a883e6256ed7386dbeefde1a738409d646d84606b2b56c2cb2098eee699e940", func := "tryst/trystlaw03.IsoDates", spec := "isoDates", apart := false }
def IsoDatesSaid : Prop := isoDatesRow.holds Try.pinned (OpenSpec.ofChange isoDatesSpec)

/-- ITS FALSE NEIGHBOUR: 'it returns false'. Refute it at one input. -/
def isoDatesWrong : ChangeSpec := { name := "isoDates", fn := fun _ => fun
  | [d] => { results := [.lit (.bool false)], args := [d] }
  | _ => none }
def IsoDatesWrongFalsely : Prop := isoDatesRow.holds Try.pinned (OpenSpec.ofChange isoDatesWrong)

/-- 'trystlaw03.IsoDays': WHATEVER THE INPUT: true; the input reads as it did. -/
def isoDaysSpec : ChangeSpec := { name := "isoDays", fn := fun _ => fun
  | [d] => { results := [.lit (.bool true)], args := [d] }
  | _ => none }
def isoDaysRow : OpenClaim := { program := "ytcgcdolafooffaa", sum := "9a883e6256ed7386dbeefde1a738409d646d84606b2b56c2cb2098eee699e940", func := "tryst/trystlaw03.IsoDays", spec := "isoDays", apart := false }
def IsoDaysSaid : Prop := isoDaysRow.holds Try.pinned (OpenSpec.ofChange isoDaysSpec)

/-- ITS FALSE NEIGHBOUR: 'it returns false'. Refute it at one input. -/
def isoDaysWrong : ChangeSpec := { name := "isoDays", fn := fun _ => fun
  | [d] => { results := [.lit (.bool false)], args := [d] }
  | _ => none }
def IsoDaysWrongFalsely : Prop := isoDaysRow.holds Try.pinned (OpenSpec.ofChange isoDaysWrong)

/-- 'trystlaw03.IsoBack': WHATEVER THE INPUT: true; the input reads as it did. -/
def isoBackSpec : ChangeSpec := { name := "isoBack", fn := fun _ => fun
  | [d1, d2] => { results := [.lit (.bool true)], args := [d1, d2] }
  | _ => none }
def isoBackRow : OpenClaim := { program := "ytcgcdolafooffaa", sum := "9a883e6256ed7386dbeefde1a738409d646d84606b2b56c2cb2098eee699e940", func := "tryst/trystlaw03.IsoBack", spec := "isoBack", apart := false }
def IsoBackSaid : Prop := isoBackRow.holds Try.pinned (OpenSpec.ofChange isoBackSpec)

/-- ITS FALSE NEIGHBOUR: 'it returns false'. Refute it at one input. -/
def isoBackWrong : ChangeSpec := { name := "isoBack", fn := fun _ => fun
  | [d1, d2] => { results := [.lit (.bool false)], args := [d1, d2] }
  | _ => none }
def IsoBackWrongFalsely : Prop := isoBackRow.holds Try.pinned (OpenSpec.ofChange isoBackWrong)

/-- 'trystlaw03.IsoNext': WHATEVER THE INPUT: true; the input reads as it did. -/
def isoNextSpec : ChangeSpec := { name := "isoNext", fn := fun _ => fun
  | [d] => { results := [.lit (.bool true)], args := [d] }
  | _ => none }
def isoNextRow : OpenClaim := { program := "ytcgcdolafooffaa", sum := "9a883e6256ed7386dbeefde1a738409d646d84606b2b56c2cb2098eee699e940", func := "tryst/trystlaw03.IsoNext", spec := "isoNext", apart := false }
def IsoNextSaid : Prop := isoNextRow.holds Try.pinned (OpenSpec.ofChange isoNextSpec)

/-- ITS FALSE NEIGHBOUR: 'it returns false'. Refute it at one input. -/
def isoNextWrong : ChangeSpec := { name := "isoNext", fn := fun _ => fun
  | [d] => { results := [.lit (.bool false)], args := [d] }
  | _ => none }
def IsoNextWrongFalsely : Prop := isoNextRow.holds Try.pinned (OpenSpec.ofChange isoNextWrong)

/-- 'trystlaw03.IsoWeeks': WHATEVER THE INPUT: true; the input reads as it did. -/
def isoWeeksSpec : ChangeSpec := { name := "isoWeeks", fn := fun _ => fun
  | [d1, d2, d3] => { results := [.lit (.bool true)], args := [d1, d2, d3] }
  | _ => none }
def isoWeeksRow : OpenClaim := { program := "ytcgcdolafooffaa", sum := "9a883e6256ed7386dbeefde1a738409d646d84606b2b56c2cb2098eee699e940", func := "tryst/trystlaw03.IsoWeeks", spec := "isoWeeks", apart := false }
def IsoWeeksSaid : Prop := isoWeeksRow.holds Try.pinned (OpenSpec.ofChange isoWeeksSpec)

/-- ITS FALSE NEIGHBOUR: 'it returns false'. Refute it at one input. -/
def isoWeeksWrong : ChangeSpec := { name := "isoWeeks", fn := fun _ => fun
  | [d1, d2, d3] => { results := [.lit (.bool false)], args := [d1, d2, d3] }
  | _ => none }
def IsoWeeksWrongFalsely : Prop := isoWeeksRow.holds Try.pinned (OpenSpec.ofChange isoWeeksWrong)

/- THE SECOND FORM. 'bulk': how many values and letters a reading holds, each counted each time it is reached (what is shared counts as often as it is met; a slice's spare places count too). A statement '..UptoSaid' is the law's where the arguments, and the package variables that the reading takes, are together of bulk at most 1048576: NARROWER than '..Said'. Prove '..Said' where nothing that the law and all that it calls make is longer than what came in: it says more and counts as full. Else prove '..UptoSaid'. A law counts once. -/
mutual
def uptoBulk {H : Type} : DataW H → Nat
  | .lit (.string bytes) => bytes.length + 1
  | .lit _ => 1
  | .nil => 1
  | .ptr d => uptoBulk d + 1
  | .slice elems spare => uptoBulkAll elems + uptoBulkAll spare + 1
  | .agg parts => uptoBulkAll parts + 1
  | .iface _ d => uptoBulk d + 1
  | .map entries => uptoBulkEntries entries + 1
  | .held _ => 1
def uptoBulkAll {H : Type} : List (DataW H) → Nat
  | [] => 0
  | d :: r => uptoBulk d + uptoBulkAll r
def uptoBulkEntries {H : Type} : List (Lit × DataW H) → Nat
  | [] => 0
  | x :: r => uptoBulkEntry x + uptoBulkEntries r
def uptoBulkEntry {H : Type} : Lit × DataW H → Nat
  | (.string bytes, d) => bytes.length + uptoBulk d + 1
  | (_, d) => uptoBulk d + 1
 end
def uptoSmall : (H : Type) → List (DataW H) → Bool := fun _ ds => decide (uptoBulkAll ds ≤ 1048576)
def OpenSpec.upto (s : _root_.Go.ChangeSpec) : _root_.Go.OpenSpec := { _root_.Go.OpenSpec.ofChange s with cond := some uptoSmall }

/-- 'trystlaw03.IsoDates', WHERE WHAT IT READS IS OF BULK AT MOST 1048576: true; the input reads as it did. -/
def isoDatesUptoRow : OpenClaim := { program := "ytcgcdolafooffaa", sum := "9a883e6256ed7386dbeefde1a738409d646d84606b2b56c2cb2098eee699e940", func := "tryst/trystlaw03.IsoDates", spec := "isoDates", apart := false, narrowed := true }
def IsoDatesUptoSaid : Prop := isoDatesUptoRow.holds Try.pinned (OpenSpec.upto isoDatesSpec)

/-- 'trystlaw03.IsoDays', WHERE WHAT IT READS IS OF BULK AT MOST 1048576: true; the input reads as it did. -/
def isoDaysUptoRow : OpenClaim := { program := "ytcgcdolafooffaa", sum := "9a883e6256ed7386dbeefde1a738409d646d84606b2b56c2cb2098eee699e940", func := "tryst/trystlaw03.IsoDays", spec := "isoDays", apart := false, narrowed := true }
def IsoDaysUptoSaid : Prop := isoDaysUptoRow.holds Try.pinned (OpenSpec.upto isoDaysSpec)

/-- 'trystlaw03.IsoBack', WHERE WHAT IT READS IS OF BULK AT MOST 1048576: true; the input reads as it did. -/
def isoBackUptoRow : OpenClaim := { program := "ytcgcdolafooffaa", sum := "9a883e6256ed7386dbeefde1a738409d646d84606b2b56c2cb2098eee699e940", func := "tryst/trystlaw03.IsoBack", spec := "isoBack", apart := false, narrowed := true }
def IsoBackUptoSaid : Prop := isoBackUptoRow.holds Try.pinned (OpenSpec.upto isoBackSpec)

/-- 'trystlaw03.IsoNext', WHERE WHAT IT READS IS OF BULK AT MOST 1048576: true; the input reads as it did. -/
def isoNextUptoRow : OpenClaim := { program := "ytcgcdolafooffaa", sum := "9a883e6256ed7386dbeefde1a738409d646d84606b2b56c2cb2098eee699e940", func := "tryst/trystlaw03.IsoNext", spec := "isoNext", apart := false, narrowed := true }
def IsoNextUptoSaid : Prop := isoNextUptoRow.holds Try.pinned (OpenSpec.upto isoNextSpec)

/-- 'trystlaw03.IsoWeeks', WHERE WHAT IT READS IS OF BULK AT MOST 1048576: true; the input reads as it did. -/
def isoWeeksUptoRow : OpenClaim := { program := "ytcgcdolafooffaa", sum := "9a883e6256ed7386dbeefde1a738409d646d84606b2b56c2cb2098eee699e940", func := "tryst/trystlaw03.IsoWeeks", spec := "isoWeeks", apart := false, narrowed := true }
def IsoWeeksUptoSaid : Prop := isoWeeksUptoRow.holds Try.pinned (OpenSpec.upto isoWeeksSpec)

end Rows
end Go.Proofs.Ytcgcdolafooffaa
