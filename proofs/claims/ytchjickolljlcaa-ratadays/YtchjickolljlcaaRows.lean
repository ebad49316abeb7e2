/-
  No cell of these rows narrows 'for every input' (looked for: loops, veiled, ifaces, maps, wideKeys, modest, calm, conditions, laid).
  DERIVED. THE GIVEN ROWS OF THIS SEAT. 6 by the template 'for every input the law returns true; each argument reads behind the call as it read before'; 0 by the template 'total and deterministic' (their statements: YtchjickolljlcaaTotals.lean).
  GIVEN WITH THE SEED: the statements are not yours to turn. If you find one false, say at which input.
  Laid BY PROGRAM, IN A SANDBOX (cutbox-rows.mjs): the forced cells as the released guide's own fill.sh prints them over the translation b02d42e9ca77ea44… (all of the seat's roots in one cut). By AI agents, Wed Nov 11 2026. No macro, syntax, notation, axiom, sorry.
-/
import Derived.Test.YtchjickolljlcaaChecked
import GoSem.Claim
import GoSem.ClaimJoined
import GoSem.ClaimMapViews
import Derived.JoinedTies
import Derived.KernelRfl
namespace Go.Proofs.Ytchjickolljlcaa
/- THE CELL 'sum', in the pinned program and in every row, IS THE sha256 OF THE DUMP (.gsa) THAT YtchjickolljlcaaProg.lean LOADS. Nothing in Lean hashes anything: it is a label: what it is worth is what the hold of that sum in a sandbox is worth. -/
noncomputable def Try.pinned : Pinned := { name := "ytchjickolljlcaa", sum := "b02d42e9ca77ea441e658555f2e78e3577437adf00d747530350f792589a4e19", checked := Try.checked }
namespace Rows
def none {H : Type} : Left H := { results := [], args := [] }

/-- 'trystlaw01.RataDays': WHATEVER THE INPUT: true; the input reads as it did. -/
def rataDaysSpec : ChangeSpec := { name := "rataDays", fn := fun _ => fun
  | [d] => { results := [.lit (.bool true)], args := [d] }
  | _ => none }
def rataDaysRow : OpenClaim := { program := "ytchjickolljlcaa", sum := "b02d42e9ca77ea441e658555f2e78e3577437adf00d747530350f792589a4e19", func := "tryst/trystlaw01.RataDays", spec := "rataDays", apart := false }
def RataDaysSaid : Prop := rataDaysRow.holds Try.pinned (OpenSpec.ofChange rataDaysSpec)

/-- ITS FALSE NEIGHBOUR: 'it returns false'. Refute it at one input. -/
def rataDaysWrong : ChangeSpec := { name := "rataDays", fn := fun _ => fun
  | [d] => { results := [.lit (.bool false)], args := [d] }
  | _ => none }
def RataDaysWrongFalsely : Prop := rataDaysRow.holds Try.pinned (OpenSpec.ofChange rataDaysWrong)

/-- 'trystlaw01.RataDates': WHATEVER THE INPUT: true; the input reads as it did. -/
def rataDatesSpec : ChangeSpec := { name := "rataDates", fn := fun _ => fun
  | [d] => { results := [.lit (.bool true)], args := [d] }
  | _ => none }
def rataDatesRow : OpenClaim := { program := "ytchjickolljlcaa", sum := "b02d42e9ca77ea441e658555f2e78e3577437adf00d747530350f792589a4e19", func := "tryst/trystlaw01.RataDates", spec := "rataDates", apart := false }
def RataDatesSaid : Prop := rataDatesRow.holds Try.pinned (OpenSpec.ofChange rataDatesSpec)

/-- ITS FALSE NEIGHBOUR: 'it returns false'. Refute it at one input. -/
def rataDatesWrong : ChangeSpec := { name := "rataDates", fn := fun _ => fun
  | [d] => { results := [.lit (.bool false)], args := [d] }
  | _ => none }
def RataDatesWrongFalsely : Prop := rataDatesRow.holds Try.pinned (OpenSpec.ofChange rataDatesWrong)

/-- 'trystlaw01.RataBack': WHATEVER THE INPUT: true; the input reads as it did. -/
def rataBackSpec : ChangeSpec := { name := "rataBack", fn := fun _ => fun
  | [d] => { results := [.lit (.bool true)], args := [d] }
  | _ => none }
def rataBackRow : OpenClaim := { program := "ytchjickolljlcaa", sum := "b02d42e9ca77ea441e658555f2e78e3577437adf00d747530350f792589a4e19", func := "tryst/trystlaw01.RataBack", spec := "rataBack", apart := false }
def RataBackSaid : Prop := rataBackRow.holds Try.pinned (OpenSpec.ofChange rataBackSpec)

/-- ITS FALSE NEIGHBOUR: 'it returns false'. Refute it at one input. -/
def rataBackWrong : ChangeSpec := { name := "rataBack", fn := fun _ => fun
  | [d] => { results := [.lit (.bool false)], args := [d] }
  | _ => none }
def RataBackWrongFalsely : Prop := rataBackRow.holds Try.pinned (OpenSpec.ofChange rataBackWrong)

/-- 'trystlaw01.RataNext': WHATEVER THE INPUT: true; the input reads as it did. -/
def rataNextSpec : ChangeSpec := { name := "rataNext", fn := fun _ => fun
  | [d] => { results := [.lit (.bool true)], args := [d] }
  | _ => none }
def rataNextRow : OpenClaim := { program := "ytchjickolljlcaa", sum := "b02d42e9ca77ea441e658555f2e78e3577437adf00d747530350f792589a4e19", func := "tryst/trystlaw01.RataNext", spec := "rataNext", apart := false }
def RataNextSaid : Prop := rataNextRow.holds Try.pinned (OpenSpec.ofChange rataNextSpec)

/-- ITS FALSE NEIGHBOUR: 'it returns false'. Refute it at one input. -/
def rataNextWrong : ChangeSpec := { name := "rataNext", fn := fun _ => fun
  | [d] => { results := [.lit (.bool false)], args := [d] }
  | _ => none }
def RataNextWrongFalsely : Prop := rataNextRow.holds Try.pinned (OpenSpec.ofChange rataNextWrong)

/-- 'trystlaw01.RataAdds': WHATEVER THE INPUT: true; the input reads as it did. -/
def rataAddsSpec : ChangeSpec := { name := "rataAdds", fn := fun _ => fun
  | [d1, d2] => { results := [.lit (.bool true)], args := [d1, d2] }
  | _ => none }
def rataAddsRow : OpenClaim := { program := "ytchjickolljlcaa", sum := "b02d42e9ca77ea441e658555f2e78e3577437adf00d747530350f792589a4e19", func := "tryst/trystlaw01.RataAdds", spec := "rataAdds", apart := false }
def RataAddsSaid : Prop := rataAddsRow.holds Try.pinned (OpenSpec.ofChange rataAddsSpec)

/-- ITS FALSE NEIGHBOUR: 'it returns false'. Refute it at one input. -/
def rataAddsWrong : ChangeSpec := { name := "rataAdds", fn := fun _ => fun
  | [d1, d2] => { results := [.lit (.bool false)], args := [d1, d2] }
  | _ => none }
def RataAddsWrongFalsely : Prop := rataAddsRow.holds Try.pinned (OpenSpec.ofChange rataAddsWrong)

/-- 'trystlaw01.RataMonths': WHATEVER THE INPUT: true; the input reads as it did. -/
def rataMonthsSpec : ChangeSpec := { name := "rataMonths", fn := fun _ => fun
  | [d1, d2] => { results := [.lit (.bool true)], args := [d1, d2] }
  | _ => none }
def rataMonthsRow : OpenClaim := { program := "ytchjickolljlcaa", sum := "b02d42e9ca77ea441e658555f2e78e3577437adf00d747530350f792589a4e19", func := "tryst/trystlaw01.RataMonths", spec := "rataMonths", apart := false }
def RataMonthsSaid : Prop := rataMonthsRow.holds Try.pinned (OpenSpec.ofChange rataMonthsSpec)

/-- ITS FALSE NEIGHBOUR: 'it returns false'. Refute it at one input. -/
def rataMonthsWrong : ChangeSpec := { name := "rataMonths", fn := fun _ => fun
  | [d1, d2] => { results := [.lit (.bool false)], args := [d1, d2] }
  | _ => none }
def RataMonthsWrongFalsely : Prop := rataMonthsRow.holds Try.pinned (OpenSpec.ofChange rataMonthsWrong)

/- THE SECOND FORM. 'bulk': how many values and letters a reading holds, each counted each time it is reached (what is shared counts as often as it is met; a slice's spare places count too). A statement '..UptoSaid' is the law's where the arguments, and the package variables that the reading takes, are together of bulk at most 1048576: NARROWER than '..Said'. Prove '..Said' where nothing that the law and all that it calls make is longer than what came in: it says more and counts as full. Else prove '..UptoSaid'. A law counts once. -/
mutual
def uptoBulk {H : Type} : DataW H → Nat
  | .lit (.string bytes) => bytes.length + 1
  | .lit _ => 1
  | .nil => 1
  | .ptr d => uptoBulk d + 1
  | .slice elems spare => uptoBulkAll elems + uptoBulkAll spare + 1
  | .agg parts => uptoBulkAll parts + 1
  | .iface _ d => uptoBulk d + 1
  | .map entries => uptoBulkEntries entries + 1
  | .held _ => 1
def uptoBulkAll {H : Type} : List (DataW H) → Nat
  | [] => 0
  | d :: r => uptoBulk d + uptoBulkAll r
def uptoBulkEntries {H : Type} : List (Lit × DataW H) → Nat
  | [] => 0
  | x :: r => uptoBulkEntry x + uptoBulkEntries r
def uptoBulkEntry {H : Type} : Lit × DataW H → Nat
  | (.string bytes, d) => bytes.length + uptoBulk d + 1
  | (_, d) => uptoBulk d + 1
 end
def uptoSmall : (H : Type) → List (DataW H) → Bool := fun _ ds => decide (uptoBulkAll ds ≤ 1048576)
def OpenSpec.upto (s : _root_.Go.ChangeSpec) : _root_.Go.OpenSpec := { _root_.Go.OpenSpec.ofChange s with cond := some uptoSmall }

/-- 'trystlaw01.RataDays', WHERE WHAT IT READS IS OF BULK AT MOST 1048576: true; the input reads as it did. -/
def rataDaysUptoRow : OpenClaim := { program := "ytchjickolljlcaa", sum := "b02d42e9ca77ea441e658555f2e78e3577437adf00d747530350f792589a4e19", func := "tryst/trystlaw01.RataDays", spec := "rataDays", apart := false, narrowed := true }
def RataDaysUptoSaid : Prop := rataDaysUptoRow.holds Try.pinned (OpenSpec.upto rataDaysSpec)

/-- 'trystlaw01.RataDates', WHERE WHAT IT READS IS OF BULK AT MOST 1048576: true; the input reads as it did. -/
def rataDatesUptoRow : OpenClaim := { program := "ytchjickolljlcaa", sum := "b02d42e9ca77ea441e658555f2e78e3577437adf00d747530350f792589a4e19", func := "tryst/trystlaw01.RataDates", spec := "rataDates", apart := false, narrowed := true }
def RataDatesUptoSaid : Prop := rataDatesUptoRow.holds Try.pinned (OpenSpec.upto rataDatesSpec)

/-- 'trystlaw01.RataBack', WHERE WHAT IT READS IS OF BULK AT MOST 1048576: true; the input reads as it did. -/
def rataBackUptoRow : OpenClaim := { program := "ytchjickolljlcaa", sum := "b02d42e9ca77ea441e658555f2e78e3577437adf00d747530350f792589a4e19", func := "tryst/trystlaw01.RataBack", spec := "rataBack", apart := false, narrowed := true }
def RataBackUptoSaid : Prop := rataBackUptoRow.holds Try.pinned (OpenSpec.upto rataBackSpec)

/-- 'trystlaw01.RataNext', WHERE WHAT IT READS IS OF BULK AT MOST 1048576: true; the input reads as it did. -/
def rataNextUptoRow : OpenClaim := { program := "ytchjickolljlcaa", sum := "b02d42e9ca77ea441e658555f2e78e3577437adf00d747530350f792589a4e19", func := "tryst/trystlaw01.RataNext", spec := "rataNext", apart := false, narrowed := true }
def RataNextUptoSaid : Prop := rataNextUptoRow.holds Try.pinned (OpenSpec.upto rataNextSpec)

/-- 'trystlaw01.RataAdds', WHERE WHAT IT READS IS OF BULK AT MOST 1048576: true; the input reads as it did. -/
def rataAddsUptoRow : OpenClaim := { program := "ytchjickolljlcaa", sum := "b02d42e9ca77ea441e658555f2e78e3577437adf00d747530350f792589a4e19", func := "tryst/trystlaw01.RataAdds", spec := "rataAdds", apart := false, narrowed := true }
def RataAddsUptoSaid : Prop := rataAddsUptoRow.holds Try.pinned (OpenSpec.upto rataAddsSpec)

/-- 'trystlaw01.RataMonths', WHERE WHAT IT READS IS OF BULK AT MOST 1048576: true; the input reads as it did. -/
def rataMonthsUptoRow : OpenClaim := { program := "ytchjickolljlcaa", sum := "b02d42e9ca77ea441e658555f2e78e3577437adf00d747530350f792589a4e19", func := "tryst/trystlaw01.RataMonths", spec := "rataMonths", apart := false, narrowed := true }
def RataMonthsUptoSaid : Prop := rataMonthsUptoRow.holds Try.pinned (OpenSpec.upto rataMonthsSpec)

end Rows
end Go.Proofs.Ytchjickolljlcaa
