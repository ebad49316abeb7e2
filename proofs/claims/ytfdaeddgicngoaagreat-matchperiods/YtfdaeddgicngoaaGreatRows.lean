/-
  No cell of these rows narrows 'for every input' (looked for: loops, veiled, ifaces, maps, wideKeys, modest, calm, conditions, laid).
  DERIVED. THE GIVEN ROWS OF THIS SEAT. 3 by the template 'for every input the law returns true; each argument reads behind the call as it read before'; 0 by the template 'total and deterministic' (their statements: YtfdaeddgicngoaaGreatTotals.lean).
  GIVEN WITH THE SEED: the statements are not yours to turn. If you find one false, say at which input.
  Laid BY PROGRAM, IN A SANDBOX (cutbox-rows.mjs): the forced cells as the released guide's own fill.sh prints them over the translation 6bbadd53f8f99435… (all of the seat's roots in one cut). By AI agents, Wed Nov 11 2026. No macro, syntax, notation, axiom, sorry.
-/
import Derived.Test.YtfdaeddgicngoaaGreatChecked
import GoSem.Claim
import GoSem.ClaimJoined
import GoSem.ClaimMapViews
import Derived.JoinedTies
import Derived.KernelRfl
namespace Go.Proofs.YtfdaeddgicngoaaGreat
/- THE CELL 'sum', in the pinned program and in every row, IS THE sha256 OF THE DUMP (.gsa) THAT YtfdaeddgicngoaaGreatProg.lean LOADS. Nothing in Lean hashes anything: it is a label: what it is worth is what the hold of that sum in a sandbox is worth. -/
noncomputable def Tryz.pinned : Pinned := { name := "ytfdaeddgicngoaagreat", sum := "6bbadd53f8f9943594a852a898a4acbf837ee1dccf4da12cab23beb37dffe1d9", checked := Tryz.checked }
namespace Rows
def none {H : Type} : Left H := { results := [], args := [] }

/-- 'trystlaw14.MatchFits': WHATEVER THE INPUT: true; the input reads as it did. -/
def matchFitsSpec : ChangeSpec := { name := "matchFits", fn := fun _ => fun
  | [d1, d2, d3] => { results := [.lit (.bool true)], args := [d1, d2, d3] }
  | _ => none }
def matchFitsRow : OpenClaim := { program := "ytfdaeddgicngoaagreat", sum := "6bbadd53f8f9943594a852a898a4acbf837ee1dccf4da12cab23beb37dffe1d9", func := "tryst/trystlaw14.MatchFits", spec := "matchFits", inPlace := ["internal/bytealg.IndexByteString"], unfollowed := true, recurses := true, apart := false }
def MatchFitsSaid : Prop := matchFitsRow.holds Tryz.pinned (OpenSpec.ofChange matchFitsSpec)

/-- ITS FALSE NEIGHBOUR: 'it returns false'. Refute it at one input. -/
def matchFitsWrong : ChangeSpec := { name := "matchFits", fn := fun _ => fun
  | [d1, d2, d3] => { results := [.lit (.bool false)], args := [d1, d2, d3] }
  | _ => none }
def MatchFitsWrongFalsely : Prop := matchFitsRow.holds Tryz.pinned (OpenSpec.ofChange matchFitsWrong)

/-- 'trystlaw14.MatchMany': WHATEVER THE INPUT: true; the input reads as it did. -/
def matchManySpec : ChangeSpec := { name := "matchMany", fn := fun _ => fun
  | [d1, d2, d3] => { results := [.lit (.bool true)], args := [d1, d2, d3] }
  | _ => none }
def matchManyRow : OpenClaim := { program := "ytfdaeddgicngoaagreat", sum := "6bbadd53f8f9943594a852a898a4acbf837ee1dccf4da12cab23beb37dffe1d9", func := "tryst/trystlaw14.MatchMany", spec := "matchMany", inPlace := ["internal/bytealg.IndexByteString"], unfollowed := true, recurses := true, apart := false }
def MatchManySaid : Prop := matchManyRow.holds Tryz.pinned (OpenSpec.ofChange matchManySpec)

/-- ITS FALSE NEIGHBOUR: 'it returns false'. Refute it at one input. -/
def matchManyWrong : ChangeSpec := { name := "matchMany", fn := fun _ => fun
  | [d1, d2, d3] => { results := [.lit (.bool false)], args := [d1, d2, d3] }
  | _ => none }
def MatchManyWrongFalsely : Prop := matchManyRow.holds Tryz.pinned (OpenSpec.ofChange matchManyWrong)

/-- 'trystlaw14.MatchPeriods': WHATEVER THE INPUT: true; the input reads as it did. -/
def matchPeriodsSpec : ChangeSpec := { name := "matchPeriods", fn := fun _ => fun
  | [d1, d2, d3, d4] => { results := [.lit (.bool true)], args := [d1, d2, d3, d4] }
  | _ => none }
def matchPeriodsRow : OpenClaim := { program := "ytfdaeddgicngoaagreat", sum := "6bbadd53f8f9943594a852a898a4acbf837ee1dccf4da12cab23beb37dffe1d9", func := "tryst/trystlaw14.MatchPeriods", spec := "matchPeriods", inPlace := ["internal/bytealg.IndexByteString"], unfollowed := true, recurses := true, apart := false }
def MatchPeriodsSaid : Prop := matchPeriodsRow.holds Tryz.pinned (OpenSpec.ofChange matchPeriodsSpec)

/-- ITS FALSE NEIGHBOUR: 'it returns false'. Refute it at one input. -/
def matchPeriodsWrong : ChangeSpec := { name := "matchPeriods", fn := fun _ => fun
  | [d1, d2, d3, d4] => { results := [.lit (.bool false)], args := [d1, d2, d3, d4] }
  | _ => none }
def MatchPeriodsWrongFalsely : Prop := matchPeriodsRow.holds Tryz.pinned (OpenSpec.ofChange matchPeriodsWrong)

/- THE SECOND FORM. 'bulk': how many values and letters a reading holds, each counted each time it is reached (what is shared counts as often as it is met; a slice's spare places count too). A statement '..UptoSaid' is the law's where the arguments, and the package variables that the reading takes, are together of bulk at most 1048576: NARROWER than '..Said'. Prove '..Said' where nothing that the law and all that it calls make is longer than what came in: it says more and counts as full. Else prove '..UptoSaid'. A law counts once. -/
mutual
def uptoBulk {H : Type} : DataW H → Nat
  | .lit (.string bytes) => bytes.length + 1
  | .lit _ => 1
  | .nil => 1
  | .ptr d => uptoBulk d + 1
  | .slice elems spare => uptoBulkAll elems + uptoBulkAll spare + 1
  | .agg parts => uptoBulkAll parts + 1
  | .iface _ d => uptoBulk d + 1
  | .map entries => uptoBulkEntries entries + 1
  | .held _ => 1
def uptoBulkAll {H : Type} : List (DataW H) → Nat
  | [] => 0
  | d :: r => uptoBulk d + uptoBulkAll r
def uptoBulkEntries {H : Type} : List (Lit × DataW H) → Nat
  | [] => 0
  | x :: r => uptoBulkEntry x + uptoBulkEntries r
def uptoBulkEntry {H : Type} : Lit × DataW H → Nat
  | (.string bytes, d) => bytes.length + uptoBulk d + 1
  | (_, d) => uptoBulk d + 1
 end
def uptoSmall : (H : Type) → List (DataW H) → Bool := fun _ ds => decide (uptoBulkAll ds ≤ 1048576)
def OpenSpec.upto (s : _root_.Go.ChangeSpec) : _root_.Go.OpenSpec := { _root_.Go.OpenSpec.ofChange s with cond := some uptoSmall }

/-- 'trystlaw14.MatchFits', WHERE WHAT IT READS IS OF BULK AT MOST 1048576: true; the input reads as it did. -/
def matchFitsUptoRow : OpenClaim := { program := "ytfdaeddgicngoaagreat", sum := "6bbadd53f8f9943594a852a898a4acbf837ee1dccf4da12cab23beb37dffe1d9", func := "tryst/trystlaw14.MatchFits", spec := "matchFits", inPlace := ["internal/bytealg.IndexByteString"], unfollowed := true, recurses := true, apart := false, narrowed := true }
def MatchFitsUptoSaid : Prop := matchFitsUptoRow.holds Tryz.pinned (OpenSpec.upto matchFitsSpec)

/-- 'trystlaw14.MatchMany', WHERE WHAT IT READS IS OF BULK AT MOST 1048576: true; the input reads as it did. -/
def matchManyUptoRow : OpenClaim := { program := "ytfdaeddgicngoaagreat", sum := "6bbadd53f8f9943594a852a898a4acbf837ee1dccf4da12cab23beb37dffe1d9", func := "tryst/trystlaw14.MatchMany", spec := "matchMany", inPlace := ["internal/bytealg.IndexByteString"], unfollowed := true, recurses := true, apart := false, narrowed := true }
def MatchManyUptoSaid : Prop := matchManyUptoRow.holds Tryz.pinned (OpenSpec.upto matchManySpec)

/-- 'trystlaw14.MatchPeriods', WHERE WHAT IT READS IS OF BULK AT MOST 1048576: true; the input reads as it did. -/
def matchPeriodsUptoRow : OpenClaim := { program := "ytfdaeddgicngoaagreat", sum := "6bbadd53f8f9943594a852a898a4acbf837ee1dccf4da12cab23beb37dffe1d9", func := "tryst/trystlaw14.MatchPeriods", spec := "matchPeriods", inPlace := ["internal/bytealg.IndexByteString"], unfollowed := true, recurses := true, apart := false, narrowed := true }
def MatchPeriodsUptoSaid : Prop := matchPeriodsUptoRow.holds Tryz.pinned (OpenSpec.upto matchPeriodsSpec)

end Rows
end Go.Proofs.YtfdaeddgicngoaaGreat
