/- What the reference's Length, Day and Date return for a calendar whose years follow each other by one, out of what its Months, begins and Fixed return. -/
import Derived.Test.YtafpdiikhhikeaaGreatDoorRefLeaf
import Derived.Test.YtafpdiikhhikeaaGreatDoorIn
namespace Go.Proofs.YtafpdiikhhikeaaGreatDoor
open Go.RowKit

/- One call that computes an integer and leaves the world alone. -/
def Gives (f : FuncId) (args : Array Value) (r : Int) : Prop := ∀ w : World, Calls Tryz.prog f args w fun e w' => e = .returned (.int .i64 r) ∧ w = w'
theorem Gives.on {f : FuncId} {args : Array Value} {r : Int} (h : Gives f args r) (w : World) : Calls Tryz.prog f args w fun e w' => e = .returned (.int .i64 r) ∧ w = w' := h w

/- The reference's length of a month, out of the beginnings of months. -/
def lenOf (B : Int → Int) (F : Int → Int → Int) (M : Int → Int) (y m : Int) : Int :=
  if m < 1 ∨ M y < m then 0 else if m < M y then F y (m + 1) - F y m else B (y + 1) - F y m

def okc (lo hi : Int) (L : Int → Int → Int) (y m d : Int) : Bool := decide (lo ≤ y ∧ y ≤ hi ∧ 1 ≤ d ∧ d ≤ L y m)
theorem okc_iff {lo hi : Int} {L : Int → Int → Int} {y m d : Int} : okc lo hi L y m d = true ↔ (lo ≤ y ∧ y ≤ hi ∧ 1 ≤ d ∧ d ≤ L y m) := by unfold okc; simp
theorem okc_no {lo hi : Int} {L : Int → Int → Int} {y m d : Int} (h : okc lo hi L y m d = false) : ¬ (lo ≤ y ∧ y ≤ hi ∧ 1 ≤ d ∧ d ≤ L y m) := by
  rw [← okc_iff]; simp [h]

end Go.Proofs.YtafpdiikhhikeaaGreatDoor
