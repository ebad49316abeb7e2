/- What awake and wrong of the laws of layer 14 return. -/
import Derived.Test.YtmbmkldcedkbmaaGreatZMtFits
import Derived.Test.YtmbmkldcedkbmaaGreatZGh
import Derived.Test.YtmbmkldcedkbmaaGreatZRfForm
import Derived.Test.YtmbmkldcedkbmaaGreatZRcFew
import Derived.Test.YtmbmkldcedkbmaaGreatZE
namespace Go.Proofs.YtmbmkldcedkbmaaGreat
open Go.RowKit

namespace Mc
/- 'FREQ=DAILY', which is what awake asks with -/
def Vaw : Rm.Rv := ⟨⟨1, 1, 0, 0, 0, [], false, 0, [], [], [], [], [], [], [], [], []⟩, ⟨#[]⟩, ⟨none, 0, 0⟩, ⟨none, 0, 0⟩, ⟨none, 0, 0⟩, ⟨none, 0, 0⟩, ⟨none, 0, 0⟩, ⟨none, 0, 0⟩, ⟨none, 0, 0⟩, ⟨none, 0, 0⟩, ⟨none, 0, 0⟩⟩
theorem Vaw_fm : Rm.fm Vaw.r = true := by decide
theorem Vaw_fits : fits Vaw.r 5 6 = true := by kernel_rfl
end Mc
theorem vaw_mem (w : World) : RuM w w.heap.size Mc.Vaw :=
  ⟨rfl, fun i hi => by
    rcases (show i = 0 ∨ i = 1 ∨ i = 2 ∨ i = 3 ∨ i = 4 ∨ i = 5 ∨ i = 6 ∨ i = 7 by omega) with rfl | rfl | rfl | rfl | rfl | rfl | rfl | rfl <;> exact Nums.nil _ _ _, Pr2.nil _ _ _⟩
theorem vaw_n (i : Nat) (hi : i < 8) : (Mc.Vaw.sl i).n ≤ 140737488355328 := by
  rcases (show i = 0 ∨ i = 1 ∨ i = 2 ∨ i = 3 ∨ i = 4 ∨ i = 5 ∨ i = 6 ∨ i = 7 by omega) with rfl | rfl | rfl | rfl | rfl | rfl | rfl | rfl <;> decide
end Go.Proofs.YtmbmkldcedkbmaaGreat
