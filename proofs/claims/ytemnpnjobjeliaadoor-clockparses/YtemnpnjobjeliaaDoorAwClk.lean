/- What trystlaw07.awake returns. -/
import Derived.Test.YtemnpnjobjeliaaDoorClkFmt
namespace Go.Proofs.YtemnpnjobjeliaaDoor
open Go.RowKit

theorem txt_awake : Clk.secTxt 86400 = [48, 48, 48, 49, 48, 49, 48, 49, 84, 48, 48, 48, 48, 48, 48] := by decide +kernel
set_option maxHeartbeats 400000 in
theorem awake_any (w : World) (ht : Tab w) :
    Calls Tryd.prog 8 #[] w fun e w' => e = .returned (.bool true) ∧ Gr w w' := by
  go_enter Tryd.func8, Tryd.ntmps8
  go_wp2_with fail
  refine (format_yes 86400 _ ht (by decide)).mono ?_
  rintro e w1 ⟨rfl, hb⟩
  rw [txt_awake]
  go_wp2
  go_ret
  exact ⟨rfl, hb⟩
end Go.Proofs.YtemnpnjobjeliaaDoor
