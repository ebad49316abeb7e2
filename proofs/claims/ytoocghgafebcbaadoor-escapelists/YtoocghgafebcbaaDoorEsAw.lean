/- What the laws' awake of layer 9 returns. -/
import Derived.Test.YtoocghgafebcbaaDoorEsTx
namespace Go.Proofs.YtoocghgafebcbaaDoor
open Go.RowKit

theorem aw9 : Es.clE true [97, 44, 98] = 0 ∧ Es.txT [97, 44, 98] = [97, 92, 44, 98] := by
  have hv : Lib.validD [97, 44, 98] = true := by
    rw [Fd.valid_low _ _ (by decide), Fd.valid_low _ _ (by decide), Fd.valid_low _ _ (by decide)]; rfl
  have hc := Es.clE_ok (f := true) hv (by decide)
  exact ⟨hc, by rw [Es.txT_ok hc]; decide⟩
set_option maxHeartbeats 1000000 in
theorem awake9_any (w : World) (ht : Tab w) : Calls Tryd.prog 7 #[] w fun e w' => e = .returned (.bool true) ∧ Gr w w' := by
  have cT := text_any ⟨#[97, 44, 98]⟩ w ht (by decide)
  have e1 : (ByteArray.mk #[97, 44, 98]).data.toList = [97, 44, 98] := rfl
  rw [e1, aw9.1, aw9.2] at cT
  clear e1
  go_enter Tryd.func7, Tryd.ntmps7
  go_wp2_with (go_at_call 8; refine cT.mono ?_; rintro e w' ⟨rfl, hg⟩)
  go_ret
  exact ⟨rfl, hg⟩
end Go.Proofs.YtoocghgafebcbaaDoor
