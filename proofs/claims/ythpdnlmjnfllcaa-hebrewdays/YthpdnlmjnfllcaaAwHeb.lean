/- What the statements' own check of one year returns (package trystlaw06). -/
import Derived.Test.YthpdnlmjnfllcaaHebFn
import Derived.Test.YthpdnlmjnfllcaaRefHeb
namespace Go.Proofs.Ythpdnlmjnfllcaa.trystlaw06
open Go.RowKit

set_option maxHeartbeats 400000 in
theorem awake_any (w : World) :
    Calls Try.prog 9 #[] w fun e w' => e = .returned (.bool true) ∧ Gr w w' := by
  have hk : Heb.knB 5787 = true := by decide
  have HK := Lib.hid hk; clear hk
  go_enter Try.func9, Try.ntmps9
  go_wp2_with fail
  refine (Heb.begins_yes _ _ HK.out).mono ?_
  rintro e w' ⟨rfl, rfl⟩
  generalize hn : Heb.ny 5787 = N
  have HN := Lib.hid hn; clear hn
  go_wp2_with fail
  refine (Heb.fixed_7 _ _ (by omega) (by omega)).mono ?_
  rintro e w' ⟨rfl, rfl⟩
  rw [HN.out]
  go_wp2
  go_ret
  exact ⟨rfl, Gr.refl _⟩
end Go.Proofs.Ythpdnlmjnfllcaa.trystlaw06
