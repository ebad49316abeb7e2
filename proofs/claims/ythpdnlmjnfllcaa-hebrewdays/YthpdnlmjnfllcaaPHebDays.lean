/- For every date, hebrew.FromHebrew returns the day or the error that the reference gives. No condition. -/
import Derived.Test.YthpdnlmjnfllcaaRows
import Derived.Test.YthpdnlmjnfllcaaWHebDays
import Derived.ProofKit
import Derived.OpenShut
import Derived.Lib.SmallJoins
namespace Go.Proofs.Ythpdnlmjnfllcaa
namespace PHebDays
open Go.ChangeShapes Go.WideShapes Go.ChangeAt Go.RowKit Go.Joins

theorem own : ownKnob Try.prog.godebug = none := by kernel_rfl
theorem cellsDate : Try.prog.cellsOf 24 = 3 := by kernel_rfl

set_option maxRecDepth 100000 in
theorem lifted (os : Os) (started : os.Started) (H : Type) (enc : TypeId × Value → H) :
    ReturnsInHanded {} Try.checked os 4 .any (Rows.hebrewDaysSpec.pre6 enc Try.prog Try.f4 Rows.hebrewDaysRow.domain false) (Rows.hebrewDaysSpec.post enc Try.prog Try.f4 false true false false) := by
  refine returnsInHanded_of_change (C := Try.checked) own started (by kernel_rfl) Try.func4
    (ChangeSpec.witness6 (enc := enc) (C := Try.checked) false ⟨#[], #[.agg #[.int .i64 0, .int .i64 0, .int .i64 0]], []⟩ 8 (by kernel_rfl) (by kernel_rfl) (by kernel_rfl) (by kernel_rfl)) ?_
  intro W base args ds gs before hval0 hW _ _
  have hval : ∀ (j : Nat) t v, Try.f4.params[j]? = some t → args[j]? = some v → Value.okWide Try.prog W .any base t v := hval0
  have hW' := hW
  obtain ⟨p, q, hA0, hV, rfl, _, _⟩ := hW
  have hA : DataW.TrodAll enc Try.prog W 0 (fun _ => true) true Try.f4.params.toList args.toList ds p := hA0
  rw [Try.params4] at hA hval
  obtain ⟨v0, d0, rfl, rfl, h0⟩ := trodAll_one hA
  obtain ⟨rfl, rfl⟩ := trodVars_none hV
  obtain ⟨c00, c01, c02, y00, y01, y02, m0, rfl, rfl, rfl, hy00, hy01, hy02⟩ := open_agg3 Try.underlying24 (by kernel_rfl) cellsDate (hval 0 24 v0 rfl rfl) h0
  obtain ⟨a0y, e00, rfl, wf00⟩ := DataW.trod_int Try.underlying3 hy00
  obtain ⟨a0m, e01, rfl, wf01⟩ := DataW.trod_int Try.underlying3 hy01
  obtain ⟨a0d, e02, rfl, wf02⟩ := DataW.trod_int Try.underlying3 hy02
  simp at e00 e01 e02; subst e00 e01 e02
  have bd00 := bounds_i64 wf00
  have bd01 := bounds_i64 wf01
  have bd02 := bounds_i64 wf02
  clear hA0 hval0
  simp only [List.append_nil] at hW'
  refine (Heb.days_walk a0y a0m a0d W).mono fun e W' ⟨he, hg⟩ => ?_
  subst he
  exact ⟨_, rfl, post_of_same (pa := []) (pv := []) hW' (fun _ _ _ => (trodAll_cons_mk (shut_bool Try.underlying4 _) trodAll_mk0)) (fun sp _ => (trodAll_cons_mk (shut_agg3 (y0 := (.lit (.int .i64 a0y), [])) (y1 := (.lit (.int .i64 a0m), [])) (y2 := (.lit (.int .i64 a0d), [])) Try.underlying24 (by kernel_rfl) cellsDate ⟨1, by simp [DataW.trod, Try.underlying3, wf00]⟩ ⟨1, by simp [DataW.trod, Try.underlying3, wf01]⟩ ⟨1, by simp [DataW.trod, Try.underlying3, wf02]⟩) trodAll_mk0)) (fun _ _ => rfl) rfl
    (hg.grown.frame _) hg.grown.2.1 (ok_one (by kernel_rfl) rfl (okWide_bool_mk Try.underlying4 _))⟩
end PHebDays

theorem hebrewDays_holds : Rows.HebrewDaysSaid :=
  OpenClaim.holds_of_wide 4 Try.f4 rfl rfl rfl rfl rfl rfl rfl ⟨rfl, rfl, rfl, rfl, rfl⟩ rfl rfl rfl rfl rfl (by kernel_rfl) Try.func4 (by kernel_rfl)
    (of_decide_eq_true (by kernel_rfl)) (by unfold Func.isWrapper; first | (rw [if_pos (by decide +kernel)]; kernel_rfl) | (rw [if_neg (by decide +kernel)]; exact ⟨rfl, rfl⟩))
    (fun os started H enc _ => PHebDays.lifted os started H enc)
end Go.Proofs.Ythpdnlmjnfllcaa
