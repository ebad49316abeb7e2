/- For every day and date, hebrew.Hebrew and hebrew.FromHebrew are inverse to each other. No condition. -/
import Derived.Test.YthpdnlmjnfllcaaRows
import Derived.Test.YthpdnlmjnfllcaaWHebBack
import Derived.ProofKit
import Derived.OpenShut
import Derived.Lib.SmallJoins
namespace Go.Proofs.Ythpdnlmjnfllcaa
namespace PHebBack
open Go.ChangeShapes Go.WideShapes Go.ChangeAt Go.RowKit Go.Joins

theorem own : ownKnob Try.prog.godebug = none := by kernel_rfl
theorem cellsDate : Try.prog.cellsOf 24 = 3 := by kernel_rfl

set_option maxRecDepth 100000 in
theorem lifted (os : Os) (started : os.Started) (H : Type) (enc : TypeId × Value → H) :
    ReturnsInHanded {} Try.checked os 5 .any (Rows.hebrewBackSpec.pre6 enc Try.prog Try.f5 Rows.hebrewBackRow.domain false) (Rows.hebrewBackSpec.post enc Try.prog Try.f5 false true false false) := by
  refine returnsInHanded_of_change (C := Try.checked) own started (by kernel_rfl) Try.func5
    (ChangeSpec.witness6 (enc := enc) (C := Try.checked) false ⟨#[], #[.int .i64 0, .agg #[.int .i64 0, .int .i64 0, .int .i64 0]], []⟩ 8 (by kernel_rfl) (by kernel_rfl) (by kernel_rfl) (by kernel_rfl)) ?_
  intro W base args ds gs before hval0 hW _ _
  have hval : ∀ (j : Nat) t v, Try.f5.params[j]? = some t → args[j]? = some v → Value.okWide Try.prog W .any base t v := hval0
  have hW' := hW
  obtain ⟨p, q, hA0, hV, rfl, _, _⟩ := hW
  have hA : DataW.TrodAll enc Try.prog W 0 (fun _ => true) true Try.f5.params.toList args.toList ds p := hA0
  rw [Try.params5] at hA hval
  obtain ⟨v0, v1, d0, d1, p0, p1, rfl, rfl, rfl, h0, h1⟩ := trodAll_two hA
  obtain ⟨rfl, rfl⟩ := trodVars_none hV
  obtain ⟨a0, rfl, rfl, rfl, wf0⟩ := open_int Try.underlying3 (hval 0 3 v0 rfl rfl) h0
  have bd0 := bounds_i64 wf0
  obtain ⟨c10, c11, c12, y10, y11, y12, m1, rfl, rfl, rfl, hy10, hy11, hy12⟩ := open_agg3 Try.underlying24 (by kernel_rfl) cellsDate (hval 1 24 v1 rfl rfl) h1
  obtain ⟨a1y, e10, rfl, wf10⟩ := DataW.trod_int Try.underlying3 hy10
  obtain ⟨a1m, e11, rfl, wf11⟩ := DataW.trod_int Try.underlying3 hy11
  obtain ⟨a1d, e12, rfl, wf12⟩ := DataW.trod_int Try.underlying3 hy12
  simp at e10 e11 e12; subst e10 e11 e12
  have bd10 := bounds_i64 wf10
  have bd11 := bounds_i64 wf11
  have bd12 := bounds_i64 wf12
  clear hA0 hval0
  simp only [List.append_nil] at hW'
  refine (Heb.back_walk a0 a1y a1m a1d W).mono fun e W' ⟨he, hg⟩ => ?_
  subst he
  exact ⟨_, rfl, post_of_same (pa := []) (pv := []) hW' (fun _ _ _ => (trodAll_cons_mk (shut_bool Try.underlying4 _) trodAll_mk0)) (fun sp _ => (trodAll_cons_mk (shut_int Try.underlying3 wf0) (trodAll_cons_mk (shut_agg3 (y0 := (.lit (.int .i64 a1y), [])) (y1 := (.lit (.int .i64 a1m), [])) (y2 := (.lit (.int .i64 a1d), [])) Try.underlying24 (by kernel_rfl) cellsDate ⟨1, by simp [DataW.trod, Try.underlying3, wf10]⟩ ⟨1, by simp [DataW.trod, Try.underlying3, wf11]⟩ ⟨1, by simp [DataW.trod, Try.underlying3, wf12]⟩) trodAll_mk0))) (fun _ _ => rfl) rfl
    (hg.grown.frame _) hg.grown.2.1 (ok_one (by kernel_rfl) rfl (okWide_bool_mk Try.underlying4 _))⟩
end PHebBack

theorem hebrewBack_holds : Rows.HebrewBackSaid :=
  OpenClaim.holds_of_wide 5 Try.f5 rfl rfl rfl rfl rfl rfl rfl ⟨rfl, rfl, rfl, rfl, rfl⟩ rfl rfl rfl rfl rfl (by kernel_rfl) Try.func5 (by kernel_rfl)
    (of_decide_eq_true (by kernel_rfl)) (by unfold Func.isWrapper; first | (rw [if_pos (by decide +kernel)]; kernel_rfl) | (rw [if_neg (by decide +kernel)]; exact ⟨rfl, rfl⟩))
    (fun os started H enc _ => PHebBack.lifted os started H enc)
end Go.Proofs.Ythpdnlmjnfllcaa
