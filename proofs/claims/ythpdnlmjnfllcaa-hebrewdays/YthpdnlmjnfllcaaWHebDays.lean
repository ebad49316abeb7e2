/- The law HebrewDays returns true. -/
import Derived.Test.YthpdnlmjnfllcaaRefTHeb
import Derived.Test.YthpdnlmjnfllcaaHebFrom
import Derived.Test.YthpdnlmjnfllcaaAwHeb
namespace Go.Proofs.Ythpdnlmjnfllcaa.Heb
open Go.RowKit

set_option maxHeartbeats 1000000 in
theorem days_no (y m d : Int) (w : World) (h : ok y m d = false) :
    Calls Try.prog 4 #[.agg #[.int .i64 y, .int .i64 m, .int .i64 d]] w fun e w' => e = .returned (.bool true) ∧ Gr w w' := by
  have H := Lib.hid h; clear h
  go_enter Try.func4, Try.ntmps4
  go_wp2_with fail
  refine (trystlaw06.awake_any _).mono ?_
  rintro e w1 ⟨rfl, hb1⟩
  obtain ⟨c0, c1, c2⟩ := box3 hb1
  go_wp2_with fail
  refine (from_no _ _ _ _ H.out).mono ?_
  rintro e w2 ⟨rfl, hb2⟩
  obtain ⟨c0, c1, c2⟩ := box3 (hb1.trans hb2)
  go_wp2_with fail
  refine (refday_no _ _ _ _ H.out).mono ?_
  rintro e w3 ⟨rfl, hb3⟩
  go_wp2
  go_ret
  exact ⟨rfl, ((((Gr.refl _).alloc _ _).trans hb1).trans hb2).trans hb3⟩
set_option maxHeartbeats 1000000 in
theorem days_yes (y m d : Int) (w : World) (h : ok y m d = true) :
    Calls Try.prog 4 #[.agg #[.int .i64 y, .int .i64 m, .int .i64 d]] w fun e w' => e = .returned (.bool true) ∧ Gr w w' := by
  have H := Lib.hid h; clear h
  go_enter Try.func4, Try.ntmps4
  go_wp2_with fail
  refine (trystlaw06.awake_any _).mono ?_
  rintro e w1 ⟨rfl, hb1⟩
  obtain ⟨c0, c1, c2⟩ := box3 hb1
  go_wp2_with fail
  refine (from_yes _ _ _ _ H.out).mono ?_
  rintro e w2 ⟨rfl, hb2⟩
  obtain ⟨c0, c1, c2⟩ := box3 (hb1.trans hb2)
  go_wp2_with fail
  refine (refday_yes _ _ _ _ H.out).mono ?_
  rintro e w3 ⟨rfl, hb3⟩
  go_wp2
  go_ret
  exact ⟨rfl, ((((Gr.refl _).alloc _ _).trans hb1).trans hb2).trans hb3⟩
theorem days_walk (y m d : Int) (w : World) :
    Calls Try.prog 4 #[.agg #[.int .i64 y, .int .i64 m, .int .i64 d]] w fun e w' => e = .returned (.bool true) ∧ Gr w w' := by
  cases h : ok y m d
  · exact days_no y m d w h
  · exact days_yes y m d w h
end Go.Proofs.Ythpdnlmjnfllcaa.Heb
