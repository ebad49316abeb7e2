/- The law RataDays returns true. -/
import Derived.Test.YtchjickolljlcaaRefGreg2
namespace Go.Proofs.Ytchjickolljlcaa
open Go.RowKit

set_option maxHeartbeats 1000000 in
theorem days_walk (y m d : Int) (w : World) :
    Calls Try.prog 3 #[.agg #[.int .i64 y, .int .i64 m, .int .i64 d]] w fun e w' => e = .returned (.bool true) ∧ Gr w w' := by
  cases h : Cal.okB y m d
  · have H := Lib.hid h; clear h
    go_enter Try.func3, Try.ntmps3
    go_wp2_with fail
    refine (awake_any _).mono ?_
    rintro e w1 ⟨rfl, hb1⟩
    obtain ⟨c0, c1, c2⟩ := box3 hb1
    go_wp2_with fail
    refine (day_no _ _ _ _ H.out).mono ?_
    rintro e w2 ⟨rfl, hb2⟩
    obtain ⟨c0, c1, c2⟩ := box3 (hb1.trans hb2)
    go_wp2_with fail
    refine (refday0_no _ _ _ _ H.out).mono ?_
    rintro e w3 ⟨rfl, hb3⟩
    obtain ⟨c0, c1, c2⟩ := box3 ((hb1.trans hb2).trans hb3)
    go_wp2_with fail
    refine (right_any _ _ _ _).mono ?_
    rintro e w4 ⟨rfl, hb4⟩
    rw [H.out]
    go_wp2
    go_ret
    exact ⟨rfl, ((((Gr.refl _).alloc _ _).trans hb1).trans hb2).trans (hb3.trans hb4)⟩
  · have H := Lib.hid h; clear h
    go_enter Try.func3, Try.ntmps3
    go_wp2_with fail
    refine (awake_any _).mono ?_
    rintro e w1 ⟨rfl, hb1⟩
    obtain ⟨c0, c1, c2⟩ := box3 hb1
    go_wp2_with fail
    refine (day_yes _ _ _ _ H.out).mono ?_
    rintro e w2 ⟨rfl, hb2⟩
    obtain ⟨c0, c1, c2⟩ := box3 (hb1.trans hb2)
    go_wp2_with fail
    refine (refday0_yes _ _ _ _ H.out).mono ?_
    rintro e w3 ⟨rfl, hb3⟩
    obtain ⟨c0, c1, c2⟩ := box3 ((hb1.trans hb2).trans hb3)
    go_wp2_with fail
    refine (right_any _ _ _ _).mono ?_
    rintro e w4 ⟨rfl, hb4⟩
    rw [H.out]
    go_wp2
    go_ret
    exact ⟨rfl, ((((Gr.refl _).alloc _ _).trans hb1).trans hb2).trans (hb3.trans hb4)⟩
end Go.Proofs.Ytchjickolljlcaa
