/- The law HebrewBack returns true. -/
import Derived.Test.YthpdnlmjnfllcaaIn
import Derived.Test.YthpdnlmjnfllcaaHebDate
import Derived.Test.YthpdnlmjnfllcaaHebFrom
import Derived.Test.YthpdnlmjnfllcaaAwHeb
namespace Go.Proofs.Ythpdnlmjnfllcaa.Heb
open Go.RowKit

theorem in_is {n : Int} {b : Bool} (h : Cal.dayB n = b) (w : World) : Calls Try.prog 14 #[.int .i64 n] w fun e w' => e = .returned (.bool b) ∧ w = w' := by
  subst h; exact in_any n w
set_option maxHeartbeats 1000000 in
theorem back_nn (n y m d : Int) (w : World) (h : Cal.dayB n = false) (h2 : ok y m d = false) :
    Calls Try.prog 5 #[.int .i64 n, .agg #[.int .i64 y, .int .i64 m, .int .i64 d]] w fun e w' => e = .returned (.bool true) ∧ Gr w w' := by
  have H := Lib.hid h; have H2 := Lib.hid h2; clear h h2
  go_enter Try.func5, Try.ntmps5
  go_wp2_with fail
  refine (trystlaw06.awake_any _).mono ?_
  rintro e w1 ⟨rfl, hb1⟩
  go_wp2_with fail
  refine (date_no _ _ H.out).mono ?_
  rintro e w2 ⟨rfl, hb2⟩
  go_wp2_with fail
  refine (from_no _ _ _ _ zero_no).mono ?_
  rintro e w3 ⟨rfl, hb3⟩
  go_wp2_with fail
  refine (in_is H.out _).mono ?_
  rintro e w' ⟨rfl, rfl⟩
  obtain ⟨c0, c1, c2⟩ := box3 (hb1.trans (hb2.trans (((Gr.refl w2).alloc #[.int .i64 0, .int .i64 0, .int .i64 0] 24).trans hb3)))
  have hg := ((Gr.refl w).alloc #[.int .i64 y, .int .i64 m, .int .i64 d] 24).trans (hb1.trans (hb2.trans (((Gr.refl w2).alloc #[.int .i64 0, .int .i64 0, .int .i64 0] 24).trans hb3)))
  clear hb1 hb2 hb3
  go_wp2_with fail
  refine (from_no _ _ _ _ H2.out).mono ?_
  rintro e w4 ⟨rfl, hb4⟩
  go_wp2_with fail
  refine (date_no _ _ (by decide)).mono ?_
  rintro e w5 ⟨rfl, hb5⟩
  go_wp2
  go_ret
  exact ⟨rfl, ((hg.trans hb4).trans hb5).alloc _ _⟩
set_option maxHeartbeats 1000000 in
theorem back_ny (n y m d : Int) (w : World) (h : Cal.dayB n = false) (h2 : ok y m d = true) :
    Calls Try.prog 5 #[.int .i64 n, .agg #[.int .i64 y, .int .i64 m, .int .i64 d]] w fun e w' => e = .returned (.bool true) ∧ Gr w w' := by
  obtain ⟨u1, u2, u3⟩ := uniq h2
  have U1 := Lib.hid u1; have U2 := Lib.hid u2; have U3 := Lib.hid u3
  have HD := Lib.hid (ok_day h2)
  have H := Lib.hid h; have H2 := Lib.hid h2; clear h h2 u1 u2 u3
  go_enter Try.func5, Try.ntmps5
  go_wp2_with fail
  refine (trystlaw06.awake_any _).mono ?_
  rintro e w1 ⟨rfl, hb1⟩
  go_wp2_with fail
  refine (date_no _ _ H.out).mono ?_
  rintro e w2 ⟨rfl, hb2⟩
  go_wp2_with fail
  refine (from_no _ _ _ _ zero_no).mono ?_
  rintro e w3 ⟨rfl, hb3⟩
  go_wp2_with fail
  refine (in_is H.out _).mono ?_
  rintro e w' ⟨rfl, rfl⟩
  obtain ⟨c0, c1, c2⟩ := box3 (hb1.trans (hb2.trans (((Gr.refl w2).alloc #[.int .i64 0, .int .i64 0, .int .i64 0] 24).trans hb3)))
  have hg := ((Gr.refl w).alloc #[.int .i64 y, .int .i64 m, .int .i64 d] 24).trans (hb1.trans (hb2.trans (((Gr.refl w2).alloc #[.int .i64 0, .int .i64 0, .int .i64 0] 24).trans hb3)))
  have z3 : w.heap.size < w3.heap.size := by have a := hb1.lt; have b := hb2.lt; have c := hb3.lt; simp at a b c; omega
  clear hb1 hb2 hb3
  go_wp2_with fail
  refine (from_yes _ _ _ _ H2.out).mono ?_
  rintro e w4 ⟨rfl, hb4⟩
  go_wp2_with fail
  refine (date_yes _ _ HD.out).mono ?_
  rintro e w5 ⟨rfl, hb5⟩
  rw [U1.out, U2.out, U3.out]
  have hb6 := (hb4.trans hb5).alloc #[.int .i64 y, .int .i64 m, .int .i64 d] 24
  have k0 := hb6.keeps z3 c0
  have k1 := hb6.keeps z3 c1
  have k2 := hb6.keeps z3 c2
  obtain ⟨e0, e1, e2⟩ := box_now w5 (.int .i64 y) (.int .i64 m) (.int .i64 d) 24
  clear c0 c1 c2
  go_wp2
  go_ret
  exact ⟨rfl, hg.trans hb6⟩
set_option maxHeartbeats 1000000 in
theorem back_yn (n y m d : Int) (w : World) (h : Cal.dayB n = true) (h2 : ok y m d = false) :
    Calls Try.prog 5 #[.int .i64 n, .agg #[.int .i64 y, .int .i64 m, .int .i64 d]] w fun e w' => e = .returned (.bool true) ∧ Gr w w' := by
  obtain ⟨s1, s2⟩ := spec h
  have S1 := Lib.hid s1; have S2 := Lib.hid s2
  have H := Lib.hid h; have H2 := Lib.hid h2; clear h h2 s1 s2
  go_enter Try.func5, Try.ntmps5
  go_wp2_with fail
  refine (trystlaw06.awake_any _).mono ?_
  rintro e w1 ⟨rfl, hb1⟩
  go_wp2_with fail
  refine (date_yes _ _ H.out).mono ?_
  rintro e w2 ⟨rfl, hb2⟩
  go_wp2_with fail
  refine (from_yes _ _ _ _ S1.out).mono ?_
  rintro e w3 ⟨rfl, hb3⟩
  rw [S2.out]
  go_wp2_with fail
  refine (in_is H.out _).mono ?_
  rintro e w' ⟨rfl, rfl⟩
  obtain ⟨c0, c1, c2⟩ := box3 (hb1.trans (hb2.trans (((Gr.refl w2).alloc #[.int .i64 (yr n), .int .i64 (mon n), .int .i64 (dom n)] 24).trans hb3)))
  have hg := ((Gr.refl w).alloc #[.int .i64 y, .int .i64 m, .int .i64 d] 24).trans (hb1.trans (hb2.trans (((Gr.refl w2).alloc #[.int .i64 (yr n), .int .i64 (mon n), .int .i64 (dom n)] 24).trans hb3)))
  clear hb1 hb2 hb3
  go_wp2_with fail
  refine (from_no _ _ _ _ H2.out).mono ?_
  rintro e w4 ⟨rfl, hb4⟩
  go_wp2_with fail
  refine (date_no _ _ (by decide)).mono ?_
  rintro e w5 ⟨rfl, hb5⟩
  go_wp2
  go_ret
  exact ⟨rfl, ((hg.trans hb4).trans hb5).alloc _ _⟩
set_option maxHeartbeats 1000000 in
theorem back_yy (n y m d : Int) (w : World) (h : Cal.dayB n = true) (h2 : ok y m d = true) :
    Calls Try.prog 5 #[.int .i64 n, .agg #[.int .i64 y, .int .i64 m, .int .i64 d]] w fun e w' => e = .returned (.bool true) ∧ Gr w w' := by
  obtain ⟨s1, s2⟩ := spec h
  have S1 := Lib.hid s1; have S2 := Lib.hid s2
  obtain ⟨u1, u2, u3⟩ := uniq h2
  have U1 := Lib.hid u1; have U2 := Lib.hid u2; have U3 := Lib.hid u3
  have HD := Lib.hid (ok_day h2)
  have H := Lib.hid h; have H2 := Lib.hid h2; clear h h2 u1 u2 u3 s1 s2
  go_enter Try.func5, Try.ntmps5
  go_wp2_with fail
  refine (trystlaw06.awake_any _).mono ?_
  rintro e w1 ⟨rfl, hb1⟩
  go_wp2_with fail
  refine (date_yes _ _ H.out).mono ?_
  rintro e w2 ⟨rfl, hb2⟩
  go_wp2_with fail
  refine (from_yes _ _ _ _ S1.out).mono ?_
  rintro e w3 ⟨rfl, hb3⟩
  rw [S2.out]
  go_wp2_with fail
  refine (in_is H.out _).mono ?_
  rintro e w' ⟨rfl, rfl⟩
  obtain ⟨c0, c1, c2⟩ := box3 (hb1.trans (hb2.trans (((Gr.refl w2).alloc #[.int .i64 (yr n), .int .i64 (mon n), .int .i64 (dom n)] 24).trans hb3)))
  have hg := ((Gr.refl w).alloc #[.int .i64 y, .int .i64 m, .int .i64 d] 24).trans (hb1.trans (hb2.trans (((Gr.refl w2).alloc #[.int .i64 (yr n), .int .i64 (mon n), .int .i64 (dom n)] 24).trans hb3)))
  have z3 : w.heap.size < w3.heap.size := by have a := hb1.lt; have b := hb2.lt; have c := hb3.lt; simp at a b c; omega
  clear hb1 hb2 hb3
  go_wp2_with fail
  refine (from_yes _ _ _ _ H2.out).mono ?_
  rintro e w4 ⟨rfl, hb4⟩
  go_wp2_with fail
  refine (date_yes _ _ HD.out).mono ?_
  rintro e w5 ⟨rfl, hb5⟩
  rw [U1.out, U2.out, U3.out]
  have hb6 := (hb4.trans hb5).alloc #[.int .i64 y, .int .i64 m, .int .i64 d] 24
  have k0 := hb6.keeps z3 c0
  have k1 := hb6.keeps z3 c1
  have k2 := hb6.keeps z3 c2
  obtain ⟨e0, e1, e2⟩ := box_now w5 (.int .i64 y) (.int .i64 m) (.int .i64 d) 24
  clear c0 c1 c2
  go_wp2
  go_ret
  exact ⟨rfl, hg.trans hb6⟩
theorem back_walk (n y m d : Int) (w : World) :
    Calls Try.prog 5 #[.int .i64 n, .agg #[.int .i64 y, .int .i64 m, .int .i64 d]] w fun e w' => e = .returned (.bool true) ∧ Gr w w' := by
  cases h : Cal.dayB n
  · cases h2 : ok y m d
    · exact back_nn n y m d w h h2
    · exact back_ny n y m d w h h2
  · cases h2 : ok y m d
    · exact back_yn n y m d w h h2
    · exact back_yy n y m d w h h2
end Go.Proofs.Ythpdnlmjnfllcaa.Heb
