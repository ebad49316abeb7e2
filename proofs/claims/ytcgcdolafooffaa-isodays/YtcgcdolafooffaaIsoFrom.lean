/- What iso.FromISO returns. -/
import Derived.Test.YtcgcdolafooffaaIsoFn
import Derived.Deep.RegionHeld3
namespace Go.Proofs.Ytcgcdolafooffaa.Iso
open Go.RowKit

set_option maxHeartbeats 1000000 in
theorem from_far (y m d : Int) (w : World) (h : y < 0 ∨ 9999 < y) :
    Calls Try.prog 11 #[.agg #[.int .i64 y, .int .i64 m, .int .i64 d]] w fun e w' => e = .returned (.tuple #[.int .i64 0, .int .i64 2]) ∧ Gr w w' := by
  go_enter Try.func11, Try.ntmps11
  go_wp2_with fail
  refine (weeks_far _ _ _ h).mono ?_
  rintro e w' ⟨rfl, rfl⟩
  go_wp2
  go_ret2
  exact ⟨rfl, (Gr.refl _).alloc _ _⟩
theorem nw_M (y : Int) : nw y 1 = M y := rfl
set_option maxHeartbeats 1000000 in
theorem from_out (y m d : Int) (w : World) (y0 : 0 ≤ y) (y1 : y ≤ 9999) (h : m < 1 ∨ (1 ≤ m ∧ M y < m) ∨ (1 ≤ m ∧ m ≤ M y ∧ d < 1) ∨ (1 ≤ m ∧ m ≤ M y ∧ 1 ≤ d ∧ 7 < d)) :
    Calls Try.prog 11 #[.agg #[.int .i64 y, .int .i64 m, .int .i64 d]] w fun e w' => e = .returned (.tuple #[.int .i64 0, .int .i64 2]) ∧ Gr w w' := by
  have mb : ∀ w1, Gr (w.alloc (.cells #[.int .i64 y, .int .i64 m, .int .i64 d] 24)) w1 → Gr w w1 := fun w1 hb => ((Gr.refl _).alloc _ _).trans hb
  have MB := Lib.hid mb; clear mb
  rcases h with h | ⟨h1, h⟩ | ⟨h1, h2, h⟩ | ⟨h1, h2, h3, h⟩
  all_goals
    go_enter Try.func11, Try.ntmps11
    go_wp2_with fail
    refine (weeks_yes _ _ _ y0 y1 (by decide)).mono ?_
    rintro e w1 ⟨rfl, hb⟩
    rw [nw_M]
    obtain ⟨c0, c1, c2⟩ := box3 hb
    go_wp2
    go_ret2
    exact ⟨rfl, MB.out _ hb⟩
theorem wrap_arg (m d : Int) (m1 : 1 ≤ m) (m2 : m ≤ 53) (d1 : 1 ≤ d) (d2 : d ≤ 7) :
    IntKind.i64.wrap (IntKind.i64.wrap (IntKind.i64.wrap (7 * IntKind.i64.wrap (m - 1)) + d) - 1) = 7 * (m - 1) + d - 1 := by
  simp only [IntKind.wrap_i64]; omega
set_option maxHeartbeats 1000000 in
theorem from_len (y m d : Int) (w : World) (r s : Int) (y0 : 0 ≤ y) (y1 : y ≤ 9999) (d1 : 1 ≤ d) (d2 : d ≤ len y m)
    (hc : ∀ w : World, Calls Try.prog 27 #[.int .i64 (w1 y 1), .int .i64 (7 * (m - 1) + d - 1)] w fun e w' => e = .returned (.tuple #[.int .i64 r, .int .i64 s]) ∧ w = w') :
    Calls Try.prog 11 #[.agg #[.int .i64 y, .int .i64 m, .int .i64 d]] w fun e w' => e = .returned (.tuple #[.int .i64 r, .int .i64 s]) ∧ Gr w w' := by
  obtain ⟨m1, m2⟩ := len_month d1 d2
  have lb := len_cases y m
  have M2 := M_cases y
  have d3 : d ≤ 7 := by omega
  have m3 : M y ≤ 53 := by omega
  have b1 : decide (d < 1) = false := by simp; omega
  have b2 : decide (7 < d) = false := by simp; omega
  have b3 : decide (m < 1) = false := by simp; omega
  have b4 : decide (M y < m) = false := by simp; omega
  have HC := Lib.hid hc
  have HW := Lib.hid (wrap_arg m d m1 (by omega) d1 d3)
  clear hc lb M2
  go_enter Try.func11, Try.ntmps11
  go_wp2_with fail
  refine (weeks_yes _ _ _ y0 y1 (by decide)).mono ?_
  rintro e w1 ⟨rfl, hb⟩
  rw [nw_M]
  obtain ⟨c0, c1, c2⟩ := box3 hb
  have hz : w.heap.size < w1.heap.size := by have := hb.lt; simp at this; omega
  have hg := ((Gr.refl w).alloc #[.int .i64 y, .int .i64 m, .int .i64 d] 24).trans hb
  clear hb
  go_wp2
  go_region_held3 (fun w' => w'.cell? ⟨w.heap.size, 0, none⟩ = some (.int .i64 y) ∧ w'.cell? ⟨w.heap.size, 1, none⟩ = some (.int .i64 m) ∧ w'.cell? ⟨w.heap.size, 2, none⟩ = some (.int .i64 d))
    (first | exact ⟨c0, c1, c2⟩ | exact ⟨k0, k1, k2⟩)
    (first | (go_at_call 28; refine (first_any _ _ _ y0 (by omega) (by omega) (by omega)).mono ?_; rintro e w2 ⟨rfl, hb2⟩; have k0 := hb2.keeps hz c0; have k1 := hb2.keeps hz c1; have k2 := hb2.keeps hz c2) | (go_at_call 27; rw [HW.out]; refine (HC.out _).mono ?_; rintro e w' ⟨rfl, rfl⟩))
  go_wp2
  go_ret2
  exact ⟨rfl, hg.drew.trans hb2⟩
theorem num_w1 (y m d : Int) : w1 y 1 + (7 * (m - 1) + d - 1) = num y m d := by unfold num dby; omega
theorem from_yes (y m d : Int) (w : World) (h : ok y m d = true) :
    Calls Try.prog 11 #[.agg #[.int .i64 y, .int .i64 m, .int .i64 d]] w fun e w' => e = .returned (.tuple #[.int .i64 (num y m d), .int .i64 0]) ∧ Gr w w' := by
  obtain ⟨h1, h2, h3, h4⟩ := ok_iff.1 h
  obtain ⟨yb1, yb2⟩ := ok_year h
  have l := num_w1 y m d
  have a1 := dby_1
  have a2 : dby 1 ≤ dby y := by
    by_cases e : y = 1
    · subst e; exact Int.le_refl _
    · have := dby_lt' (a := 1) (b := y) (by omega); omega
  have f1 : Cal.dayB (w1 y 1) = true := by rw [Cal.dayB_iff]; unfold num at *; unfold dby at *; have := len_month h1 h2; omega
  have f2 : Cal.dayB (w1 y 1 + (7 * (m - 1) + d - 1)) = true := by rw [l]; exact ok_day h
  refine from_len y m d w _ _ (by omega) yb2 h1 h2 (fun w => ?_)
  rw [← l]
  exact add_yes _ _ w f1 f2
theorem from_no (y m d : Int) (w : World) (h : ok y m d = false) :
    Calls Try.prog 11 #[.agg #[.int .i64 y, .int .i64 m, .int .i64 d]] w fun e w' => e = .returned (.tuple #[.int .i64 0, .int .i64 2]) ∧ Gr w w' := by
  by_cases hy : y < 0 ∨ 9999 < y
  · exact from_far y m d w hy
  · have l := len_cases y m
    by_cases ho : m < 1 ∨ (1 ≤ m ∧ M y < m) ∨ (1 ≤ m ∧ m ≤ M y ∧ d < 1) ∨ (1 ≤ m ∧ m ≤ M y ∧ 1 ≤ d ∧ 7 < d)
    · exact from_out y m d w (by omega) (by omega) ho
    · refine from_len y m d w _ _ (by omega) (by omega) (by omega) (by omega) (fun w => add_no _ _ w (Or.inr ?_))
      rw [num_w1]
      have := ok_not h
      cases hb : Cal.dayB (num y m d)
      · rfl
      · rw [Cal.dayB_iff] at hb; omega
end Go.Proofs.Ytcgcdolafooffaa.Iso
