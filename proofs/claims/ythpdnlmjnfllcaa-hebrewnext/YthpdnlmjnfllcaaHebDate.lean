/- What hebrew.Hebrew returns. -/
import Derived.Test.YthpdnlmjnfllcaaHebFn
namespace Go.Proofs.Ythpdnlmjnfllcaa.Heb
open Go.RowKit

set_option maxHeartbeats 1000000 in
theorem date_no (n : Int) (w : World) (h : Cal.dayB n = false) :
    Calls Try.prog 10 #[.int .i64 n] w fun e w' => e = .returned (.tuple #[.agg #[.int .i64 0, .int .i64 0, .int .i64 0], .int .i64 2]) ∧ Gr w w' := by
  have H := Lib.hid h; clear h
  go_enter Try.func10, Try.ntmps10
  go_wp2_with fail
  refine (of_any _ _).mono ?_
  rintro e w' ⟨rfl, rfl⟩
  rw [H.out]
  go_wp2
  exact bodyPost_ret (v := .tuple #[.agg #[.int .i64 0, .int .i64 0, .int .i64 0], .int .i64 2]) (by simp [results, Try.results10, go_sem]) rfl ⟨rfl, (Gr.refl _).alloc _ _⟩
/- the rest of the year's days behind a month that is not the day's -/
theorem rest_step {n m : Int} (y1 : 1 ≤ yr n) (y2 : yr n ≤ 20000) (m1 : 1 ≤ m) (m2 : m ≤ mc (yr n)) (hi : n < ny (yr n + 1)) (h : len (yr n) m ≤ n - ny (yr n) - cum (yr n) m) : cum (yr n) (nm (yr n) m) = cum (yr n) m + len (yr n) m := by
  refine cum_next y1 y2 m1 m2 ?_
  intro e
  have c := (cum_end y1 y2 m1 m2).2.2 e
  unfold yl at c
  omega
theorem rest_end {n m : Int} (y1 : 1 ≤ yr n) (y2 : yr n ≤ 20000) (m1 : 1 ≤ m) (m2 : m ≤ mc (yr n)) (h0 : 0 ≤ n - ny (yr n) - cum (yr n) m) (h : ¬ len (yr n) m ≤ n - ny (yr n) - cum (yr n) m) : mon n = m ∧ dom n = n - ny (yr n) - cum (yr n) m + 1 := by
  have e : mon n = m := mo_unique y1 y2 m1 m2 (by omega) (by omega)
  exact ⟨e, by unfold dom; rw [e]⟩
theorem cum_7 (y : Int) : cum y 7 = 0 := by unfold cum; simp
set_option maxHeartbeats 1000000 in
theorem date_yes (n : Int) (w : World) (h : Cal.dayB n = true) :
    Calls Try.prog 10 #[.int .i64 n] w fun e w' => e = .returned (.tuple #[.agg #[.int .i64 (yr n), .int .i64 (mon n), .int .i64 (dom n)], .int .i64 0]) ∧ Gr w w' := by
  obtain ⟨n1, n2⟩ := Cal.dayB_iff.1 h
  obtain ⟨y1, y2, lo, hi⟩ := yr_spec n1 n2
  have HK : Hid (knB (yr n) = true) := knB_iff.2 ⟨by omega, by omega⟩
  have H := Lib.hid h; clear h
  have H7 := Lib.hid (cum_7 (yr n))
  have mb := mc_bd (yr n)
  have HI := Lib.hid hi; clear hi
  go_enter Try.func10, Try.ntmps10
  go_wp2_with fail
  refine (of_any _ _).mono ?_
  rintro e w' ⟨rfl, rfl⟩
  rw [H.out]
  go_wp2_with fail
  refine (yearOf_any _ _ n1 n2).mono ?_
  rintro e w' ⟨rfl, rfl⟩
  have nb := ny_bd (y := yr n) (by omega) (by omega)
  go_wp2_with fail
  refine (begin_any _ _ (by omega) (by omega)).mono ?_
  rintro e w' ⟨rfl, rfl⟩
  go_wp2_with fail
  refine (length_any _ _ _).mono ?_
  rintro e w' ⟨rfl, rfl⟩
  go_wp2
  go_loop [5, 6, 7] (fun r i l => ∃ m : Int, 1 ≤ m ∧ m ≤ mc (yr n) ∧ 0 ≤ n - ny (yr n) - cum (yr n) m ∧ r = .int .i64 (n - ny (yr n) - cum (yr n) m) ∧ i = .int .i64 m ∧ l = .int .i64 (len (yr n) m)) (fun r _ _ => (intOf r).toNat)
  case atStart => exact ⟨7, by omega, by omega, by rw [H7.out]; omega, by rw [H7.out, Int.sub_zero], rfl, rfl⟩
  case round =>
    obtain ⟨m, m1, m2, r0, rfl, rfl, rfl⟩ := hrel
    have ll := len_lo (y := yr n) (m := m) (by omega) (by omega) m1 m2
    have cb := cum_end (y := yr n) (m := m) (by omega) (by omega) m1 m2
    have lu := (len_bd (yr n) m).2
    have c0 := cb.1
    have r1 : n - ny (yr n) - cum (yr n) m ≤ 20000000 := by omega
    clear cb
    by_cases hlt : len (yr n) m ≤ n - ny (yr n) - cum (yr n) m
    · have HS := Lib.hid (rest_step (by omega) (by omega) m1 m2 HI.out hlt)
      obtain ⟨b1, b2⟩ := nm_bd m1 m2
      go_wp2_with (first | (go_at_call 25; refine (next_any _ _ _ HK.out m1 (by omega)).mono ?_; rintro e w' ⟨rfl, rfl⟩) | (go_at_call 18; refine (length_any _ _ _).mono ?_; rintro e w' ⟨rfl, rfl⟩))
      go_round
      case rel => exact ⟨nm (yr n) m, b1, b2, by rw [HS.out]; omega, by rw [HS.out, ← Int.sub_sub], rfl, rfl⟩
      case measure => simp [intOf]; omega
    · have HE := Lib.hid (rest_end (by omega) (by omega) m1 m2 r0 hlt)
      have d0 : decide (len (yr n) m ≤ n - ny (yr n) - cum (yr n) m) = false := by simp; omega
      clear hlt
      go_wp2
      rw [HE.out.1, HE.out.2]
      exact bodyPost_ret (v := .tuple #[.agg #[.int .i64 (yr n), .int .i64 m, .int .i64 (n - ny (yr n) - cum (yr n) m + 1)], .int .i64 0]) (by simp [results, Try.results10, go_sem]) rfl ⟨rfl, (Gr.refl _).alloc _ _⟩
end Go.Proofs.Ythpdnlmjnfllcaa.Heb
