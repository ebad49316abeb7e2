/- What persian.placeOf and persian.Persian return. -/
import Derived.Test.YtjngioanpphdkaaPerFn
namespace Go.Proofs.Ytjngioanpphdkaa.Per
open Go.RowKit

theorem rest_eq (n : Int) : (n - 399655) % 1029983 - inC ((128 * ((n - 399655) % 1029983) + 31 - 1) / 46751) = n - 1 - zdb (zof n) := by
  have := zof_db n; unfold inC; omega
set_option maxHeartbeats 400000 in
theorem placeOf_any (n : Int) (w : World) (n1 : 1 ≤ n) (n2 : n ≤ 3652059) :
    Calls Try.prog 17 #[.int .i64 (n - 399655)] w fun e w' => e = .returned (.tuple #[.int .i64 (zof n), .int .i64 (n - 1 - zdb (zof n))]) ∧ w = w' := by
  have HR := Lib.hid (rest_eq n)
  have g0 : 0 ≤ (n - 399655) % 1029983 := by omega
  have g1 : (n - 399655) % 1029983 < 1029983 := by omega
  have k1 : 0 ≤ (128 * ((n - 399655) % 1029983) + 31 - 1) / 46751 := by omega
  have k2 : (128 * ((n - 399655) % 1029983) + 31 - 1) / 46751 ≤ 2820 := by omega
  have ib := inC_bd k1 k2
  go_enter Try.func17, Try.ntmps17
  go_wp2_with (first | (go_at_call 34; refine (quotient_any _ _ _ (by omega) (by omega) (by omega) (by omega)).mono ?_; rintro e w' ⟨rfl, rfl⟩) | (go_at_call 33; refine (remainder_any _ _ _ (by omega) (by omega)).mono ?_; rintro e w' ⟨rfl, rfl⟩) | (go_at_call 35; refine (inCycle_any _ _ (by omega) (by omega)).mono ?_; rintro e w' ⟨rfl, rfl⟩))
  go_ret2
  rw [← HR.out]
  exact ⟨rfl, rfl⟩
theorem mon_lo {n : Int} (h : n - 1 - zdb (zof n) < 186) (h0 : 0 ≤ n - 1 - zdb (zof n)) : mon n = (n - 1 - zdb (zof n)) / 31 + 1 ∧ dom n = (n - 1 - zdb (zof n)) % 31 + 1 := by
  have e : mon n = (n - 1 - zdb (zof n)) / 31 + 1 := by unfold mon mo; rw [dby_yr, if_pos h]
  refine ⟨e, ?_⟩
  unfold dom; rw [e, dby_yr]
  have c := cum_cases ((n - 1 - zdb (zof n)) / 31 + 1)
  omega
theorem mon_hi {n : Int} (h : 186 ≤ n - 1 - zdb (zof n)) (h0 : n - 1 - zdb (zof n) < 366) : mon n = (n - 1 - zdb (zof n) - 186) / 30 + 6 + 1 ∧ dom n = (n - 1 - zdb (zof n) - 186) % 30 + 1 := by
  have e : mon n = (n - 1 - zdb (zof n) - 186) / 30 + 6 + 1 := by unfold mon mo; rw [dby_yr, if_neg (by omega)]
  refine ⟨e, ?_⟩
  unfold dom; rw [e, dby_yr]
  have c := cum_cases ((n - 1 - zdb (zof n) - 186) / 30 + 6 + 1)
  omega
set_option maxHeartbeats 1000000 in
theorem date_no (n : Int) (w : World) (h : Cal.dayB n = false) :
    Calls Try.prog 9 #[.int .i64 n] w fun e w' => e = .returned (.tuple #[.agg #[.int .i64 0, .int .i64 0, .int .i64 0], .int .i64 2]) ∧ Gr w w' := by
  have H := Lib.hid h; clear h
  go_enter Try.func9, Try.ntmps9
  go_wp2_with fail
  refine (of_any _ _).mono ?_
  rintro e w' ⟨rfl, rfl⟩
  rw [H.out]
  go_wp2
  exact bodyPost_ret (v := .tuple #[.agg #[.int .i64 0, .int .i64 0, .int .i64 0], .int .i64 2]) (by simp [results, Try.results9, go_sem]) rfl ⟨rfl, (Gr.refl _).alloc _ _⟩
set_option maxHeartbeats 1000000 in
theorem date_yes (n : Int) (w : World) (h : Cal.dayB n = true) :
    Calls Try.prog 9 #[.int .i64 n] w fun e w' => e = .returned (.tuple #[.agg #[.int .i64 (yr n), .int .i64 (mon n), .int .i64 (dom n)], .int .i64 0]) ∧ Gr w w' := by
  obtain ⟨n1, n2⟩ := Cal.dayB_iff.1 h
  have zb := zof_bd n1 n2
  have z1 := zof_lo n
  have z2 := zof_hi n
  have es := zdb_succ (zof n)
  have r1 : 0 ≤ n - 1 - zdb (zof n) := by omega
  have r2 : n - 1 - zdb (zof n) < 366 := by omega
  clear z1 z2 es
  have H := Lib.hid h; clear h
  have HY : Hid (yr n = yat (zof n)) := Lib.hid rfl
  by_cases hr : n - 1 - zdb (zof n) < 186
  · have HU := Lib.hid (mon_lo hr r1)
    go_enter Try.func9, Try.ntmps9
    go_wp2_with fail
    refine (of_any _ _).mono ?_
    rintro e w' ⟨rfl, rfl⟩
    rw [H.out]
    go_wp2_with fail
    refine (placeOf_any _ _ n1 n2).mono ?_
    rintro e w' ⟨rfl, rfl⟩
    go_wp2_with fail
    refine (yearAt_any _ _ (by omega) (by omega)).mono ?_
    rintro e w' ⟨rfl, rfl⟩
    go_wp2
    rw [HY.out, HU.out.1, HU.out.2]
    exact bodyPost_ret (v := .tuple #[.agg #[.int .i64 (yat (zof n)), .int .i64 ((n - 1 - zdb (zof n)) / 31 + 1), .int .i64 ((n - 1 - zdb (zof n)) % 31 + 1)], .int .i64 0]) (by simp [results, Try.results9, go_sem]) rfl ⟨rfl, ((Gr.refl _).alloc _ _).alloc _ _⟩
  · have HU := Lib.hid (mon_hi (by omega) r2)
    have hr' : 186 ≤ n - 1 - zdb (zof n) := by omega
    have d1 : decide (n - 1 - zdb (zof n) < 186) = false := by simp; omega
    go_enter Try.func9, Try.ntmps9
    go_wp2_with fail
    refine (of_any _ _).mono ?_
    rintro e w' ⟨rfl, rfl⟩
    rw [H.out]
    go_wp2_with fail
    refine (placeOf_any _ _ n1 n2).mono ?_
    rintro e w' ⟨rfl, rfl⟩
    go_wp2_with fail
    refine (yearAt_any _ _ (by omega) (by omega)).mono ?_
    rintro e w' ⟨rfl, rfl⟩
    go_wp2
    rw [HY.out, HU.out.1, HU.out.2]
    exact bodyPost_ret (v := .tuple #[.agg #[.int .i64 (yat (zof n)), .int .i64 ((n - 1 - zdb (zof n) - 186) / 30 + 6 + 1), .int .i64 ((n - 1 - zdb (zof n) - 186) % 30 + 1)], .int .i64 0]) (by simp [results, Try.results9, go_sem]) rfl ⟨rfl, ((Gr.refl _).alloc _ _).alloc _ _⟩
end Go.Proofs.Ytjngioanpphdkaa.Per
