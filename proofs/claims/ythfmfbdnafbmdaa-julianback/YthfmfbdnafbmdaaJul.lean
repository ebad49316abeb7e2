/- What the functions of package julian return: Julian, FromJulian. -/
import Derived.Test.YthfmfbdnafbmdaaJulLeaf
namespace Go.Proofs.Ythfmfbdnafbmdaa.Jul
open Go.RowKit

set_option maxHeartbeats 1000000 in
theorem date_no (n : Int) (w : World) (h : Cal.dayB n = false) :
    Calls Try.prog 12 #[.int .i64 n] w fun e w' => e = .returned (.tuple #[.agg #[.int .i64 0, .int .i64 0, .int .i64 0], .int .i64 2]) ∧ Gr w w' := by
  have H := Lib.hid h; clear h
  go_enter Try.func12, Try.ntmps12
  go_wp2_with fail
  refine (of_any _ _).mono ?_
  rintro e w' ⟨rfl, rfl⟩
  rw [H.out]
  go_wp2
  exact bodyPost_ret (v := .tuple #[.agg #[.int .i64 0, .int .i64 0, .int .i64 0], .int .i64 2]) (by simp [results, Try.results12, go_sem]) rfl ⟨rfl, (Gr.refl _).alloc _ _⟩

theorem before_eq (y : Int) : ((y - 1) * 1461 + 0) / 4 = dby y + 2 := by unfold dby; omega
theorem year_eq (n : Int) : ((n + 1) * 4 + 3 - 0) / 1461 + 1 = yr n := by unfold yr; omega
set_option maxHeartbeats 1000000 in
theorem date_yes (n : Int) (w : World) (h : Cal.dayB n = true) :
    Calls Try.prog 12 #[.int .i64 n] w fun e w' => e = .returned (.tuple #[.agg #[.int .i64 (yr n), .int .i64 (mon n), .int .i64 (dom n)], .int .i64 0]) ∧ Gr w w' := by
  obtain ⟨n1, n2⟩ := Cal.dayB_iff.1 h
  have yb := yr_bd n1 n2
  have lb := dby_bdw (a := yr n) (by omega) (by omega)
  have y1 := yr_lo n
  have y2 := yr_hi n
  have c1 := Cal.cum_1 (rep (yr n))
  have c13 := Cal.cum_13 (rep (yr n))
  have es := dby_succ (yr n)
  have l01 := Cal.lp_01 (rep (yr n))
  have HU : Hid (∀ m, 1 ≤ m → m ≤ 12 → Cal.cum (rep (yr n)) m < n - dby (yr n) → n - dby (yr n) ≤ Cal.cum (rep (yr n)) (m + 1) → mon n = m ∧ dom n = n - dby (yr n) - 1 - Cal.cum (rep (yr n)) m + 1) := by
    intro m m1 m2 a b
    have e : mon n = m := Cal.mo_unique m1 m2 a b
    exact ⟨e, by unfold dom; rw [e]; omega⟩
  have r1 : 1 ≤ n - dby (yr n) := by omega
  have r2 : n - dby (yr n) ≤ Cal.cum (rep (yr n)) 13 := by omega
  have HC := Lib.hid (And.intro c1 c13)
  have HB := Lib.hid (before_eq (yr n))
  have HY := Lib.hid (year_eq n)
  have HR : Hid (n + 1 - (dby (yr n) + 2) = n - dby (yr n) - 1) := by show _ = _; omega
  clear c1 c13 es
  have H := Lib.hid h; clear h
  go_enter Try.func12, Try.ntmps12
  go_wp2_with fail
  refine (of_any _ _).mono ?_
  rintro e w' ⟨rfl, rfl⟩
  rw [H.out]
  go_wp2_with fail
  refine (jyearOf_any _ _ _ (by omega) (by omega) (by omega) (by omega)).mono ?_
  rintro e w' ⟨rfl, rfl⟩
  rw [HY.out]
  go_wp2_with fail
  refine (jbefore_any _ _ _ (by omega) (by omega) (by omega) (by omega)).mono ?_
  rintro e w' ⟨rfl, rfl⟩
  rw [HB.out]
  go_wp2_with fail
  rw [HR.out]
  go_loop [4, 6] (fun t i => ∃ k : Int, 1 ≤ k ∧ k ≤ 12 ∧ i = .int .i64 k ∧ Cal.cum (rep (yr n)) k < n - dby (yr n) ∧ t = .int .i64 (n - dby (yr n) - 1 - Cal.cum (rep (yr n)) k)) (fun _ i => (12 - intOf i).toNat)
  case atStart => exact ⟨1, by omega, by omega, rfl, by rw [HC.out.1]; omega, by rw [HC.out.1]; simp⟩
  case round =>
    obtain ⟨k, k1, k2, rfl, hlo, rfl⟩ := hrel
    have kb := Cal.cum_bd (rep (yr n)) k1 (by omega)
    have ld := len_bd (yr n) k
    have s := Cal.cum_succ (rep (yr n)) k1 k2
    have sl : Cal.dim (rep (yr n)) k = len (yr n) k := rfl
    rw [sl] at s; clear sl
    by_cases hlt : len (yr n) k ≤ n - dby (yr n) - 1 - Cal.cum (rep (yr n)) k
    · have k3 : k < 12 := by
        by_cases e : k = 12
        · subst e; have : Cal.cum (rep (yr n)) (12 + 1) = Cal.cum (rep (yr n)) 13 := rfl; omega
        · omega
      have HS := Lib.hid s; clear s
      go_wp2_with (go_at_call 23; refine (jlength_any _ _ _).mono ?_; rintro e w' ⟨rfl, rfl⟩)
      go_round
      case rel => exact ⟨k + 1, by omega, by omega, rfl, by rw [HS.out]; omega, by rw [HS.out]; go_num⟩
      case measure => simp [intOf]; omega
    · obtain ⟨u1, u2⟩ := HU.out k k1 k2 hlo (by omega)
      have U1 := Lib.hid u1; have U2 := Lib.hid u2
      clear s u1 u2
      go_wp2_with (go_at_call 23; refine (jlength_any _ _ _).mono ?_; rintro e w' ⟨rfl, rfl⟩)
      rw [U1.out, U2.out]
      exact bodyPost_ret (v := .tuple #[.agg #[.int .i64 (yr n), .int .i64 k, .int .i64 (n - dby (yr n) - 1 - Cal.cum (rep (yr n)) k + 1)], .int .i64 0]) (by simp [results, Try.results12, go_sem]) rfl ⟨rfl, (Gr.refl _).alloc _ _⟩
end Go.Proofs.Ythfmfbdnafbmdaa.Jul
