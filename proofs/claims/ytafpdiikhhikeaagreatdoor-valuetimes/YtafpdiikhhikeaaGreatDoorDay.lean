/- What rata.Day returns. -/
import Derived.Test.YtafpdiikhhikeaaGreatDoorRata
namespace Go.Proofs.YtafpdiikhhikeaaGreatDoor
open Go.RowKit

set_option maxHeartbeats 1000000 in
theorem day_no (y m d : Int) (w : World) (h : Cal.okB y m d = false) :
    Calls Tryz.prog 48 #[.agg #[.int .i64 y, .int .i64 m, .int .i64 d]] w fun e w' => e = .returned (.tuple #[.int .i64 0, .int .i64 2]) ∧ Gr w w' := by
  have H := Lib.hid h; clear h
  go_enter Tryz.func48, Tryz.ntmps48
  go_wp2_with fail
  refine (right_any _ _ _ _).mono ?_
  rintro e w1 ⟨rfl, hb⟩
  rw [H.out]
  go_wp2
  go_ret2
  exact ⟨rfl, ((Gr.refl _).alloc _ _).trans hb⟩

set_option maxHeartbeats 1000000 in
theorem day_yes (y m d : Int) (w : World) (h : Cal.okB y m d = true) :
    Calls Tryz.prog 48 #[.agg #[.int .i64 y, .int .i64 m, .int .i64 d]] w fun e w' => e = .returned (.tuple #[.int .i64 (Cal.num y m d), .int .i64 0]) ∧ Gr w w' := by
  obtain ⟨m1, m2⟩ := Cal.okB_month h
  have hn := Cal.num_bd h
  have h' := Cal.okB_iff.1 h
  obtain ⟨y1, y2, d1, d2⟩ := h'
  have hd := (Cal.dim_bd y m).2
  have hby := Cal.dby_bd (a := y) (by omega) (by omega)
  have H := Lib.hid h; clear h
  go_enter Tryz.func48, Tryz.ntmps48
  go_wp2_with fail
  refine (right_any _ _ _ _).mono ?_
  rintro e w1 ⟨rfl, hb⟩
  rw [H.out]
  obtain ⟨c0, c1, c2⟩ := box3 hb
  go_wp2
  go_quiet ((go_at_call 42; exact qsame (before_any _ _ (by omega) (by omega))))
  go_wp2
  go_loop [4, 5] (fun t i => ∃ k : Int, 1 ≤ k ∧ k ≤ m ∧ i = .int .i64 k ∧ t = .int .i64 (Cal.num y k d)) (fun _ i => (m - intOf i).toNat)
  case atStart => exact ⟨1, by omega, by omega, rfl, by simp [Cal.num, Cal.cum_1]⟩
  case round =>
    obtain ⟨k, k1, k2, rfl, rfl⟩ := hrel
    have kb := Cal.cum_bd y k1 (by omega)
    have ld := Cal.dim_bd y k
    have nb : 0 ≤ Cal.num y k d ∧ Cal.num y k d ≤ 9000000 := by unfold Cal.num; omega
    by_cases hlt : k < m
    · have s := Cal.cum_succ y k1 (by omega)
      have HS : Hid (Cal.num y (k + 1) d = Cal.num y k d + Cal.dim y k) := by unfold Cal.num; show _ = _; omega
      clear s
      go_wp2_with (go_at_call 43; refine (length_any _ _ _).mono ?_; rintro e w' ⟨rfl, rfl⟩)
      go_round
      case rel => exact ⟨k + 1, by omega, by omega, rfl, by rw [HS.out]⟩
      case measure => simp [intOf]; omega
    · go_wp2
      go_ret2
      obtain rfl : k = m := by omega
      exact ⟨rfl, (((Gr.refl _).alloc _ _).trans hb).drewN _⟩

set_option maxHeartbeats 1000000 in
theorem date_no (n : Int) (w : World) (h : Cal.dayB n = false) :
    Calls Tryz.prog 25 #[.int .i64 n] w fun e w' => e = .returned (.tuple #[.agg #[.int .i64 0, .int .i64 0, .int .i64 0], .int .i64 2]) ∧ Gr w w' := by
  have H := Lib.hid h; clear h
  go_enter Tryz.func25, Tryz.ntmps25
  go_wp2_with fail
  refine (of_any _ _).mono ?_
  rintro e w' ⟨rfl, rfl⟩
  rw [H.out]
  go_wp2
  exact bodyPost_ret (v := .tuple #[.agg #[.int .i64 0, .int .i64 0, .int .i64 0], .int .i64 2]) (by simp [results, Tryz.results25, go_sem]) rfl ⟨rfl, (Gr.refl _).alloc _ _⟩

set_option maxHeartbeats 1000000 in
theorem date_yes (n : Int) (w : World) (h : Cal.dayB n = true) :
    Calls Tryz.prog 25 #[.int .i64 n] w fun e w' => e = .returned (.tuple #[.agg #[.int .i64 (Cal.yr n), .int .i64 (Cal.mon n), .int .i64 (Cal.dom n)], .int .i64 0]) ∧ Gr w w' := by
  obtain ⟨n1, n2⟩ := Cal.dayB_iff.1 h
  have yb := Cal.yr_bd n1 n2
  have lb := Cal.dby_bd (a := Cal.yr n) (by omega) (by omega)
  have y1 := Cal.yr_lo n
  have y2 := Cal.yr_hi n
  have c1 := Cal.cum_1 (Cal.yr n)
  have c13 := Cal.cum_13 (Cal.yr n)
  have es := Cal.dby_succ (Cal.yr n)
  have l01 := Cal.lp_01 (Cal.yr n)
  have HU : Hid (∀ m, 1 ≤ m → m ≤ 12 → Cal.cum (Cal.yr n) m < n - Cal.dby (Cal.yr n) → n - Cal.dby (Cal.yr n) ≤ Cal.cum (Cal.yr n) (m + 1) → Cal.mon n = m ∧ Cal.dom n = n - Cal.dby (Cal.yr n) - Cal.cum (Cal.yr n) m) := by
    intro m m1 m2 a b
    have e : Cal.mon n = m := Cal.mo_unique m1 m2 a b
    exact ⟨e, by unfold Cal.dom; rw [e]⟩
  have r1 : 1 ≤ n - Cal.dby (Cal.yr n) := by omega
  have r2 : n - Cal.dby (Cal.yr n) ≤ Cal.cum (Cal.yr n) 13 := by omega
  have HC := Lib.hid (And.intro c1 c13)
  clear c1 c13 es
  have H := Lib.hid h; clear h
  go_enter Tryz.func25, Tryz.ntmps25
  go_wp2_with fail
  refine (of_any _ _).mono ?_
  rintro e w' ⟨rfl, rfl⟩
  rw [H.out]
  go_wp2_with (first | (go_at_call 41; refine (yearOf_any _ _ (by omega) (by omega)).mono ?_; rintro e w' ⟨rfl, rfl⟩) | (go_at_call 42; refine (before_any _ _ (by omega) (by omega)).mono ?_; rintro e w' ⟨rfl, rfl⟩))
  go_loop [5, 6] (fun t i => ∃ k : Int, 1 ≤ k ∧ k ≤ 12 ∧ i = .int .i64 k ∧ Cal.cum (Cal.yr n) k < n - Cal.dby (Cal.yr n) ∧ t = .int .i64 (n - Cal.dby (Cal.yr n) - Cal.cum (Cal.yr n) k)) (fun _ i => (12 - intOf i).toNat)
  case atStart => exact ⟨1, by omega, by omega, rfl, by rw [HC.out.1]; omega, by rw [HC.out.1]; simp⟩
  case round =>
    obtain ⟨k, k1, k2, rfl, hlo, rfl⟩ := hrel
    have kb := Cal.cum_bd (Cal.yr n) k1 (by omega)
    have ld := Cal.dim_bd (Cal.yr n) k
    have s := Cal.cum_succ (Cal.yr n) k1 k2
    by_cases hlt : Cal.dim (Cal.yr n) k < n - Cal.dby (Cal.yr n) - Cal.cum (Cal.yr n) k
    · have k3 : k < 12 := by
        by_cases e : k = 12
        · subst e; have : Cal.cum (Cal.yr n) (12 + 1) = Cal.cum (Cal.yr n) 13 := rfl; omega
        · omega
      have HS := Lib.hid s; clear s
      go_wp2_with (go_at_call 43; refine (length_any _ _ _).mono ?_; rintro e w' ⟨rfl, rfl⟩)
      go_round
      case rel => exact ⟨k + 1, by omega, by omega, rfl, by rw [HS.out]; omega, by rw [HS.out]; go_num⟩
      case measure => simp [intOf]; omega
    · obtain ⟨u1, u2⟩ := HU.out k k1 k2 hlo (by omega)
      have U1 := Lib.hid u1; have U2 := Lib.hid u2
      clear s u1 u2
      go_wp2_with (go_at_call 43; refine (length_any _ _ _).mono ?_; rintro e w' ⟨rfl, rfl⟩)
      rw [U1.out, U2.out]
      exact bodyPost_ret (v := .tuple #[.agg #[.int .i64 (Cal.yr n), .int .i64 k, .int .i64 (n - Cal.dby (Cal.yr n) - Cal.cum (Cal.yr n) k)], .int .i64 0]) (by simp [results, Tryz.results25, go_sem]) rfl ⟨rfl, (Gr.refl _).alloc _ _⟩
end Go.Proofs.YtafpdiikhhikeaaGreatDoor
