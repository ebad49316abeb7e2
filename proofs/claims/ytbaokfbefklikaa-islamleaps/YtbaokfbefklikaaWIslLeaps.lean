/- The law IslamLeaps returns true. -/
import Derived.Test.YtbaokfbefklikaaRefTIsl
import Derived.Test.YtbaokfbefklikaaIslFn
import Derived.Test.YtbaokfbefklikaaAwIsl
namespace Go.Proofs.Ytbaokfbefklikaa.Isl
open Go.RowKit

set_option maxHeartbeats 1000000 in
theorem leaps_far (y : Int) (w : World) (h : knB y = false) :
    Calls Try.prog 7 #[.int .i64 y] w fun e w' => e = .returned (.bool true) ∧ Gr w w' := by
  have k : ¬ (-10000 ≤ y ∧ y ≤ 20000) := by rw [← knB_iff, h]; simp
  have H := Lib.hid h; clear h
  by_cases h1 : y < -10000
  · go_enter Try.func7, Try.ntmps7
    go_wp2_with fail
    refine (trystlaw04.awake_any _).mono ?_
    rintro e w1 ⟨rfl, hb1⟩
    go_wp2_with (go_at_call 15; refine (leap_no _ _ H.out).mono ?_; rintro e w' ⟨rfl, rfl⟩)
    go_ret
    exact ⟨rfl, hb1⟩
  · have h2 : 20000 < y := by omega
    have d1 : decide (y < -10000) = false := by simp; omega
    go_enter Try.func7, Try.ntmps7
    go_wp2_with fail
    refine (trystlaw04.awake_any _).mono ?_
    rintro e w1 ⟨rfl, hb1⟩
    go_wp2_with (go_at_call 15; refine (leap_no _ _ H.out).mono ?_; rintro e w' ⟨rfl, rfl⟩)
    go_ret
    exact ⟨rfl, hb1⟩
theorem len12_cases (y : Int) : (lpB y = true ∧ len y 12 = 30) ∨ (lpB y = false ∧ len y 12 = 29) := by
  have l := len_cases y 12
  rcases lp_cases y with ⟨_, a, b⟩ | ⟨_, a, b⟩
  · exact Or.inl ⟨a, by omega⟩
  · exact Or.inr ⟨a, by omega⟩
def L (y : Int) : Int := (3 + 11 * y) / 30
theorem L_succ (y : Int) : L (y + 1) = L y + lp y := by
  have l := lp_cases y
  have e : 3 + 11 * (y + 1) = 14 + 11 * y := by omega
  unfold L; rw [e]; omega
theorem L_bd (y : Int) {k : Int} (k1 : 0 ≤ k) (k2 : k ≤ 30) : 0 ≤ L (y + k) - L y ∧ L (y + k) - L y ≤ 30 := by unfold L; omega
theorem L_30 (y : Int) : L (y + 30) - L y = 11 := by unfold L; omega
set_option maxHeartbeats 1000000 in
theorem leaps_in (y : Int) (w : World) (h1 : -10000 ≤ y) (h2 : y ≤ 19971) :
    Calls Try.prog 7 #[.int .i64 y] w fun e w' => e = .returned (.bool true) ∧ Gr w w' := by
  have d1 : decide (y < -10000) = false := by simp; omega
  have d2 : decide (20000 < y) = false := by simp; omega
  go_enter Try.func7, Try.ntmps7
  go_wp2_with fail
  refine (trystlaw04.awake_any _).mono ?_
  rintro e w1 ⟨rfl, hb1⟩
  go_wp2_with fail
  go_loop [3, 16] (fun t i => ∃ k : Int, 0 ≤ k ∧ k ≤ 30 ∧ i = .int .i64 k ∧ t = .int .i64 (L (y + k) - L y)) (fun _ i => (30 - intOf i).toNat)
  case atStart => exact ⟨0, by omega, by omega, rfl, by simp⟩
  case round =>
    obtain ⟨k, k1, k2, rfl, rfl⟩ := hrel
    have lb := L_bd y k1 k2
    by_cases hlt : k < 30
    · have hk : knB (y + k) = true := knB_iff.2 (by omega)
      have HK := Lib.hid hk; clear hk
      have s := L_succ (y + k)
      have e : y + k + 1 = y + (k + 1) := by omega
      rw [e] at s
      rcases lp_cases (y + k) with ⟨_, a, b⟩ | ⟨_, a, b⟩
      · have HS : Hid (L (y + (k + 1)) - L y = L (y + k) - L y + 1) := by show _ = _; omega
        have HA := Lib.hid a
        clear s e a b
        go_wp2_with (go_at_call 15; refine (leap_yes _ _ HK.out).mono ?_; rintro e w' ⟨rfl, rfl⟩; rw [HA.out])
        go_round
        case rel => exact ⟨k + 1, by omega, by omega, rfl, by rw [HS.out]⟩
        case measure => simp [intOf]; omega
      · have HS : Hid (L (y + (k + 1)) - L y = L (y + k) - L y) := by show _ = _; omega
        have HA := Lib.hid a
        clear s e a b
        go_wp2_with (go_at_call 15; refine (leap_yes _ _ HK.out).mono ?_; rintro e w' ⟨rfl, rfl⟩; rw [HA.out])
        go_round
        case rel => exact ⟨k + 1, by omega, by omega, rfl, by rw [HS.out]⟩
        case measure => simp [intOf]; omega
    · obtain rfl : k = 30 := by omega
      have hk : knB y = true := knB_iff.2 (by omega)
      have HK := Lib.hid hk; clear hk
      have HT := Lib.hid (L_30 y)
      rw [HT.out]
      rcases len12_cases y with ⟨a, b⟩ | ⟨a, b⟩
      all_goals
        have HA := Lib.hid a
        have HB := Lib.hid b
        clear a b
        go_wp2_with (first | (go_at_call 15; refine (leap_yes _ _ HK.out).mono ?_; rintro e w' ⟨rfl, rfl⟩; rw [HA.out]) | (go_at_call 14; refine (reflength y 12 (by omega) (by omega) _).mono ?_; rintro e w' ⟨rfl, rfl⟩; rw [HB.out]))
        go_ret
        exact ⟨rfl, hb1⟩
set_option maxHeartbeats 1000000 in
theorem leaps_end (y : Int) (w : World) (h1 : 19971 < y) (h2 : y ≤ 20000) :
    Calls Try.prog 7 #[.int .i64 y] w fun e w' => e = .returned (.bool true) ∧ Gr w w' := by
  have d1 : decide (y < -10000) = false := by simp; omega
  have d2 : decide (20000 < y) = false := by simp; omega
  have d3 : decide (19971 < y) = true := by simp; omega
  go_enter Try.func7, Try.ntmps7
  go_wp2_with fail
  refine (trystlaw04.awake_any _).mono ?_
  rintro e w1 ⟨rfl, hb1⟩
  go_wp2_with fail
  go_loop [3, 16] (fun t i => ∃ k c : Int, 0 ≤ k ∧ k ≤ 30 ∧ 0 ≤ c ∧ c ≤ k ∧ i = .int .i64 k ∧ t = .int .i64 c) (fun _ i => (30 - intOf i).toNat)
  case atStart => exact ⟨0, 0, by omega, by omega, by omega, by omega, rfl, rfl⟩
  case round =>
    obtain ⟨k, c, k1, k2, c1, c2, rfl, rfl⟩ := hrel
    by_cases hlt : k < 30
    · by_cases hk : y + k ≤ 20000
      · have hk' : knB (y + k) = true := knB_iff.2 (by omega)
        have HK := Lib.hid hk'; clear hk'
        rcases lp_cases (y + k) with ⟨_, a, b⟩ | ⟨_, a, b⟩
        · have HA := Lib.hid a
          clear a b
          go_wp2_with (go_at_call 15; refine (leap_yes _ _ HK.out).mono ?_; rintro e w' ⟨rfl, rfl⟩; rw [HA.out])
          go_round
          case rel => exact ⟨k + 1, c + 1, by omega, by omega, by omega, by omega, rfl, rfl⟩
          case measure => simp [intOf]; omega
        · have HA := Lib.hid a
          clear a b
          go_wp2_with (go_at_call 15; refine (leap_yes _ _ HK.out).mono ?_; rintro e w' ⟨rfl, rfl⟩; rw [HA.out])
          go_round
          case rel => exact ⟨k + 1, c, by omega, by omega, by omega, by omega, rfl, rfl⟩
          case measure => simp [intOf]; omega
      · have d4 : decide (y + k ≤ 20000) = false := by simp; omega
        go_wp2
        go_round
        case rel => exact ⟨k + 1, c, by omega, by omega, by omega, by omega, rfl, rfl⟩
        case measure => simp [intOf]; omega
    · obtain rfl : k = 30 := by omega
      have hk : knB y = true := knB_iff.2 (by omega)
      have HK := Lib.hid hk; clear hk
      rcases len12_cases y with ⟨a, b⟩ | ⟨a, b⟩
      all_goals
        have HA := Lib.hid a
        have HB := Lib.hid b
        clear a b
        cases hc : (c == 11)
      all_goals
        go_wp2_with (first | (go_at_call 15; refine (leap_yes _ _ HK.out).mono ?_; rintro e w' ⟨rfl, rfl⟩; rw [HA.out]) | (go_at_call 14; refine (reflength y 12 (by omega) (by omega) _).mono ?_; rintro e w' ⟨rfl, rfl⟩; rw [HB.out]))
        go_ret
        exact ⟨rfl, hb1⟩
theorem leaps_walk (y : Int) (w : World) :
    Calls Try.prog 7 #[.int .i64 y] w fun e w' => e = .returned (.bool true) ∧ Gr w w' := by
  cases h : knB y
  · exact leaps_far y w h
  · obtain ⟨h1, h2⟩ := knB_iff.1 h
    by_cases h3 : y ≤ 19971
    · exact leaps_in y w h1 h3
    · exact leaps_end y w (by omega) h2
end Go.Proofs.Ytbaokfbefklikaa.Isl
