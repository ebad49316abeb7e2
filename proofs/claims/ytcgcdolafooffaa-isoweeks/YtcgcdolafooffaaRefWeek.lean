/- What the reference's Week1 returns. -/
import Derived.Test.YtcgcdolafooffaaRefGreg
import Derived.Test.YtcgcdolafooffaaIsoCal
namespace Go.Proofs.Ytcgcdolafooffaa.Iso
open Go.RowKit

theorem new1 (y : Int) : Cal.num y 1 1 = Cal.dby y + 1 := by unfold Cal.num; rw [Cal.cum_1]; omega
set_option maxHeartbeats 1000000 in
theorem week1_any (y s : Int) (w : World) (y1 : -40000 ≤ y) (y2 : y ≤ 40000) (s0 : 0 ≤ s) (s1 : s ≤ 6) :
    Calls Try.prog 18 #[.int .i64 y, .int .i64 s] w fun e w' => e = .returned (.int .i64 (w1 y s)) ∧ w = w' := by
  have b := Cal.dby_bdw y1 y2
  have HN := Lib.hid (new1 y)
  have HU : Hid (∀ n, Cal.dby y - 2 ≤ n → n ≤ Cal.dby y + 4 → n % 7 = s → n = w1 y s) := fun n a b c => w1_of a b c
  have HB := Lib.hid (w1_bd y s)
  have HM := Lib.hid (w1_mod y s0 s1)
  go_enter Try.func18, Try.ntmps18
  go_wp2_with fail
  refine (greg_any _ _ _ _ y1 y2 (by omega) (by omega) (by omega) (by omega)).mono ?_
  rintro e w' ⟨rfl, rfl⟩
  rw [HN.out]
  go_wp2
  go_loop [5] (fun t => ∃ k : Int, Cal.dby y - 2 ≤ k ∧ k ≤ w1 y s ∧ t = .int .i64 k) (fun t => (w1 y s - intOf t).toNat)
  case atStart => exact ⟨Cal.dby y + 1 - 3, by omega, by have := HB.out; omega, rfl⟩
  case round =>
    obtain ⟨k, k1, k2, rfl⟩ := hrel
    have k3 : k ≤ Cal.dby y + 4 := by have := HB.out; omega
    by_cases hk : k % 7 = s
    · obtain rfl := HU.out k k1 k3 hk
      go_wp2_with fail
      refine (mod_any _ _ _ (by omega) (by omega) (by omega) (by omega)).mono ?_
      rintro e w' ⟨rfl, rfl⟩
      rw [HM.out]
      go_wp2
      go_ret
      exact ⟨rfl, rfl⟩
    · have hk' : (k % 7 == s) = false := by simpa using hk
      have k4 : k < w1 y s := by
        by_cases e : k = w1 y s
        · exact absurd (by rw [e]; exact HM.out) hk
        · omega
      go_wp2_with fail
      refine (mod_any _ _ _ (by omega) (by omega) (by omega) (by omega)).mono ?_
      rintro e w' ⟨rfl, rfl⟩
      go_wp2
      go_round
      case rel => exact ⟨k + 1, by omega, by omega, rfl⟩
      case measure => simp [intOf]; omega
end Go.Proofs.Ytcgcdolafooffaa.Iso
