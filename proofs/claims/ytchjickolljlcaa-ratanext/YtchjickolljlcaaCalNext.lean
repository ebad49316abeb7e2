/- The date of the day behind a day. -/
import Derived.Test.YtchjickolljlcaaCal
namespace Go.Proofs.Ytchjickolljlcaa.Cal

/- the day behind a day -/
theorem next_day {n : Int} (h : dayB n = true) (a : dom n < dim (yr n) (mon n)) : yr (n + 1) = yr n ∧ mon (n + 1) = mon n ∧ dom (n + 1) = dom n + 1 := by
  obtain ⟨s, e⟩ := date_spec h
  rw [okB_iff] at s
  exact date_unique (by rw [okB_iff]; omega) (by unfold num at *; omega)
theorem next_month {n : Int} (h : dayB n = true) (a : dim (yr n) (mon n) ≤ dom n) (b : mon n < 12) : yr (n + 1) = yr n ∧ mon (n + 1) = mon n + 1 ∧ dom (n + 1) = 1 := by
  obtain ⟨s, e⟩ := date_spec h
  obtain ⟨m1, m2⟩ := okB_month s
  rw [okB_iff] at s
  have c := cum_succ (yr n) m1 m2
  have l := dim_lo (yr n) (m := mon n + 1) (by omega) (by omega)
  exact date_unique (by rw [okB_iff]; omega) (by unfold num at *; omega)
theorem next_year {n : Int} (h : dayB n = true) (h' : dayB (n + 1) = true) (a : dim (yr n) (mon n) ≤ dom n) (b : ¬ mon n < 12) : yr (n + 1) = yr n + 1 ∧ mon (n + 1) = 1 ∧ dom (n + 1) = 1 := by
  obtain ⟨s, e⟩ := date_spec h
  obtain ⟨m1, m2⟩ := okB_month s
  rw [okB_iff] at s
  have c := cum_succ (yr n) m1 m2
  have c1 := cum_1 (yr n + 1)
  have c13 := cum_13 (yr n)
  have d := dby_succ (yr n)
  have e12 : mon n = 12 := by omega
  rw [e12] at c e s
  have e13 : cum (yr n) (12 + 1) = cum (yr n) 13 := rfl
  have l := dim_lo (yr n + 1) (m := 1) (by omega) (by omega)
  have en : dby (yr n + 1) + 1 = n + 1 := by unfold num at e; rw [e12] at a; omega
  have y9 : yr n + 1 ≤ 9999 := by
    by_cases z : yr n = 9999
    · rw [z] at en; have := dby_10000; rw [dayB_iff] at h'; have z2 : dby (9999 + 1) = dby 10000 := rfl; omega
    · omega
  exact date_unique (by rw [okB_iff]; omega) (by unfold num; omega)
end Go.Proofs.Ytchjickolljlcaa.Cal
