/- Plain mathematics of the Gregorian calendar: leap years, lengths of months, days before a year and before a month. -/
namespace Go.Proofs.YtafpdiikhhikeaaGreatDoor.Cal

def lpB (y : Int) : Bool := decide (y % 4 = 0 ∧ (y % 100 ≠ 0 ∨ y % 400 = 0))
def lp (y : Int) : Int := if lpB y = true then 1 else 0
def dby (y : Int) : Int := 365 * (y - 1) + (y - 1) / 4 - (y - 1) / 100 + (y - 1) / 400
def dim (y m : Int) : Int :=
  if m = 2 then 28 + lp y else if m = 4 ∨ m = 6 ∨ m = 9 ∨ m = 11 then 30 else if 1 ≤ m ∧ m ≤ 12 then 31 else 0
def cum (y m : Int) : Int := (367 * m - 362) / 12 - (if m ≤ 2 then 0 else 2 - lp y)
def num (y m d : Int) : Int := dby y + cum y m + d

theorem lp_01 (y : Int) : 0 ≤ lp y ∧ lp y ≤ 1 := by unfold lp; split <;> omega
theorem lpB_iff (y : Int) : lpB y = true ↔ (y % 4 = 0 ∧ (y % 100 ≠ 0 ∨ y % 400 = 0)) := by unfold lpB; simp
theorem lp_t {y : Int} (h : lpB y = true) : lp y = 1 := by unfold lp; rw [if_pos h]
theorem lp_f {y : Int} (h : lpB y = false) : lp y = 0 := by unfold lp; rw [if_neg (by simp [h])]
theorem dby_succ (y : Int) : dby (y + 1) = dby y + 365 + lp y := by
  have e : y + 1 - 1 = y := by omega
  unfold dby; rw [e]
  by_cases h : lpB y = true
  · rw [lp_t h]; rw [lpB_iff] at h; omega
  · have h' : lpB y = false := by simpa using h
    rw [lp_f h']; rw [lpB_iff] at h; omega
theorem dby_mono {a b : Int} (h : a ≤ b) : dby a ≤ dby b := by unfold dby; omega
theorem dby_bd {a : Int} (h0 : 1 ≤ a) (h : a ≤ 20000) : 0 ≤ dby a ∧ dby a ≤ 7305000 := by unfold dby; omega
theorem dby_bdw {a : Int} (h0 : -40000 ≤ a) (h : a ≤ 40000) : -15000000 ≤ dby a ∧ dby a ≤ 15000000 := by unfold dby; omega
theorem dby_1 : dby 1 = 0 := by decide
theorem dby_10000 : dby 10000 = 3652059 := by decide
theorem months {m : Int} (h1 : 1 ≤ m) (h2 : m ≤ 12) : m = 1 ∨ m = 2 ∨ m = 3 ∨ m = 4 ∨ m = 5 ∨ m = 6 ∨ m = 7 ∨ m = 8 ∨ m = 9 ∨ m = 10 ∨ m = 11 ∨ m = 12 := by omega
theorem cum_1 (y : Int) : cum y 1 = 0 := by unfold cum; simp
theorem cum_13 (y : Int) : cum y 13 = 365 + lp y := by unfold cum; simp; omega
theorem cum_succ (y : Int) {m : Int} (h1 : 1 ≤ m) (h2 : m ≤ 12) : cum y (m + 1) = cum y m + dim y m := by
  have := lp_01 y
  rcases months h1 h2 with h | h | h | h | h | h | h | h | h | h | h | h <;> subst h <;> simp [cum, dim] <;> omega
theorem dim_bd (y m : Int) : 0 ≤ dim y m ∧ dim y m ≤ 31 := by
  have := lp_01 y; unfold dim; split
  · omega
  · split
    · omega
    · split <;> omega
theorem dim_lo (y : Int) {m : Int} (h1 : 1 ≤ m) (h2 : m ≤ 12) : 28 ≤ dim y m := by
  have := lp_01 y
  rcases months h1 h2 with h | h | h | h | h | h | h | h | h | h | h | h <;> subst h <;> simp [dim] <;> omega
theorem dim_out (y : Int) {m : Int} (h : m < 1 ∨ 12 < m) : dim y m = 0 := by
  unfold dim; rw [if_neg (by omega), if_neg (by omega), if_neg (by omega)]
theorem cum_bd (y : Int) {m : Int} (h1 : 1 ≤ m) (h2 : m ≤ 13) : 0 ≤ cum y m ∧ cum y m ≤ 366 := by
  have := lp_01 y; unfold cum; split <;> omega
theorem cum_mono (y : Int) {m n : Int} (h : m < n) : cum y m + 28 ≤ cum y n := by
  have := lp_01 y
  unfold cum; split <;> split <;> omega

/- a date is right -/
def okB (y m d : Int) : Bool := decide (1 ≤ y ∧ y ≤ 9999 ∧ 1 ≤ d ∧ d ≤ dim y m)
theorem okB_iff {y m d : Int} : okB y m d = true ↔ (1 ≤ y ∧ y ≤ 9999 ∧ 1 ≤ d ∧ d ≤ dim y m) := by unfold okB; simp
theorem okB_month {y m d : Int} (h : okB y m d = true) : 1 ≤ m ∧ m ≤ 12 := by
  rw [okB_iff] at h
  by_cases hm : m < 1 ∨ 12 < m
  · rw [dim_out y hm] at h; omega
  · omega
theorem num_bd {y m d : Int} (h : okB y m d = true) : 1 ≤ num y m d ∧ num y m d ≤ 3652059 := by
  obtain ⟨m1, m2⟩ := okB_month h
  rw [okB_iff] at h
  have a := cum_succ y m1 m2
  have b := cum_bd y (m := m + 1) (by omega) (by omega)
  have c := cum_bd y m1 (by omega)
  have d1 := dby_bd (a := y) (by omega) (by omega)
  have e := dby_succ y
  have f := dby_mono (a := y + 1) (b := 10000) (by omega)
  have g := dby_10000
  have k : cum y (m + 1) ≤ 365 + lp y := by
    by_cases hm : m = 12
    · rw [hm]; have := cum_13 y; show cum y 13 ≤ _; omega
    · have := cum_mono y (m := m + 1) (n := 13) (by omega); have := cum_13 y; omega
  unfold num; omega

/- the year of a day -/
def guess (n : Int) : Int := (n - 1) * 400 / 146097 + 1
def yr (n : Int) : Int := if dby (guess n + 1) < n then guess n + 1 else guess n
theorem guess_bd {n : Int} (h1 : 1 ≤ n) (h2 : n ≤ 3652059) : 1 ≤ guess n ∧ guess n ≤ 9999 := by unfold guess; omega
theorem ex_lo (k : Int) : 400 * (k / 4 - k / 100 + k / 400) < 97 * k + 400 := by omega
theorem ex_hi (k : Int) : 97 * k - 800 < 400 * (k / 4 - k / 100 + k / 400) := by omega
theorem guess_lo (n : Int) : dby (guess n) < n := by
  have e : guess n - 1 = (n - 1) * 400 / 146097 := by unfold guess; omega
  unfold dby; rw [e]
  have := ex_lo ((n - 1) * 400 / 146097)
  generalize hk : (n - 1) * 400 / 146097 = k at *
  have : 146097 * k ≤ (n - 1) * 400 := by omega
  omega
theorem guess_hi (n : Int) : n ≤ dby (guess n + 2) := by
  have e : guess n + 2 - 1 = (n - 1) * 400 / 146097 + 2 := by unfold guess; omega
  unfold dby; rw [e]
  generalize hk : (n - 1) * 400 / 146097 = k at *
  have : (n - 1) * 400 < 146097 * (k + 1) := by omega
  have := ex_hi (k + 2)
  omega
theorem yr_lo (n : Int) : dby (yr n) < n := by
  unfold yr; split
  · assumption
  · exact guess_lo n
theorem yr_hi (n : Int) : n ≤ dby (yr n + 1) := by
  unfold yr; split
  · have := guess_hi n; rwa [show guess n + 1 + 1 = guess n + 2 by omega]
  · omega
theorem yr_bd {n : Int} (h1 : 1 ≤ n) (h2 : n ≤ 3652059) : 1 ≤ yr n ∧ yr n ≤ 9999 := by
  have g := guess_bd h1 h2
  have a := yr_lo n
  constructor
  · unfold yr; split <;> omega
  · have d := dby_10000
    by_cases h : 10000 ≤ yr n
    · have := dby_mono h; omega
    · omega
theorem yr_unique {n y : Int} (h1 : dby y < n) (h2 : n ≤ dby (y + 1)) : yr n = y := by
  have a := yr_lo n
  have b := yr_hi n
  by_cases c : yr n < y
  · have := dby_mono (a := yr n + 1) (b := y) (by omega); omega
  · by_cases d : y < yr n
    · have := dby_mono (a := y + 1) (b := yr n) (by omega); omega
    · omega
def dayB (n : Int) : Bool := decide (1 ≤ n ∧ n ≤ 3652059)
theorem dayB_iff {n : Int} : dayB n = true ↔ (1 ≤ n ∧ n ≤ 3652059) := by unfold dayB; simp

/- the date of a day -/
def mo (y r : Int) : Int :=
  if r ≤ cum y 2 then 1 else if r ≤ cum y 3 then 2 else if r ≤ cum y 4 then 3 else if r ≤ cum y 5 then 4 else if r ≤ cum y 6 then 5 else if r ≤ cum y 7 then 6
  else if r ≤ cum y 8 then 7 else if r ≤ cum y 9 then 8 else if r ≤ cum y 10 then 9 else if r ≤ cum y 11 then 10 else if r ≤ cum y 12 then 11 else 12
def mon (n : Int) : Int := mo (yr n) (n - dby (yr n))
def dom (n : Int) : Int := n - dby (yr n) - cum (yr n) (mon n)
theorem mo_bd (y r : Int) : 1 ≤ mo y r ∧ mo y r ≤ 12 := by
  unfold mo; repeat' split
  all_goals omega
theorem mo_unique {y r m : Int} (h1 : 1 ≤ m) (h2 : m ≤ 12) (a : cum y m < r) (b : r ≤ cum y (m + 1)) : mo y r = m := by
  have l := lp_01 y
  have key : ∀ k, k < m → ¬ r ≤ cum y (k + 1) := by
    intro k hk
    by_cases e : k + 1 = m
    · rw [e]; omega
    · have := cum_mono y (m := k + 1) (n := m) (by omega); omega
  have k1 := key 1; have k2 := key 2; have k3 := key 3; have k4 := key 4; have k5 := key 5; have k6 := key 6
  have k7 := key 7; have k8 := key 8; have k9 := key 9; have k10 := key 10; have k11 := key 11
  clear key
  rcases months h1 h2 with h | h | h | h | h | h | h | h | h | h | h | h <;> subst h <;> simp at k1 k2 k3 k4 k5 k6 k7 k8 k9 k10 k11 a b <;> unfold mo
  · rw [if_pos b]
  · rw [if_neg (by omega), if_pos b]
  · rw [if_neg (by omega), if_neg (by omega), if_pos b]
  · rw [if_neg (by omega), if_neg (by omega), if_neg (by omega), if_pos b]
  · rw [if_neg (by omega), if_neg (by omega), if_neg (by omega), if_neg (by omega), if_pos b]
  · rw [if_neg (by omega), if_neg (by omega), if_neg (by omega), if_neg (by omega), if_neg (by omega), if_pos b]
  · rw [if_neg (by omega), if_neg (by omega), if_neg (by omega), if_neg (by omega), if_neg (by omega), if_neg (by omega), if_pos b]
  · rw [if_neg (by omega), if_neg (by omega), if_neg (by omega), if_neg (by omega), if_neg (by omega), if_neg (by omega), if_neg (by omega), if_pos b]
  · rw [if_neg (by omega), if_neg (by omega), if_neg (by omega), if_neg (by omega), if_neg (by omega), if_neg (by omega), if_neg (by omega), if_neg (by omega), if_pos b]
  · rw [if_neg (by omega), if_neg (by omega), if_neg (by omega), if_neg (by omega), if_neg (by omega), if_neg (by omega), if_neg (by omega), if_neg (by omega), if_neg (by omega), if_pos b]
  · rw [if_neg (by omega), if_neg (by omega), if_neg (by omega), if_neg (by omega), if_neg (by omega), if_neg (by omega), if_neg (by omega), if_neg (by omega), if_neg (by omega), if_neg (by omega), if_pos b]
  · rw [if_neg (by omega), if_neg (by omega), if_neg (by omega), if_neg (by omega), if_neg (by omega), if_neg (by omega), if_neg (by omega), if_neg (by omega), if_neg (by omega), if_neg (by omega), if_neg (by omega)]
theorem mo_ex {y r : Int} (a : 0 < r) (b : r ≤ cum y 13) : ∃ m, 1 ≤ m ∧ m ≤ 12 ∧ cum y m < r ∧ r ≤ cum y (m + 1) := by
  have c1 := cum_1 y
  by_cases h2 : r ≤ cum y 2
  · exact ⟨1, by omega, by omega, by omega, h2⟩
  by_cases h3 : r ≤ cum y 3
  · exact ⟨2, by omega, by omega, by omega, h3⟩
  by_cases h4 : r ≤ cum y 4
  · exact ⟨3, by omega, by omega, by omega, h4⟩
  by_cases h5 : r ≤ cum y 5
  · exact ⟨4, by omega, by omega, by omega, h5⟩
  by_cases h6 : r ≤ cum y 6
  · exact ⟨5, by omega, by omega, by omega, h6⟩
  by_cases h7 : r ≤ cum y 7
  · exact ⟨6, by omega, by omega, by omega, h7⟩
  by_cases h8 : r ≤ cum y 8
  · exact ⟨7, by omega, by omega, by omega, h8⟩
  by_cases h9 : r ≤ cum y 9
  · exact ⟨8, by omega, by omega, by omega, h9⟩
  by_cases h10 : r ≤ cum y 10
  · exact ⟨9, by omega, by omega, by omega, h10⟩
  by_cases h11 : r ≤ cum y 11
  · exact ⟨10, by omega, by omega, by omega, h11⟩
  by_cases h12 : r ≤ cum y 12
  · exact ⟨11, by omega, by omega, by omega, h12⟩
  exact ⟨12, by omega, by omega, by omega, b⟩
theorem date_unique {y m d n : Int} (h : okB y m d = true) (hn : num y m d = n) : yr n = y ∧ mon n = m ∧ dom n = d := by
  obtain ⟨m1, m2⟩ := okB_month h
  rw [okB_iff] at h
  have a := cum_succ y m1 m2
  have c := cum_bd y m1 (by omega)
  have e := dby_succ y
  have k : cum y (m + 1) ≤ 365 + lp y := by
    by_cases hm : m = 12
    · rw [hm]; have := cum_13 y; show cum y 13 ≤ _; omega
    · have := cum_mono y (m := m + 1) (n := 13) (by omega); have := cum_13 y; omega
  unfold num at hn
  have hy : yr n = y := yr_unique (by omega) (by omega)
  have hm : mon n = m := by unfold mon; rw [hy]; exact mo_unique m1 m2 (by omega) (by omega)
  exact ⟨hy, hm, by unfold dom; rw [hm, hy]; omega⟩
theorem date_spec {n : Int} (h : dayB n = true) : okB (yr n) (mon n) (dom n) = true ∧ num (yr n) (mon n) (dom n) = n := by
  obtain ⟨n1, n2⟩ := dayB_iff.1 h
  have yb := yr_bd n1 n2
  have lo := yr_lo n
  have hi := yr_hi n
  have e := dby_succ (yr n)
  have c13 := cum_13 (yr n)
  have c1 := cum_1 (yr n)
  have hnum : num (yr n) (mon n) (dom n) = n := by unfold num dom; omega
  refine ⟨?_, hnum⟩
  have mb := mo_bd (yr n) (n - dby (yr n))
  have s : cum (yr n) (mon n) < n - dby (yr n) ∧ n - dby (yr n) ≤ cum (yr n) (mon n + 1) := by
    obtain ⟨m, m1, m2, a, b⟩ := mo_ex (y := yr n) (r := n - dby (yr n)) (by omega) (by omega)
    have e : mon n = m := mo_unique m1 m2 a b
    rw [e]; exact ⟨a, b⟩
  have a := cum_succ (yr n) (m := mon n) (by unfold mon; omega) (by unfold mon; omega)
  rw [okB_iff]; unfold dom; omega
end Go.Proofs.YtafpdiikhhikeaaGreatDoor.Cal
