/- Plain mathematics of the tabular Islamic calendar. -/
import Derived.Test.YtbaokfbefklikaaCal
namespace Go.Proofs.Ytbaokfbefklikaa.Isl
open Cal (dayB dayB_iff months)

def lpB (y : Int) : Bool := decide ((14 + 11 * y) % 30 < 11)
theorem lpB_iff {y : Int} : lpB y = true ↔ (14 + 11 * y) % 30 < 11 := by unfold lpB; simp
def lp (y : Int) : Int := if lpB y = true then 1 else 0
theorem lp_cases (y : Int) : ((14 + 11 * y) % 30 < 11 ∧ lpB y = true ∧ lp y = 1) ∨ (¬ (14 + 11 * y) % 30 < 11 ∧ lpB y = false ∧ lp y = 0) := by
  unfold lp; cases h : lpB y
  · exact Or.inr ⟨by rw [← lpB_iff, h]; simp, rfl, by simp⟩
  · exact Or.inl ⟨lpB_iff.1 h, rfl, by simp⟩
theorem lp_01 (y : Int) : 0 ≤ lp y ∧ lp y ≤ 1 := by have := lp_cases y; omega

def dby (y : Int) : Int := 227014 + 354 * (y - 1) + (3 + 11 * y) / 30
def cum (m : Int) : Int := 29 * (m - 1) + (6 * m - 1) / 11
def len (y m : Int) : Int := if m < 1 ∨ 12 < m then 0 else if m % 2 = 1 then 30 else if m = 12 then 29 + lp y else 29
def num (y m d : Int) : Int := dby y + cum m + d
def yr (n : Int) : Int := ((n - 227015) * 30 + 15) / 10631 + 1
def mon (n : Int) : Int := (11 * (n - 1 - dby (yr n)) + 330) / 325
def dom (n : Int) : Int := n - dby (yr n) - cum (mon n)

theorem dby_succ (y : Int) : dby (y + 1) = dby y + 354 + lp y := by
  have l := lp_cases y
  have e : 3 + 11 * (y + 1) = 14 + 11 * y := by omega
  unfold dby; rw [e]; omega
theorem dby_mono {a b : Int} (h : a ≤ b) : dby a ≤ dby b := by unfold dby; omega
theorem dby_bdw {a : Int} (h0 : -40000 ≤ a) (h : a ≤ 40000) : -20000000 ≤ dby a ∧ dby a ≤ 20000000 := by unfold dby; omega
theorem yr_lo (n : Int) : dby (yr n) < n := by unfold yr dby; omega
theorem yr_hi (n : Int) : n ≤ dby (yr n + 1) := by unfold yr dby; omega
theorem yr_unique {n y : Int} (h1 : dby y < n) (h2 : n ≤ dby (y + 1)) : yr n = y := by
  have a := yr_lo n
  have b := yr_hi n
  by_cases c : yr n < y
  · have := dby_mono (a := yr n + 1) (b := y) (by omega); omega
  · by_cases d : y < yr n
    · have := dby_mono (a := y + 1) (b := yr n) (by omega); omega
    · omega
theorem yr_bd {n : Int} (h1 : 1 ≤ n) (h2 : n ≤ 3652059) : -700 ≤ yr n ∧ yr n ≤ 9999 := by unfold yr; omega
theorem len_cases (y m : Int) : ((m < 1 ∨ 12 < m) ∧ len y m = 0) ∨ (1 ≤ m ∧ m ≤ 11 ∧ m % 2 = 1 ∧ len y m = 30) ∨ (1 ≤ m ∧ m ≤ 11 ∧ m % 2 = 0 ∧ len y m = 29) ∨ (m = 12 ∧ len y m = 29 + lp y) := by
  unfold len; by_cases h : m < 1 ∨ 12 < m
  · rw [if_pos h]; exact Or.inl ⟨h, rfl⟩
  · rw [if_neg h]; by_cases h2 : m % 2 = 1
    · rw [if_pos h2]; exact Or.inr (Or.inl ⟨by omega, by omega, h2, rfl⟩)
    · rw [if_neg h2]; by_cases h3 : m = 12
      · rw [if_pos h3]; exact Or.inr (Or.inr (Or.inr ⟨h3, rfl⟩))
      · rw [if_neg h3]; exact Or.inr (Or.inr (Or.inl ⟨by omega, by omega, by omega, rfl⟩))
theorem len_bd (y m : Int) : 0 ≤ len y m ∧ len y m ≤ 30 := by have := len_cases y m; have := lp_01 y; omega
theorem cum_1 : cum 1 = 0 := by decide
theorem cum_12 : cum 12 = 325 := by decide
theorem cum_bd {m : Int} (h1 : 1 ≤ m) (h2 : m ≤ 12) : 0 ≤ cum m ∧ cum m ≤ 325 := by unfold cum; omega
/- the months of a year follow each other -/
theorem cum_succ (y : Int) {m : Int} (h1 : 1 ≤ m) (h2 : m < 12) : cum (m + 1) = cum m + len y m := by
  have l := len_cases y m
  have : m = 1 ∨ m = 2 ∨ m = 3 ∨ m = 4 ∨ m = 5 ∨ m = 6 ∨ m = 7 ∨ m = 8 ∨ m = 9 ∨ m = 10 ∨ m = 11 := by omega
  rcases this with h | h | h | h | h | h | h | h | h | h | h <;> subst h <;> simp [cum] <;> omega
theorem cum_end (y : Int) {m : Int} (h1 : 1 ≤ m) (h2 : m ≤ 12) : cum m + len y m ≤ 354 + lp y := by
  have l := len_cases y m
  have := lp_01 y
  by_cases h : m = 12
  · subst h; rw [cum_12]; omega
  · have := cum_succ y h1 (by omega)
    have := cum_bd (m := m + 1) (by omega) (by omega)
    omega
/- the month of the rest of a year's days -/
theorem mo_unique {y m r : Int} (h1 : 1 ≤ m) (h2 : m ≤ 12) (a : cum m ≤ r) (b : r < cum m + len y m) : (11 * r + 330) / 325 = m := by
  have l := len_cases y m
  have lb := lp_01 y
  rcases months h1 h2 with h | h | h | h | h | h | h | h | h | h | h | h <;> subst h <;> simp [cum] at a b <;> omega
theorem mo_ex {y r : Int} (a : 0 ≤ r) (b : r < 354 + lp y) : ∃ m, 1 ≤ m ∧ m ≤ 12 ∧ cum m ≤ r ∧ r < cum m + len y m := by
  have lb := lp_01 y
  refine ⟨(11 * r + 330) / 325, by omega, by omega, ?_⟩
  have l := len_cases y ((11 * r + 330) / 325)
  generalize hm : (11 * r + 330) / 325 = m at *
  have h1 : 1 ≤ m := by omega
  have h2 : m ≤ 12 := by omega
  rcases months h1 h2 with h | h | h | h | h | h | h | h | h | h | h | h <;> subst h <;> simp [cum] <;> omega

def ok (y m d : Int) : Bool := decide (1 ≤ d ∧ d ≤ len y m ∧ 1 ≤ num y m d ∧ num y m d ≤ 3652059)
theorem ok_iff {y m d : Int} : ok y m d = true ↔ (1 ≤ d ∧ d ≤ len y m ∧ 1 ≤ num y m d ∧ num y m d ≤ 3652059) := by unfold ok; simp
theorem ok_not {y m d : Int} (h : ok y m d = false) : ¬ (1 ≤ d ∧ d ≤ len y m ∧ 1 ≤ num y m d ∧ num y m d ≤ 3652059) := by rw [← ok_iff]; simp [h]
theorem len_month {y m d : Int} (h1 : 1 ≤ d) (h2 : d ≤ len y m) : 1 ≤ m ∧ m ≤ 12 := by have := len_cases y m; omega
theorem num_year {y m d : Int} (h1 : 1 ≤ d) (h2 : d ≤ len y m) : dby y < num y m d ∧ num y m d ≤ dby (y + 1) := by
  obtain ⟨m1, m2⟩ := len_month h1 h2
  have e := dby_succ y
  have c := cum_end y m1 m2
  have b := cum_bd m1 m2
  unfold num; omega
theorem ok_year {y m d : Int} (h : ok y m d = true) : -700 ≤ y ∧ y ≤ 9999 := by
  obtain ⟨h1, h2, h3, h4⟩ := ok_iff.1 h
  obtain ⟨a, b⟩ := num_year h1 h2
  unfold dby at a b; omega
theorem ok_day {y m d : Int} (h : ok y m d = true) : dayB (num y m d) = true := dayB_iff.2 (by have := ok_iff.1 h; omega)
theorem uniq {y m d : Int} (h : ok y m d = true) : yr (num y m d) = y ∧ mon (num y m d) = m ∧ dom (num y m d) = d := by
  obtain ⟨h1, h2, _, _⟩ := ok_iff.1 h
  obtain ⟨m1, m2⟩ := len_month h1 h2
  obtain ⟨a, b⟩ := num_year h1 h2
  have hy := yr_unique a b
  have hm : mon (num y m d) = m := by unfold mon; rw [hy]; exact mo_unique (y := y) m1 m2 (by unfold num; omega) (by unfold num; omega)
  exact ⟨hy, hm, by unfold dom; rw [hm, hy]; unfold num; omega⟩
theorem mon_spec (n : Int) : 1 ≤ mon n ∧ mon n ≤ 12 ∧ cum (mon n) ≤ n - 1 - dby (yr n) ∧ n - 1 - dby (yr n) < cum (mon n) + len (yr n) (mon n) := by
  have lo := yr_lo n
  have hi := yr_hi n
  have e := dby_succ (yr n)
  obtain ⟨m, m1, m2, a, b⟩ := mo_ex (y := yr n) (r := n - 1 - dby (yr n)) (by omega) (by omega)
  have e : mon n = m := mo_unique m1 m2 a b
  rw [e]; exact ⟨m1, m2, a, b⟩
theorem spec {n : Int} (h : dayB n = true) : ok (yr n) (mon n) (dom n) = true ∧ num (yr n) (mon n) (dom n) = n := by
  obtain ⟨n1, n2⟩ := dayB_iff.1 h
  obtain ⟨m1, m2, a, b⟩ := mon_spec n
  have hnum : num (yr n) (mon n) (dom n) = n := by unfold num dom; omega
  refine ⟨ok_iff.2 ⟨?_, ?_, by omega, by omega⟩, hnum⟩
  · unfold dom; omega
  · unfold dom; omega
theorem next {n : Int} (h : dayB n = true) (h' : dayB (n + 1) = true) :
    (yr (n + 1) = yr n ∧ mon (n + 1) = mon n ∧ dom (n + 1) = dom n + 1) ∨ (¬ (yr (n + 1) = yr n ∧ mon (n + 1) = mon n) ∧ dom (n + 1) = 1 ∧ dom n = len (yr n) (mon n)) := by
  obtain ⟨s, e⟩ := spec h
  obtain ⟨d1, d2, _, _⟩ := ok_iff.1 s
  obtain ⟨m1, m2⟩ := len_month d1 d2
  obtain ⟨k1, k2⟩ := dayB_iff.1 h'
  by_cases a : dom n < len (yr n) (mon n)
  · have en : num (yr n) (mon n) (dom n + 1) = n + 1 := by unfold num at *; omega
    have u := uniq (y := yr n) (m := mon n) (d := dom n + 1) (ok_iff.2 (by rw [en]; omega))
    rw [en] at u; exact Or.inl u
  · have a' : dom n = len (yr n) (mon n) := by omega
    by_cases b : mon n < 12
    · have c := cum_succ (yr n) m1 b
      have en : num (yr n) (mon n + 1) 1 = n + 1 := by unfold num at *; omega
      have l2 := len_cases (yr n) (mon n + 1)
      have := lp_01 (yr n)
      have u := uniq (y := yr n) (m := mon n + 1) (d := 1) (ok_iff.2 (by rw [en]; omega))
      rw [en] at u; exact Or.inr ⟨by omega, u.2.2, a'⟩
    · have e12 : mon n = 12 := by omega
      have d := dby_succ (yr n)
      have l := len_cases (yr n) 12
      have c12 := cum_12
      have c1 := cum_1
      rw [e12] at a' e
      have en : num (yr n + 1) 1 1 = n + 1 := by unfold num at *; omega
      have l2 := len_cases (yr n + 1) 1
      have u := uniq (y := yr n + 1) (m := 1) (d := 1) (ok_iff.2 (by rw [en]; omega))
      rw [en] at u; exact Or.inr ⟨by omega, u.2.2, by rw [e12]; exact a'⟩
theorem zero_no : ok 0 0 0 = false := by decide
end Go.Proofs.Ytbaokfbefklikaa.Isl
