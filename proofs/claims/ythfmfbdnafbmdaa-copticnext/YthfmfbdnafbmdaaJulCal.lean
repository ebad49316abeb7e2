/- Plain mathematics of the Julian calendar: its months are those of the Gregorian year 4 or 1. -/
import Derived.Test.YthfmfbdnafbmdaaCal
namespace Go.Proofs.Ythfmfbdnafbmdaa.Jul
open Cal (dayB dayB_iff)

def rep (y : Int) : Int := if y % 4 = 0 then 4 else 1
def dby (y : Int) : Int := 365 * (y - 1) + (y - 1) / 4 - 2
def len (y m : Int) : Int := Cal.dim (rep y) m
def num (y m d : Int) : Int := dby y + Cal.cum (rep y) m + d
def yr (n : Int) : Int := ((n + 1) * 4 + 3) / 1461 + 1
def mon (n : Int) : Int := Cal.mo (rep (yr n)) (n - dby (yr n))
def dom (n : Int) : Int := n - dby (yr n) - Cal.cum (rep (yr n)) (mon n)

theorem lp4 : Cal.lp 4 = 1 := by decide
theorem lp1 : Cal.lp 1 = 0 := by decide
theorem lp_rep (y : Int) : (y % 4 = 0 ∧ Cal.lp (rep y) = 1) ∨ (y % 4 ≠ 0 ∧ Cal.lp (rep y) = 0) := by
  unfold rep; by_cases h : y % 4 = 0
  · rw [if_pos h]; exact Or.inl ⟨h, lp4⟩
  · rw [if_neg h]; exact Or.inr ⟨h, lp1⟩
theorem dby_succ (y : Int) : dby (y + 1) = dby y + 365 + Cal.lp (rep y) := by
  have e : y + 1 - 1 = y := by omega
  unfold dby; rw [e]; rcases lp_rep y with h | h <;> omega
theorem dby_mono {a b : Int} (h : a ≤ b) : dby a ≤ dby b := by unfold dby; omega
theorem dby_bdw {a : Int} (h0 : -40000 ≤ a) (h : a ≤ 40000) : -15000000 ≤ dby a ∧ dby a ≤ 15000000 := by unfold dby; omega
theorem yr_lo (n : Int) : dby (yr n) < n := by unfold yr dby; omega
theorem yr_hi (n : Int) : n ≤ dby (yr n + 1) := by unfold yr dby; omega
theorem yr_unique {n y : Int} (h1 : dby y < n) (h2 : n ≤ dby (y + 1)) : yr n = y := by
  have a := yr_lo n
  have b := yr_hi n
  by_cases c : yr n < y
  · have := dby_mono (a := yr n + 1) (b := y) (by omega); omega
  · by_cases d : y < yr n
    · have := dby_mono (a := y + 1) (b := yr n) (by omega); omega
    · omega
theorem yr_bd {n : Int} (h1 : 1 ≤ n) (h2 : n ≤ 3652059) : 1 ≤ yr n ∧ yr n ≤ 9999 := by unfold yr; omega

def ok (y m d : Int) : Bool := decide (1 ≤ d ∧ d ≤ len y m ∧ 1 ≤ num y m d ∧ num y m d ≤ 3652059)
theorem ok_iff {y m d : Int} : ok y m d = true ↔ (1 ≤ d ∧ d ≤ len y m ∧ 1 ≤ num y m d ∧ num y m d ≤ 3652059) := by unfold ok; simp
theorem ok_not {y m d : Int} (h : ok y m d = false) : ¬ (1 ≤ d ∧ d ≤ len y m ∧ 1 ≤ num y m d ∧ num y m d ≤ 3652059) := by rw [← ok_iff]; simp [h]
theorem len_month {y m d : Int} (h1 : 1 ≤ d) (h2 : d ≤ len y m) : 1 ≤ m ∧ m ≤ 12 := by
  by_cases hm : m < 1 ∨ 12 < m
  · unfold len at h2; rw [Cal.dim_out _ hm] at h2; omega
  · omega
theorem num_year {y m d : Int} (h1 : 1 ≤ d) (h2 : d ≤ len y m) : dby y < num y m d ∧ num y m d ≤ dby (y + 1) := by
  obtain ⟨m1, m2⟩ := len_month h1 h2
  have a := Cal.cum_succ (rep y) m1 m2
  have c := Cal.cum_bd (rep y) m1 (by omega)
  have e := dby_succ y
  have k : Cal.cum (rep y) (m + 1) ≤ 365 + Cal.lp (rep y) := by
    by_cases hm : m = 12
    · rw [hm]; have := Cal.cum_13 (rep y); show Cal.cum (rep y) 13 ≤ _; omega
    · have := Cal.cum_mono (rep y) (m := m + 1) (n := 13) (by omega); have := Cal.cum_13 (rep y); omega
  unfold num; unfold len at h2; omega
theorem ok_year {y m d : Int} (h : ok y m d = true) : 1 ≤ y ∧ y ≤ 9999 := by
  obtain ⟨h1, h2, h3, h4⟩ := ok_iff.1 h
  obtain ⟨a, b⟩ := num_year h1 h2
  unfold dby at a b; omega
theorem ok_day {y m d : Int} (h : ok y m d = true) : dayB (num y m d) = true := dayB_iff.2 (by have := ok_iff.1 h; omega)
theorem uniq {y m d : Int} (h : ok y m d = true) : yr (num y m d) = y ∧ mon (num y m d) = m ∧ dom (num y m d) = d := by
  obtain ⟨h1, h2, _, _⟩ := ok_iff.1 h
  obtain ⟨m1, m2⟩ := len_month h1 h2
  obtain ⟨a, b⟩ := num_year h1 h2
  have hy := yr_unique a b
  have s := Cal.cum_succ (rep y) m1 m2
  unfold len at h2
  have hm : mon (num y m d) = m := by unfold mon; rw [hy]; exact Cal.mo_unique m1 m2 (by unfold num; omega) (by unfold num; omega)
  exact ⟨hy, hm, by unfold dom; rw [hm, hy]; unfold num; omega⟩
theorem mon_spec (n : Int) : 1 ≤ mon n ∧ mon n ≤ 12 ∧ Cal.cum (rep (yr n)) (mon n) < n - dby (yr n) ∧ n - dby (yr n) ≤ Cal.cum (rep (yr n)) (mon n + 1) := by
  have lo := yr_lo n
  have hi := yr_hi n
  have e := dby_succ (yr n)
  have c13 := Cal.cum_13 (rep (yr n))
  obtain ⟨m, m1, m2, a, b⟩ := Cal.mo_ex (y := rep (yr n)) (r := n - dby (yr n)) (by omega) (by omega)
  have e : mon n = m := Cal.mo_unique m1 m2 a b
  rw [e]; exact ⟨m1, m2, a, b⟩
theorem spec {n : Int} (h : dayB n = true) : ok (yr n) (mon n) (dom n) = true ∧ num (yr n) (mon n) (dom n) = n := by
  obtain ⟨n1, n2⟩ := dayB_iff.1 h
  obtain ⟨m1, m2, a, b⟩ := mon_spec n
  have s := Cal.cum_succ (rep (yr n)) m1 m2
  have hnum : num (yr n) (mon n) (dom n) = n := by unfold num dom; omega
  refine ⟨ok_iff.2 ⟨?_, ?_, by omega, by omega⟩, hnum⟩
  · unfold dom; omega
  · unfold len dom; omega
theorem next {n : Int} (h : dayB n = true) (h' : dayB (n + 1) = true) :
    (yr (n + 1) = yr n ∧ mon (n + 1) = mon n ∧ dom (n + 1) = dom n + 1) ∨ (¬ (yr (n + 1) = yr n ∧ mon (n + 1) = mon n) ∧ dom (n + 1) = 1 ∧ dom n = len (yr n) (mon n)) := by
  obtain ⟨s, e⟩ := spec h
  obtain ⟨d1, d2, _, _⟩ := ok_iff.1 s
  obtain ⟨m1, m2⟩ := len_month d1 d2
  obtain ⟨k1, k2⟩ := dayB_iff.1 h'
  have c := Cal.cum_succ (rep (yr n)) m1 m2
  by_cases a : dom n < len (yr n) (mon n)
  · have en : num (yr n) (mon n) (dom n + 1) = n + 1 := by unfold num at *; omega
    have u := uniq (y := yr n) (m := mon n) (d := dom n + 1) (ok_iff.2 (by rw [en]; omega))
    rw [en] at u; exact Or.inl u
  · have a' : dom n = len (yr n) (mon n) := by omega
    by_cases b : mon n < 12
    · have en : num (yr n) (mon n + 1) 1 = n + 1 := by unfold num len at *; omega
      have l := Cal.dim_lo (rep (yr n)) (m := mon n + 1) (by omega) (by omega)
      have u := uniq (y := yr n) (m := mon n + 1) (d := 1) (ok_iff.2 (by rw [en]; unfold len; omega))
      rw [en] at u; exact Or.inr ⟨by omega, u.2.2, a'⟩
    · have e12 : mon n = 12 := by omega
      rw [e12] at c e a'
      have c1 := Cal.cum_1 (rep (yr n + 1))
      have c13 := Cal.cum_13 (rep (yr n))
      have e13 : Cal.cum (rep (yr n)) (12 + 1) = Cal.cum (rep (yr n)) 13 := rfl
      have d := dby_succ (yr n)
      have en : num (yr n + 1) 1 1 = n + 1 := by unfold num len at *; omega
      have l := Cal.dim_lo (rep (yr n + 1)) (m := 1) (by omega) (by omega)
      have u := uniq (y := yr n + 1) (m := 1) (d := 1) (ok_iff.2 (by rw [en]; unfold len; omega))
      rw [en] at u; exact Or.inr ⟨by omega, u.2.2, by rw [e12]; exact a'⟩
theorem zero_no : ok 0 0 0 = false := by decide
theorem len_bd (y m : Int) : 0 ≤ len y m ∧ len y m ≤ 31 := Cal.dim_bd _ _
theorem jlen2 {y : Int} (h : y % 4 = 0) : len y 2 = 29 := by
  unfold len rep; rw [if_pos h]; decide
theorem jlen_other {y m : Int} (h : ¬ (m = 2 ∧ y % 4 = 0)) : Cal.dim y m = len y m := by
  unfold len
  by_cases hm : m = 2
  · have h4 : y % 4 ≠ 0 := fun k => h ⟨hm, k⟩
    have l : Cal.lpB y = false := by
      cases hl : Cal.lpB y
      · rfl
      · rw [Cal.lpB_iff] at hl; omega
    unfold rep; rw [if_neg h4]; unfold Cal.dim; rw [if_pos hm, if_pos hm, Cal.lp_f l, lp1]
  · unfold Cal.dim; rw [if_neg hm, if_neg hm]
end Go.Proofs.Ythfmfbdnafbmdaa.Jul
