/- Plain mathematics of the Coptic calendar. -/
import Derived.Test.YthfmfbdnafbmdaaCal
namespace Go.Proofs.Ythfmfbdnafbmdaa.Cop
open Cal (dayB dayB_iff)

def dby (y : Int) : Int := 103604 + 365 * (y - 1) + y / 4
def len (y m : Int) : Int := if m < 1 ∨ 13 < m then 0 else if m ≤ 12 then 30 else if y % 4 = 3 then 6 else 5
def num (y m d : Int) : Int := dby y + 30 * (m - 1) + d
def yr (n : Int) : Int := ((n - 103605) * 4 + 2) / 1461 + 1
def mon (n : Int) : Int := (n - 1 - dby (yr n)) / 30 + 1
def dom (n : Int) : Int := (n - 1 - dby (yr n)) % 30 + 1

theorem dby_succ (y : Int) : dby (y + 1) = dby y + 360 + len y 13 := by
  have e : y + 1 - 1 = y := by omega
  have l : (y % 4 = 3 ∧ len y 13 = 6) ∨ (y % 4 ≠ 3 ∧ len y 13 = 5) := by
    unfold len; rw [if_neg (by omega), if_neg (by omega)]; by_cases h : y % 4 = 3
    · rw [if_pos h]; exact Or.inl ⟨h, rfl⟩
    · rw [if_neg h]; exact Or.inr ⟨h, rfl⟩
  unfold dby; rw [e]; omega
theorem dby_mono {a b : Int} (h : a ≤ b) : dby a ≤ dby b := by unfold dby; omega
theorem dby_bdw {a : Int} (h0 : -40000 ≤ a) (h : a ≤ 40000) : -20000000 ≤ dby a ∧ dby a ≤ 20000000 := by unfold dby; omega
theorem yr_lo (n : Int) : dby (yr n) < n := by unfold yr dby; omega
theorem yr_hi (n : Int) : n ≤ dby (yr n + 1) := by unfold yr dby; omega
theorem yr_unique {n y : Int} (h1 : dby y < n) (h2 : n ≤ dby (y + 1)) : yr n = y := by
  have a := yr_lo n
  have b := yr_hi n
  by_cases c : yr n < y
  · have := dby_mono (a := yr n + 1) (b := y) (by omega); omega
  · by_cases d : y < yr n
    · have := dby_mono (a := y + 1) (b := yr n) (by omega); omega
    · omega
theorem yr_bd {n : Int} (h1 : 1 ≤ n) (h2 : n ≤ 3652059) : -300 ≤ yr n ∧ yr n ≤ 9999 := by unfold yr; omega
theorem len_cases (y m : Int) : ((m < 1 ∨ 13 < m) ∧ len y m = 0) ∨ (1 ≤ m ∧ m ≤ 12 ∧ len y m = 30) ∨ (m = 13 ∧ 5 ≤ len y m ∧ len y m ≤ 6) := by
  unfold len; by_cases h : m < 1 ∨ 13 < m
  · rw [if_pos h]; exact Or.inl ⟨h, rfl⟩
  · rw [if_neg h]; by_cases h2 : m ≤ 12
    · rw [if_pos h2]; exact Or.inr (Or.inl ⟨by omega, h2, rfl⟩)
    · rw [if_neg h2]; refine Or.inr (Or.inr ⟨by omega, ?_⟩); split <;> omega
theorem len_bd (y m : Int) : 0 ≤ len y m ∧ len y m ≤ 30 := by have := len_cases y m; omega

def ok (y m d : Int) : Bool := decide (1 ≤ d ∧ d ≤ len y m ∧ 1 ≤ num y m d ∧ num y m d ≤ 3652059)
theorem ok_iff {y m d : Int} : ok y m d = true ↔ (1 ≤ d ∧ d ≤ len y m ∧ 1 ≤ num y m d ∧ num y m d ≤ 3652059) := by unfold ok; simp
theorem ok_not {y m d : Int} (h : ok y m d = false) : ¬ (1 ≤ d ∧ d ≤ len y m ∧ 1 ≤ num y m d ∧ num y m d ≤ 3652059) := by rw [← ok_iff]; simp [h]
theorem len_month {y m d : Int} (h1 : 1 ≤ d) (h2 : d ≤ len y m) : 1 ≤ m ∧ m ≤ 13 := by have := len_cases y m; omega
theorem num_year {y m d : Int} (h1 : 1 ≤ d) (h2 : d ≤ len y m) : dby y < num y m d ∧ num y m d ≤ dby (y + 1) := by
  have e := dby_succ y
  have l := len_cases y m
  have l13 := len_cases y 13
  unfold num
  rcases l with l | l | ⟨rfl, l⟩ <;> omega
theorem ok_year {y m d : Int} (h : ok y m d = true) : -300 ≤ y ∧ y ≤ 9999 := by
  obtain ⟨h1, h2, h3, h4⟩ := ok_iff.1 h
  obtain ⟨a, b⟩ := num_year h1 h2
  unfold dby at a b; omega
theorem ok_day {y m d : Int} (h : ok y m d = true) : dayB (num y m d) = true := dayB_iff.2 (by have := ok_iff.1 h; omega)
theorem uniq {y m d : Int} (h : ok y m d = true) : yr (num y m d) = y ∧ mon (num y m d) = m ∧ dom (num y m d) = d := by
  obtain ⟨h1, h2, _, _⟩ := ok_iff.1 h
  obtain ⟨a, b⟩ := num_year h1 h2
  have hy := yr_unique a b
  have l := len_bd y m
  refine ⟨hy, ?_, ?_⟩
  · unfold mon; rw [hy]; unfold num; omega
  · unfold dom; rw [hy]; unfold num; omega
theorem spec {n : Int} (h : dayB n = true) : ok (yr n) (mon n) (dom n) = true ∧ num (yr n) (mon n) (dom n) = n := by
  obtain ⟨n1, n2⟩ := dayB_iff.1 h
  have lo := yr_lo n
  have hi := yr_hi n
  have e := dby_succ (yr n)
  have hnum : num (yr n) (mon n) (dom n) = n := by unfold num mon dom; omega
  have l13 := len_cases (yr n) 13
  have l := len_cases (yr n) (mon n)
  refine ⟨ok_iff.2 ⟨by unfold dom; omega, ?_, by omega, by omega⟩, hnum⟩
  have hm : mon n = (n - 1 - dby (yr n)) / 30 + 1 := rfl
  have hd : dom n = (n - 1 - dby (yr n)) % 30 + 1 := rfl
  rcases l with l | l | ⟨k, l⟩
  · omega
  · omega
  · rw [k]; omega
theorem next {n : Int} (h : dayB n = true) (h' : dayB (n + 1) = true) :
    (yr (n + 1) = yr n ∧ mon (n + 1) = mon n ∧ dom (n + 1) = dom n + 1) ∨ (¬ (yr (n + 1) = yr n ∧ mon (n + 1) = mon n) ∧ dom (n + 1) = 1 ∧ dom n = len (yr n) (mon n)) := by
  obtain ⟨s, e⟩ := spec h
  obtain ⟨d1, d2, _, _⟩ := ok_iff.1 s
  obtain ⟨m1, m2⟩ := len_month d1 d2
  obtain ⟨k1, k2⟩ := dayB_iff.1 h'
  by_cases a : dom n < len (yr n) (mon n)
  · have en : num (yr n) (mon n) (dom n + 1) = n + 1 := by unfold num at *; omega
    have u := uniq (y := yr n) (m := mon n) (d := dom n + 1) (ok_iff.2 (by rw [en]; omega))
    rw [en] at u; exact Or.inl u
  · have a' : dom n = len (yr n) (mon n) := by omega
    have l := len_cases (yr n) (mon n)
    by_cases b : mon n < 13
    · have en : num (yr n) (mon n + 1) 1 = n + 1 := by unfold num at *; omega
      have l2 := len_cases (yr n) (mon n + 1)
      have u := uniq (y := yr n) (m := mon n + 1) (d := 1) (ok_iff.2 (by rw [en]; omega))
      rw [en] at u; exact Or.inr ⟨by omega, u.2.2, a'⟩
    · have e13 : mon n = 13 := by omega
      have d := dby_succ (yr n)
      have en : num (yr n + 1) 1 1 = n + 1 := by rw [e13] at a' e; unfold num at *; omega
      have l2 := len_cases (yr n + 1) 1
      have u := uniq (y := yr n + 1) (m := 1) (d := 1) (ok_iff.2 (by rw [en]; omega))
      rw [en] at u; exact Or.inr ⟨by omega, u.2.2, a'⟩
theorem zero_no : ok 0 0 0 = false := by decide
end Go.Proofs.Ythfmfbdnafbmdaa.Cop
