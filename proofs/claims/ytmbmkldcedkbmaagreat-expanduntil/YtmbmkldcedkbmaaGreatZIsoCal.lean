/- Plain mathematics of weeks and of ISO week dates. -/
import Derived.Test.YtmbmkldcedkbmaaGreatZB
namespace Go.Proofs.YtmbmkldcedkbmaaGreat.Iso
open Cal (dayB dayB_iff)

/- the day with which week 1 of a year begins, of weeks that begin with the weekday s -/
def w1 (y s : Int) : Int := Cal.dby y + 4 - (Cal.dby y + 4 - s) % 7
theorem w1_bd (y s : Int) : Cal.dby y - 2 ≤ w1 y s ∧ w1 y s ≤ Cal.dby y + 4 := by unfold w1; omega
theorem w1_mod (y : Int) {s : Int} (h0 : 0 ≤ s) (h1 : s ≤ 6) : w1 y s % 7 = s := by unfold w1; omega
theorem w1_of {y s n : Int} (lo : Cal.dby y - 2 ≤ n) (hi : n ≤ Cal.dby y + 4) (h : n % 7 = s) : n = w1 y s := by unfold w1; omega
theorem w1_step (y : Int) {s : Int} (h0 : 0 ≤ s) (h1 : s ≤ 6) : w1 (y + 1) s = w1 y s + 364 ∨ w1 (y + 1) s = w1 y s + 371 := by
  have a := w1_bd y s
  have b := w1_bd (y + 1) s
  have c := w1_mod y h0 h1
  have d := w1_mod (y + 1) h0 h1
  have e := Cal.dby_succ y
  have f := Cal.lp_01 y
  omega
theorem dby_lt {a b : Int} (h : a < b) : Cal.dby a + 365 ≤ Cal.dby b := by
  have := Cal.dby_mono (a := a + 1) (b := b) (by omega)
  have := Cal.dby_succ a
  have := Cal.lp_01 a
  omega
theorem w1_lt {a b : Int} (s : Int) (h : a < b) : w1 a s + 359 ≤ w1 b s := by
  have := dby_lt h
  have := w1_bd a s
  have := w1_bd b s
  omega
theorem w1_bdw (s : Int) {a : Int} (h0 : -40000 ≤ a) (h : a ≤ 40000) : -15000100 ≤ w1 a s ∧ w1 a s ≤ 15000100 := by
  have := Cal.dby_bdw h0 h
  have := w1_bd a s
  omega

/- the year of a day's week, and the week's number -/
def wy (s n : Int) : Int := if n < w1 (Cal.yr n) s then Cal.yr n - 1 else if w1 (Cal.yr n + 1) s ≤ n then Cal.yr n + 1 else Cal.yr n
def wn (s n : Int) : Int := (n - w1 (wy s n) s) / 7 + 1
theorem wy_spec (s n : Int) : w1 (wy s n) s ≤ n ∧ n < w1 (wy s n + 1) s := by
  have lo := Cal.yr_lo n
  have hi := Cal.yr_hi n
  unfold wy
  by_cases a : n < w1 (Cal.yr n) s
  · rw [if_pos a]
    have e : Cal.yr n - 1 + 1 = Cal.yr n := by omega
    rw [e]
    have := w1_bd (Cal.yr n - 1) s
    have := dby_lt (a := Cal.yr n - 1) (b := Cal.yr n) (by omega)
    omega
  · rw [if_neg a]
    by_cases b : w1 (Cal.yr n + 1) s ≤ n
    · rw [if_pos b]
      have := w1_bd (Cal.yr n + 1 + 1) s
      have := dby_lt (a := Cal.yr n + 1) (b := Cal.yr n + 1 + 1) (by omega)
      omega
    · rw [if_neg b]; omega
theorem wy_near (s n : Int) : Cal.yr n - 1 ≤ wy s n ∧ wy s n ≤ Cal.yr n + 1 := by
  unfold wy; split
  · omega
  · split <;> omega
theorem wy_unique {s n y : Int} (h1 : w1 y s ≤ n) (h2 : n < w1 (y + 1) s) : wy s n = y := by
  have a := wy_spec s n
  by_cases c : wy s n < y
  · by_cases e : wy s n + 1 = y
    · rw [e] at a; omega
    · have := w1_lt s (a := wy s n + 1) (b := y) (by omega); omega
  · by_cases d : y < wy s n
    · by_cases e : y + 1 = wy s n
      · rw [← e] at a; omega
      · have := w1_lt s (a := y + 1) (b := wy s n) (by omega); omega
    · omega

def dby (y : Int) : Int := w1 y 1 - 1
def M (y : Int) : Int := (w1 (y + 1) 1 - w1 y 1) / 7
def len (y m : Int) : Int := if m < 1 ∨ M y < m then 0 else 7
def num (y m d : Int) : Int := dby y + 7 * (m - 1) + d
def yr (n : Int) : Int := wy 1 n
def mon (n : Int) : Int := (n - 1 - dby (yr n)) / 7 + 1
def dom (n : Int) : Int := (n - 1 - dby (yr n)) % 7 + 1

theorem dby_mod (y : Int) : dby y % 7 = 0 := by have := w1_mod y (s := 1) (by omega) (by omega); unfold dby; omega
theorem M_cases (y : Int) : (M y = 52 ∧ dby (y + 1) = dby y + 364) ∨ (M y = 53 ∧ dby (y + 1) = dby y + 371) := by
  have := w1_step y (s := 1) (by omega) (by omega)
  unfold M dby; omega
theorem dby_succ (y : Int) : dby (y + 1) = dby y + 7 * M y := by have := M_cases y; omega
theorem dby_lt' {a b : Int} (h : a < b) : dby a + 359 ≤ dby b := by have := w1_lt 1 h; unfold dby; omega
theorem dby_1 : dby 1 = 0 := by decide
theorem dby_10000 : dby 10000 = 3652061 := by decide
theorem dby_15000 : 5000000 ≤ dby 15000 := by decide
theorem dby_0 : dby 0 = -364 := by decide
theorem dby_bdw {a : Int} (h0 : -40000 ≤ a) (h : a ≤ 40000) : -20000000 ≤ dby a ∧ dby a ≤ 20000000 := by have := w1_bdw 1 h0 h; unfold dby; omega
theorem yr_lo (n : Int) : dby (yr n) < n := by have := wy_spec 1 n; unfold dby yr; omega
theorem yr_hi (n : Int) : n ≤ dby (yr n + 1) := by have := wy_spec 1 n; unfold dby yr; omega
theorem yr_unique {n y : Int} (h1 : dby y < n) (h2 : n ≤ dby (y + 1)) : yr n = y := by
  unfold dby at h1 h2; exact wy_unique (by omega) (by omega)
theorem in_year {n y : Int} (h1 : dby y < n) (h2 : n ≤ dby (y + 1)) (n1 : 1 ≤ n) (n2 : n ≤ 3652059) : 1 ≤ y ∧ y ≤ 9999 := by
  have a := dby_1
  have b := dby_10000
  constructor
  · by_cases c : 1 ≤ y
    · exact c
    · by_cases e : y = 0
      · subst e; simp only [Int.zero_add] at h2; omega
      · have := dby_lt' (a := y + 1) (b := 1) (by omega); omega
  · by_cases c : y ≤ 9999
    · exact c
    · by_cases e : y = 10000
      · subst e; omega
      · have := dby_lt' (a := 10000) (b := y) (by omega); omega
theorem yr_bd {n : Int} (h1 : 1 ≤ n) (h2 : n ≤ 3652059) : 1 ≤ yr n ∧ yr n ≤ 9999 := in_year (yr_lo n) (yr_hi n) h1 h2
theorem len_cases (y m : Int) : ((m < 1 ∨ M y < m) ∧ len y m = 0) ∨ (1 ≤ m ∧ m ≤ M y ∧ len y m = 7) := by
  unfold len; by_cases h : m < 1 ∨ M y < m
  · rw [if_pos h]; exact Or.inl ⟨h, rfl⟩
  · rw [if_neg h]; exact Or.inr ⟨by omega, by omega, rfl⟩
theorem len_bd (y m : Int) : 0 ≤ len y m ∧ len y m ≤ 30 := by have := len_cases y m; omega

def ok (y m d : Int) : Bool := decide (1 ≤ d ∧ d ≤ len y m ∧ 1 ≤ num y m d ∧ num y m d ≤ 3652059)
theorem ok_iff {y m d : Int} : ok y m d = true ↔ (1 ≤ d ∧ d ≤ len y m ∧ 1 ≤ num y m d ∧ num y m d ≤ 3652059) := by unfold ok; simp
theorem ok_not {y m d : Int} (h : ok y m d = false) : ¬ (1 ≤ d ∧ d ≤ len y m ∧ 1 ≤ num y m d ∧ num y m d ≤ 3652059) := by rw [← ok_iff]; simp [h]
theorem len_month {y m d : Int} (h1 : 1 ≤ d) (h2 : d ≤ len y m) : 1 ≤ m ∧ m ≤ M y := by have := len_cases y m; omega
theorem num_year {y m d : Int} (h1 : 1 ≤ d) (h2 : d ≤ len y m) : dby y < num y m d ∧ num y m d ≤ dby (y + 1) := by
  have e := dby_succ y
  have l := len_cases y m
  unfold num; omega
theorem ok_year {y m d : Int} (h : ok y m d = true) : 1 ≤ y ∧ y ≤ 9999 := by
  obtain ⟨h1, h2, h3, h4⟩ := ok_iff.1 h
  obtain ⟨a, b⟩ := num_year h1 h2
  exact in_year a b h3 h4
theorem ok_day {y m d : Int} (h : ok y m d = true) : dayB (num y m d) = true := dayB_iff.2 (by have := ok_iff.1 h; omega)
theorem uniq {y m d : Int} (h : ok y m d = true) : yr (num y m d) = y ∧ mon (num y m d) = m ∧ dom (num y m d) = d := by
  obtain ⟨h1, h2, _, _⟩ := ok_iff.1 h
  obtain ⟨a, b⟩ := num_year h1 h2
  have hy := yr_unique a b
  have l := len_cases y m
  refine ⟨hy, ?_, ?_⟩
  · unfold mon; rw [hy]; unfold num; omega
  · unfold dom; rw [hy]; unfold num; omega
theorem spec {n : Int} (h : dayB n = true) : ok (yr n) (mon n) (dom n) = true ∧ num (yr n) (mon n) (dom n) = n := by
  obtain ⟨n1, n2⟩ := dayB_iff.1 h
  have lo := yr_lo n
  have hi := yr_hi n
  have e := dby_succ (yr n)
  have hnum : num (yr n) (mon n) (dom n) = n := by unfold num mon dom; omega
  have l := len_cases (yr n) (mon n)
  have hm : mon n = (n - 1 - dby (yr n)) / 7 + 1 := rfl
  have hd : dom n = (n - 1 - dby (yr n)) % 7 + 1 := rfl
  exact ⟨ok_iff.2 ⟨by omega, by omega, by omega, by omega⟩, hnum⟩
theorem next {n : Int} (h : dayB n = true) (h' : dayB (n + 1) = true) :
    (yr (n + 1) = yr n ∧ mon (n + 1) = mon n ∧ dom (n + 1) = dom n + 1) ∨ (¬ (yr (n + 1) = yr n ∧ mon (n + 1) = mon n) ∧ dom (n + 1) = 1 ∧ dom n = len (yr n) (mon n)) := by
  obtain ⟨s, e⟩ := spec h
  obtain ⟨d1, d2, _, _⟩ := ok_iff.1 s
  obtain ⟨m1, m2⟩ := len_month d1 d2
  obtain ⟨k1, k2⟩ := dayB_iff.1 h'
  by_cases a : dom n < len (yr n) (mon n)
  · have en : num (yr n) (mon n) (dom n + 1) = n + 1 := by unfold num at *; omega
    have u := uniq (y := yr n) (m := mon n) (d := dom n + 1) (ok_iff.2 (by rw [en]; omega))
    rw [en] at u; exact Or.inl u
  · have a' : dom n = len (yr n) (mon n) := by omega
    have l := len_cases (yr n) (mon n)
    by_cases b : mon n < M (yr n)
    · have en : num (yr n) (mon n + 1) 1 = n + 1 := by unfold num at *; omega
      have l2 := len_cases (yr n) (mon n + 1)
      have u := uniq (y := yr n) (m := mon n + 1) (d := 1) (ok_iff.2 (by rw [en]; omega))
      rw [en] at u; exact Or.inr ⟨by omega, u.2.2, a'⟩
    · have d := dby_succ (yr n)
      have en : num (yr n + 1) 1 1 = n + 1 := by unfold num at *; omega
      have l2 := len_cases (yr n + 1) 1
      have c2 := M_cases (yr n + 1)
      have u := uniq (y := yr n + 1) (m := 1) (d := 1) (ok_iff.2 (by rw [en]; omega))
      rw [en] at u; exact Or.inr ⟨by omega, u.2.2, a'⟩
theorem zero_no : ok 0 0 0 = false := by decide
end Go.Proofs.YtmbmkldcedkbmaaGreat.Iso
