/- Plain mathematics of the Hebrew calendar: the months of a year, and dates. -/
import Derived.Test.YthpdnlmjnfllcaaHebCal
namespace Go.Proofs.Ythpdnlmjnfllcaa.Heb
open Cal (dayB dayB_iff)

def mc (y : Int) : Int := if lpB y = true then 13 else 12
theorem mc_cases (y : Int) : (lpB y = true ∧ mc y = 13) ∨ (lpB y = false ∧ mc y = 12) := by
  unfold mc; cases h : lpB y
  · exact Or.inr ⟨rfl, by simp⟩
  · exact Or.inl ⟨rfl, by simp⟩
theorem mc_bd (y : Int) : 12 ≤ mc y ∧ mc y ≤ 13 := by have := mc_cases y; omega
def h8 (y : Int) : Int := if yl y = 355 ∨ yl y = 385 then 30 else 29
def h9 (y : Int) : Int := if yl y = 353 ∨ yl y = 383 then 29 else 30
theorem h8_cases (y : Int) : ((yl y = 355 ∨ yl y = 385) ∧ h8 y = 30) ∨ (yl y ≠ 355 ∧ yl y ≠ 385 ∧ h8 y = 29) := by unfold h8; split <;> omega
theorem h9_cases (y : Int) : ((yl y = 353 ∨ yl y = 383) ∧ h9 y = 29) ∨ (yl y ≠ 353 ∧ yl y ≠ 383 ∧ h9 y = 30) := by unfold h9; split <;> omega
theorem parts {y : Int} (h1 : 1 ≤ y) (h2 : y ≤ 20000) : (mc y = 13 ∧ yl y = 325 + h8 y + h9 y) ∨ (mc y = 12 ∧ yl y = 295 + h8 y + h9 y) := by
  have a := h8_cases y
  have b := h9_cases y
  rcases (yr_all h1 h2).days with ⟨l, d⟩ | ⟨l, d⟩
  · have m : mc y = 13 := by unfold mc; rw [l]; rfl
    omega
  · have m : mc y = 12 := by unfold mc; rw [l]; rfl
    omega
def hm (y m : Int) : Int := if m = 2 ∨ m = 4 ∨ m = 6 ∨ m = 10 ∨ m = 13 then 29 else if m = 12 then mc y + 17 else if m = 8 then h8 y else if m = 9 then h9 y else 30
def len (y m : Int) : Int := if y < 1 ∨ 20000 < y ∨ m < 1 ∨ mc y < m then 0 else hm y m
def cum (y m : Int) : Int := if m = 1 then yl y - 177 else if m = 2 then yl y - 147 else if m = 3 then yl y - 118 else if m = 4 then yl y - 88 else if m = 5 then yl y - 59 else if m = 6 then yl y - 29 else if m = 7 then 0 else if m = 8 then 30 else if m = 9 then 30 + h8 y else if m = 10 then 30 + h8 y + h9 y else if m = 11 then 59 + h8 y + h9 y else if m = 12 then 89 + h8 y + h9 y else 119 + h8 y + h9 y
theorem hm_cases (y m : Int) : ((m = 2 ∨ m = 4 ∨ m = 6 ∨ m = 10 ∨ m = 13) ∧ hm y m = 29) ∨ (m = 12 ∧ hm y m = mc y + 17) ∨ (m = 8 ∧ hm y m = h8 y) ∨ (m = 9 ∧ hm y m = h9 y) ∨ (¬ (m = 2 ∨ m = 4 ∨ m = 6 ∨ m = 10 ∨ m = 13 ∨ m = 12 ∨ m = 8 ∨ m = 9) ∧ hm y m = 30) := by
  unfold hm; split
  · omega
  · split
    · omega
    · split
      · omega
      · split <;> omega
theorem hm_bd (y m : Int) : 29 ≤ hm y m ∧ hm y m ≤ 30 := by have := hm_cases y m; have := h8_cases y; have := h9_cases y; have := mc_bd y; omega
theorem len_cases (y m : Int) : ((y < 1 ∨ 20000 < y ∨ m < 1 ∨ mc y < m) ∧ len y m = 0) ∨ (1 ≤ y ∧ y ≤ 20000 ∧ 1 ≤ m ∧ m ≤ mc y ∧ len y m = hm y m) := by unfold len; split <;> omega
theorem len_bd (y m : Int) : 0 ≤ len y m ∧ len y m ≤ 30 := by have := len_cases y m; have := hm_bd y m; omega
theorem tab {y m : Int} (h1 : 1 ≤ y) (h2 : y ≤ 20000) (m1 : 1 ≤ m) (m2 : m ≤ mc y) :
    (m = 1 ∧ len y m = 30 ∧ cum y m = yl y - 177) ∨ (m = 2 ∧ len y m = 29 ∧ cum y m = yl y - 147) ∨ (m = 3 ∧ len y m = 30 ∧ cum y m = yl y - 118) ∨ (m = 4 ∧ len y m = 29 ∧ cum y m = yl y - 88) ∨ (m = 5 ∧ len y m = 30 ∧ cum y m = yl y - 59) ∨ (m = 6 ∧ len y m = 29 ∧ cum y m = yl y - 29) ∨ (m = 7 ∧ len y m = 30 ∧ cum y m = 0) ∨ (m = 8 ∧ len y m = h8 y ∧ cum y m = 30) ∨ (m = 9 ∧ len y m = h9 y ∧ cum y m = 30 + h8 y) ∨ (m = 10 ∧ len y m = 29 ∧ cum y m = 30 + h8 y + h9 y) ∨ (m = 11 ∧ len y m = 30 ∧ cum y m = 59 + h8 y + h9 y) ∨ (m = 12 ∧ len y m = mc y + 17 ∧ cum y m = 89 + h8 y + h9 y) ∨ (m = 13 ∧ mc y = 13 ∧ len y m = 29 ∧ cum y m = 119 + h8 y + h9 y) := by
  have l : len y m = hm y m := by unfold len; rw [if_neg (by omega)]
  have b := mc_bd y
  rw [l]
  have c : m = 1 ∨ m = 2 ∨ m = 3 ∨ m = 4 ∨ m = 5 ∨ m = 6 ∨ m = 7 ∨ m = 8 ∨ m = 9 ∨ m = 10 ∨ m = 11 ∨ m = 12 ∨ (m = 13 ∧ mc y = 13) := by omega
  clear l
  rcases c with rfl | rfl | rfl | rfl | rfl | rfl | rfl | rfl | rfl | rfl | rfl | rfl | ⟨rfl, e⟩
  all_goals simp [hm, cum]
  exact e
/- the month that follows one -/
def nm (y m : Int) : Int := if m = mc y then 1 else m + 1
theorem nm_cases (y m : Int) : (m = mc y ∧ nm y m = 1) ∨ (m ≠ mc y ∧ nm y m = m + 1) := by unfold nm; split <;> omega
theorem nm_bd {y m : Int} (m1 : 1 ≤ m) (m2 : m ≤ mc y) : 1 ≤ nm y m ∧ nm y m ≤ mc y := by have := nm_cases y m; have := mc_bd y; omega
theorem cum_next {y m : Int} (h1 : 1 ≤ y) (h2 : y ≤ 20000) (m1 : 1 ≤ m) (m2 : m ≤ mc y) (m6 : m ≠ 6) : cum y (nm y m) = cum y m + len y m := by
  obtain ⟨a, b⟩ := nm_bd m1 m2
  have t := tab h1 h2 m1 m2
  have t' := tab h1 h2 a b
  have c := nm_cases y m
  have p := parts h1 h2
  omega
theorem cum_end {y m : Int} (h1 : 1 ≤ y) (h2 : y ≤ 20000) (m1 : 1 ≤ m) (m2 : m ≤ mc y) : 0 ≤ cum y m ∧ cum y m + len y m ≤ yl y ∧ (m = 6 → cum y m + len y m = yl y) := by
  have t := tab h1 h2 m1 m2
  have p := parts h1 h2
  have a := h8_cases y
  have b := h9_cases y
  omega
theorem len_lo {y m : Int} (h1 : 1 ≤ y) (h2 : y ≤ 20000) (m1 : 1 ≤ m) (m2 : m ≤ mc y) : 29 ≤ len y m := by
  have := len_cases y m; have := hm_bd y m; omega
theorem yl_bd {y : Int} (h1 : 1 ≤ y) (h2 : y ≤ 20000) : 353 ≤ yl y ∧ yl y ≤ 385 := by
  have p := parts h1 h2
  have a := h8_cases y
  have b := h9_cases y
  omega
/- the month of the rest of a year's days (a, b: the lengths of months 8 and 9, c: the year's) -/
def mox (a b c r : Int) : Int := if r < 30 then 7 else if r < 30 + a then 8 else if r < 30 + a + b then 9 else if r < 59 + a + b then 10 else if r < 89 + a + b then 11 else if r < 119 + a + b ∧ r < c - 177 then 12 else if r < c - 177 then 13 else if r < c - 147 then 1 else if r < c - 118 then 2 else if r < c - 88 then 3 else if r < c - 59 then 4 else if r < c - 29 then 5 else 6
theorem mox_cases (a b c r : Int) :
    (r < 30 ∧ mox a b c r = 7) ∨ (30 ≤ r ∧ r < 30 + a ∧ mox a b c r = 8) ∨ (30 + a ≤ r ∧ r < 30 + a + b ∧ mox a b c r = 9) ∨ (30 + a + b ≤ r ∧ r < 59 + a + b ∧ mox a b c r = 10) ∨ (59 + a + b ≤ r ∧ r < 89 + a + b ∧ mox a b c r = 11) ∨ (89 + a + b ≤ r ∧ r < 119 + a + b ∧ r < c - 177 ∧ mox a b c r = 12) ∨ (119 + a + b ≤ r ∧ r < c - 177 ∧ mox a b c r = 13) ∨ (c - 177 ≤ r ∧ r < c - 147 ∧ mox a b c r = 1) ∨ (c - 147 ≤ r ∧ r < c - 118 ∧ mox a b c r = 2) ∨ (c - 118 ≤ r ∧ r < c - 88 ∧ mox a b c r = 3) ∨ (c - 88 ≤ r ∧ r < c - 59 ∧ mox a b c r = 4) ∨ (c - 59 ≤ r ∧ r < c - 29 ∧ mox a b c r = 5) ∨ (c - 29 ≤ r ∧ mox a b c r = 6) := by
  unfold mox
  by_cases c0 : r < 30
  · rw [if_pos c0]; exact Or.inl ⟨by omega, rfl⟩
  rw [if_neg c0]
  refine Or.inr ?_
  by_cases c1 : r < 30 + a
  · rw [if_pos c1]; exact Or.inl ⟨by omega, by omega, rfl⟩
  rw [if_neg c1]
  refine Or.inr ?_
  by_cases c2 : r < 30 + a + b
  · rw [if_pos c2]; exact Or.inl ⟨by omega, by omega, rfl⟩
  rw [if_neg c2]
  refine Or.inr ?_
  by_cases c3 : r < 59 + a + b
  · rw [if_pos c3]; exact Or.inl ⟨by omega, by omega, rfl⟩
  rw [if_neg c3]
  refine Or.inr ?_
  by_cases c4 : r < 89 + a + b
  · rw [if_pos c4]; exact Or.inl ⟨by omega, by omega, rfl⟩
  rw [if_neg c4]
  refine Or.inr ?_
  by_cases c5 : r < 119 + a + b ∧ r < c - 177
  · rw [if_pos c5]; exact Or.inl ⟨by omega, by omega, by omega, rfl⟩
  rw [if_neg c5]
  refine Or.inr ?_
  by_cases c6 : r < c - 177
  · rw [if_pos c6]; exact Or.inl ⟨by omega, by omega, rfl⟩
  rw [if_neg c6]
  refine Or.inr ?_
  by_cases c7 : r < c - 147
  · rw [if_pos c7]; exact Or.inl ⟨by omega, by omega, rfl⟩
  rw [if_neg c7]
  refine Or.inr ?_
  by_cases c8 : r < c - 118
  · rw [if_pos c8]; exact Or.inl ⟨by omega, by omega, rfl⟩
  rw [if_neg c8]
  refine Or.inr ?_
  by_cases c9 : r < c - 88
  · rw [if_pos c9]; exact Or.inl ⟨by omega, by omega, rfl⟩
  rw [if_neg c9]
  refine Or.inr ?_
  by_cases c10 : r < c - 59
  · rw [if_pos c10]; exact Or.inl ⟨by omega, by omega, rfl⟩
  rw [if_neg c10]
  refine Or.inr ?_
  by_cases c11 : r < c - 29
  · rw [if_pos c11]; exact Or.inl ⟨by omega, by omega, rfl⟩
  rw [if_neg c11]
  refine Or.inr ?_
  exact ⟨by omega, rfl⟩
def mo (y r : Int) : Int := mox (h8 y) (h9 y) (yl y) r
theorem mo_unique {y m r : Int} (h1 : 1 ≤ y) (h2 : y ≤ 20000) (m1 : 1 ≤ m) (m2 : m ≤ mc y) (a : cum y m ≤ r) (b : r < cum y m + len y m) : mo y r = m := by
  have t := tab h1 h2 m1 m2
  have p := parts h1 h2
  have a8 := h8_cases y
  have a9 := h9_cases y
  have c := mox_cases (h8 y) (h9 y) (yl y) r
  have b8 : 29 ≤ h8 y ∧ h8 y ≤ 30 := by omega
  have b9 : 29 ≤ h9 y ∧ h9 y ≤ 30 := by omega
  clear a8 a9
  unfold mo
  generalize mox (h8 y) (h9 y) (yl y) r = x at *
  rcases t with t | t | t | t | t | t | t | t | t | t | t | t | t <;> omega
theorem mo_ex {y r : Int} (h1 : 1 ≤ y) (h2 : y ≤ 20000) (a : 0 ≤ r) (b : r < yl y) : 1 ≤ mo y r ∧ mo y r ≤ mc y ∧ cum y (mo y r) ≤ r ∧ r < cum y (mo y r) + len y (mo y r) := by
  have p := parts h1 h2
  have a8 := h8_cases y
  have a9 := h9_cases y
  have b8 : 29 ≤ h8 y ∧ h8 y ≤ 30 := by omega
  have b9 : 29 ≤ h9 y ∧ h9 y ≤ 30 := by omega
  have c := mox_cases (h8 y) (h9 y) (yl y) r
  clear a8 a9
  unfold mo
  generalize mox (h8 y) (h9 y) (yl y) r = x at *
  have mb := mc_bd y
  have x1 : 1 ≤ x := by omega
  have x2 : x ≤ mc y := by omega
  have t := tab h1 h2 x1 x2
  refine ⟨x1, x2, ?_⟩
  rcases t with t | t | t | t | t | t | t | t | t | t | t | t | t <;> omega
/- a step towards another month of the year -/
theorem step {y k m : Int} (h1 : 1 ≤ y) (h2 : y ≤ 20000) (k1 : 1 ≤ k) (k2 : k ≤ mc y) (m1 : 1 ≤ m) (m2 : m ≤ mc y) (h : cum y k ≤ cum y m) (ne : k ≠ m) : k ≠ 6 ∧ cum y k + len y k ≤ cum y m := by
  have l := len_lo h1 h2 m1 m2
  have e := cum_end h1 h2 m1 m2
  have e' := cum_end h1 h2 k1 k2
  have c : cum y k + len y k ≤ cum y m := by
    by_cases c : cum y m < cum y k + len y k
    · have u := mo_unique h1 h2 k1 k2 h c
      have u' := mo_unique h1 h2 m1 m2 (Int.le_refl _) (by omega)
      omega
    · omega
  exact ⟨by rintro rfl; omega, c⟩
def num (y m d : Int) : Int := ny y + cum y m + d - 1
def guess (n : Int) : Int := (n + 1373427 - 4) * 98496 / 35975351 + 1
def yr (n : Int) : Int := if ny (guess n + 1) ≤ n then guess n + 1 else guess n
def mon (n : Int) : Int := mo (yr n) (n - ny (yr n))
def dom (n : Int) : Int := n - ny (yr n) - cum (yr n) (mon n) + 1
theorem guess_of {n y : Int} (h1 : 1 ≤ y) (h2 : y ≤ 20000) (a : ny y ≤ n) (b : n < ny (y + 1)) : guess n = y - 1 ∨ guess n = y := by
  have lo := (yr_all h1 h2).lo
  have hi := (yr_all h1 h2).hi
  unfold guess
  generalize ny y = p at *
  generalize ny (y + 1) = q at *
  omega
theorem yr_unique {n y : Int} (h1 : 1 ≤ y) (h2 : y ≤ 20000) (a : ny y ≤ n) (b : n < ny (y + 1)) : yr n = y := by
  unfold yr
  rcases guess_of h1 h2 a b with e | e
  · rw [e, if_pos (by rw [show y - 1 + 1 = y by omega]; exact a)]; omega
  · rw [e, if_neg (by omega)]
theorem year_ex {f : Int → Int} {a n : Int} : ∀ j : Nat, f a ≤ n → n < f (a + (j : Int)) → ∃ y, a ≤ y ∧ y < a + (j : Int) ∧ f y ≤ n ∧ n < f (y + 1)
  | 0, h1, h2 => by rw [show a + ((0 : Nat) : Int) = a by omega] at h2; omega
  | j + 1, h1, h2 => by
    by_cases c : n < f (a + (j : Int))
    · obtain ⟨y, p, q, d⟩ := year_ex j h1 c
      exact ⟨y, p, by omega, d⟩
    · refine ⟨a + (j : Int), by omega, by omega, by omega, ?_⟩
      rw [show a + (j : Int) + 1 = a + ((j + 1 : Nat) : Int) by omega]; exact h2
theorem ends : ny 3000 ≤ 1 ∧ 3652059 < ny 15000 := by decide
theorem yr_spec {n : Int} (n1 : 1 ≤ n) (n2 : n ≤ 3652059) : 3000 ≤ yr n ∧ yr n < 15000 ∧ ny (yr n) ≤ n ∧ n < ny (yr n + 1) := by
  obtain ⟨e1, e2⟩ := ends
  have e3 : (3000 : Int) + ((12000 : Nat) : Int) = 15000 := by omega
  have ex := year_ex (f := ny) (a := 3000) (n := n) 12000
  rw [e3] at ex
  obtain ⟨y, a, b, c, d⟩ := ex (by omega) (by omega)
  have u := yr_unique (by omega) (by omega) c d
  rw [u]; exact ⟨a, b, c, d⟩
theorem yr_bd {n : Int} (h1 : 1 ≤ n) (h2 : n ≤ 3652059) : 3000 ≤ yr n ∧ yr n < 15000 := ⟨(yr_spec h1 h2).1, (yr_spec h1 h2).2.1⟩
def ok (y m d : Int) : Bool := decide (1 ≤ d ∧ d ≤ len y m ∧ 1 ≤ num y m d ∧ num y m d ≤ 3652059)
theorem ok_iff {y m d : Int} : ok y m d = true ↔ (1 ≤ d ∧ d ≤ len y m ∧ 1 ≤ num y m d ∧ num y m d ≤ 3652059) := by unfold ok; simp
theorem ok_not {y m d : Int} (h : ok y m d = false) : ¬ (1 ≤ d ∧ d ≤ len y m ∧ 1 ≤ num y m d ∧ num y m d ≤ 3652059) := by rw [← ok_iff]; simp [h]
theorem len_in {y m d : Int} (h1 : 1 ≤ d) (h2 : d ≤ len y m) : 1 ≤ y ∧ y ≤ 20000 ∧ 1 ≤ m ∧ m ≤ mc y := by have := len_cases y m; omega
theorem len_month {y m d : Int} (h1 : 1 ≤ d) (h2 : d ≤ len y m) : 1 ≤ m ∧ m ≤ 13 := by have := len_in h1 h2; have := mc_bd y; omega
theorem num_year {y m d : Int} (h1 : 1 ≤ d) (h2 : d ≤ len y m) : ny y ≤ num y m d ∧ num y m d < ny (y + 1) := by
  obtain ⟨y1, y2, m1, m2⟩ := len_in h1 h2
  have c := cum_end y1 y2 m1 m2
  unfold num; unfold yl at c; omega
theorem ok_year {y m d : Int} (h : ok y m d = true) : 3000 ≤ y ∧ y < 15000 := by
  obtain ⟨h1, h2, h3, h4⟩ := ok_iff.1 h
  obtain ⟨a, b⟩ := num_year h1 h2
  obtain ⟨y1, y2, _, _⟩ := len_in h1 h2
  have hy := yr_unique y1 y2 a b
  have := yr_bd h3 h4
  rw [hy] at this; exact this
theorem ok_day {y m d : Int} (h : ok y m d = true) : dayB (num y m d) = true := dayB_iff.2 (by have := ok_iff.1 h; omega)
theorem uniq {y m d : Int} (h : ok y m d = true) : yr (num y m d) = y ∧ mon (num y m d) = m ∧ dom (num y m d) = d := by
  obtain ⟨h1, h2, _, _⟩ := ok_iff.1 h
  obtain ⟨y1, y2, m1, m2⟩ := len_in h1 h2
  obtain ⟨a, b⟩ := num_year h1 h2
  have hy := yr_unique y1 y2 a b
  have hm : mon (num y m d) = m := by unfold mon; rw [hy]; exact mo_unique y1 y2 m1 m2 (by unfold num; omega) (by unfold num; omega)
  exact ⟨hy, hm, by unfold dom; rw [hm, hy]; unfold num; omega⟩
theorem mon_spec {n : Int} (n1 : 1 ≤ n) (n2 : n ≤ 3652059) : 1 ≤ mon n ∧ mon n ≤ mc (yr n) ∧ cum (yr n) (mon n) ≤ n - ny (yr n) ∧ n - ny (yr n) < cum (yr n) (mon n) + len (yr n) (mon n) := by
  obtain ⟨a, b, lo, hi⟩ := yr_spec n1 n2
  exact mo_ex (by omega) (by omega) (by omega) (by unfold yl; omega)
theorem spec {n : Int} (h : dayB n = true) : ok (yr n) (mon n) (dom n) = true ∧ num (yr n) (mon n) (dom n) = n := by
  obtain ⟨n1, n2⟩ := dayB_iff.1 h
  obtain ⟨m1, m2, a, b⟩ := mon_spec n1 n2
  have hnum : num (yr n) (mon n) (dom n) = n := by unfold num dom; omega
  refine ⟨ok_iff.2 ⟨?_, ?_, by omega, by omega⟩, hnum⟩
  · unfold dom; omega
  · unfold dom; omega
theorem next {n : Int} (h : dayB n = true) (h' : dayB (n + 1) = true) :
    (yr (n + 1) = yr n ∧ mon (n + 1) = mon n ∧ dom (n + 1) = dom n + 1) ∨ (¬ (yr (n + 1) = yr n ∧ mon (n + 1) = mon n) ∧ dom (n + 1) = 1 ∧ dom n = len (yr n) (mon n)) := by
  obtain ⟨s, e⟩ := spec h
  obtain ⟨d1, d2, _, _⟩ := ok_iff.1 s
  obtain ⟨y1, y2, m1, m2⟩ := len_in d1 d2
  have yb := ok_year s
  obtain ⟨k1, k2⟩ := dayB_iff.1 h'
  by_cases a : dom n < len (yr n) (mon n)
  · have en : num (yr n) (mon n) (dom n + 1) = n + 1 := by unfold num at *; omega
    have u := uniq (y := yr n) (m := mon n) (d := dom n + 1) (ok_iff.2 (by rw [en]; omega))
    rw [en] at u; exact Or.inl u
  · have a' : dom n = len (yr n) (mon n) := by omega
    by_cases b : mon n = 6
    · have c := (cum_end y1 y2 m1 m2).2.2 b
      unfold yl at c
      have mb := mc_bd (yr n + 1)
      have t := tab (y := yr n + 1) (m := 7) (by omega) (by omega) (by omega) (by omega)
      have en : num (yr n + 1) 7 1 = n + 1 := by unfold num at *; omega
      have u := uniq (y := yr n + 1) (m := 7) (d := 1) (ok_iff.2 (by rw [en]; omega))
      rw [en] at u; exact Or.inr ⟨by omega, u.2.2, a'⟩
    · obtain ⟨nb1, nb2⟩ := nm_bd m1 m2
      have c := cum_next y1 y2 m1 m2 b
      have l := len_lo y1 y2 nb1 nb2
      have en : num (yr n) (nm (yr n) (mon n)) 1 = n + 1 := by unfold num at *; omega
      have u := uniq (y := yr n) (m := nm (yr n) (mon n)) (d := 1) (ok_iff.2 (by rw [en]; omega))
      have nc := nm_cases (yr n) (mon n)
      have mb := mc_bd (yr n)
      rw [en] at u; exact Or.inr ⟨by omega, u.2.2, a'⟩
theorem zero_no : ok 0 0 0 = false := by decide
end Go.Proofs.Ythpdnlmjnfllcaa.Heb
