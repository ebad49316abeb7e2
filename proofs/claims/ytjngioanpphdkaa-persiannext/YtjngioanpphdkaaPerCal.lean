/- Plain mathematics of the arithmetic Persian calendar: years are counted by their place (no year 0), and a cycle of 2820 years begins with year 474. -/
import Derived.Test.YtjngioanpphdkaaCal
namespace Go.Proofs.Ytjngioanpphdkaa.Per
open Cal (dayB dayB_iff months)

/- the place of a year, the year of a place, the year behind one -/
def pl (y : Int) : Int := if y < 0 then y + 1 - 474 else y - 474
def yat (z : Int) : Int := if z + 474 < 1 then z + 474 - 1 else z + 474
def nx (y : Int) : Int := if y = -1 then 1 else y + 1
theorem pl_cases (y : Int) : (y < 0 ∧ pl y = y - 473) ∨ (0 ≤ y ∧ pl y = y - 474) := by unfold pl; split <;> omega
theorem yat_cases (z : Int) : (z < -473 ∧ yat z = z + 473) ∨ (-473 ≤ z ∧ yat z = z + 474) := by unfold yat; split <;> omega
theorem nx_cases (y : Int) : (y = -1 ∧ nx y = 1) ∨ (y ≠ -1 ∧ nx y = y + 1) := by unfold nx; split <;> omega
theorem pl_nx (y : Int) : pl (nx y) = pl y + 1 := by have := pl_cases y; have := nx_cases y; have := pl_cases (nx y); omega
theorem pl_yat (z : Int) : pl (yat z) = z := by have := yat_cases z; have := pl_cases (yat z); omega
theorem yat_pl {y : Int} (h : y ≠ 0) : yat (pl y) = y := by have := pl_cases y; have := yat_cases (pl y); omega
theorem yat_ne (z : Int) : yat z ≠ 0 := by have := yat_cases z; omega
theorem nx_ne (y : Int) : nx y ≠ 0 := by have := nx_cases y; omega

def zlpB (z : Int) : Bool := decide (31 * (z % 2820) % 128 < 31)
theorem zlpB_iff {z : Int} : zlpB z = true ↔ 31 * (z % 2820) % 128 < 31 := by unfold zlpB; simp
def zdb (z : Int) : Int := 399654 + z / 2820 * 1029983 + (365 * (z % 2820) + (31 * (z % 2820 - 1) + 128) / 128)
theorem up_cases (k : Int) : (31 * k % 128 < 31 ∧ (31 * k + 97) / 128 = 31 * k / 128 ∧ (31 * k + 128) / 128 = 31 * k / 128 + 1) ∨ (¬ 31 * k % 128 < 31 ∧ (31 * k + 97) / 128 = 31 * k / 128 + 1 ∧ (31 * k + 128) / 128 = 31 * k / 128 + 1) := by
  generalize 31 * k = x
  have : (x + 128) / 128 = x / 128 + 1 := by omega
  by_cases h : x % 128 < 31
  · have : (x + 97) / 128 = x / 128 := by omega
    omega
  · have : (x + 97) / 128 = x / 128 + 1 := by omega
    omega
def lpB (y : Int) : Bool := zlpB (pl y)
def lp (y : Int) : Int := if lpB y = true then 1 else 0
theorem lp_cases (y : Int) : (31 * (pl y % 2820) % 128 < 31 ∧ lpB y = true ∧ lp y = 1) ∨ (¬ 31 * (pl y % 2820) % 128 < 31 ∧ lpB y = false ∧ lp y = 0) := by
  unfold lp lpB; cases h : zlpB (pl y)
  · exact Or.inr ⟨by rw [← zlpB_iff, h]; simp, rfl, by simp⟩
  · exact Or.inl ⟨zlpB_iff.1 h, rfl, by simp⟩
theorem lp_01 (y : Int) : 0 ≤ lp y ∧ lp y ≤ 1 := by have := lp_cases y; omega
theorem zdb_succ (z : Int) : (31 * (z % 2820) % 128 < 31 ∧ zdb (z + 1) = zdb z + 366) ∨ (¬ 31 * (z % 2820) % 128 < 31 ∧ zdb (z + 1) = zdb z + 365) := by
  have h : (z % 2820 < 2819 ∧ (z + 1) / 2820 = z / 2820 ∧ (z + 1) % 2820 = z % 2820 + 1) ∨ (z % 2820 = 2819 ∧ (z + 1) / 2820 = z / 2820 + 1 ∧ (z + 1) % 2820 = 0) := by omega
  have g : 0 ≤ z % 2820 := by omega
  unfold zdb
  generalize (z + 1) / 2820 = q' at *
  generalize (z + 1) % 2820 = r' at *
  generalize z / 2820 = q at *
  generalize z % 2820 = r at *
  rcases h with ⟨h1, rfl, rfl⟩ | ⟨rfl, rfl, rfl⟩
  · have e : 31 * (r + 1 - 1) + 128 = 31 * r + 128 := by omega
    have e2 : 31 * (r - 1) + 128 = 31 * r + 97 := by omega
    rw [e, e2]
    have u := up_cases r
    generalize (31 * r + 97) / 128 = a at *
    generalize (31 * r + 128) / 128 = b at *
    omega
  · omega
theorem zdb_mono {a b : Int} (h : a ≤ b) : zdb a ≤ zdb b := by
  have ga : 0 ≤ a % 2820 ∧ a % 2820 < 2820 := by omega
  have gb : 0 ≤ b % 2820 ∧ b % 2820 < 2820 := by omega
  by_cases e : a / 2820 = b / 2820
  · have : a % 2820 ≤ b % 2820 := by omega
    unfold zdb; rw [e]; omega
  · have : a / 2820 + 1 ≤ b / 2820 := by omega
    unfold zdb; omega
theorem zdb_bd {a : Int} (h0 : -41000 ≤ a) (h : a ≤ 41000) : -20000000 ≤ zdb a ∧ zdb a ≤ 20000000 := by unfold zdb; omega

def dby (y : Int) : Int := zdb (pl y)
def cum (m : Int) : Int := if m ≤ 7 then 31 * (m - 1) else 30 * (m - 1) + 6
def len (y m : Int) : Int := if y = 0 ∨ m < 1 ∨ 12 < m then 0 else if m ≤ 6 then 31 else if m = 12 then 29 + lp y else 30
def num (y m d : Int) : Int := dby y + cum m + d
/- a day's place in its cycle, the place of its year, its year, its month -/
def zof (n : Int) : Int := (n - 399655) / 1029983 * 2820 + (128 * ((n - 399655) % 1029983) + 31 - 1) / 46751
def yr (n : Int) : Int := yat (zof n)
def mo (r : Int) : Int := if r < 186 then r / 31 + 1 else (r - 186) / 30 + 6 + 1
def mon (n : Int) : Int := mo (n - 1 - dby (yr n))
def dom (n : Int) : Int := n - dby (yr n) - cum (mon n)

theorem dby_nx (y : Int) : dby (nx y) = dby y + 365 + lp y := by
  have l := lp_cases y
  have s := zdb_succ (pl y)
  unfold dby; rw [pl_nx]; omega
theorem dby_bdw {a : Int} (h0 : -40000 ≤ a) (h : a ≤ 40000) : -20000000 ≤ dby a ∧ dby a ≤ 20000000 := by
  have := pl_cases a; exact zdb_bd (by omega) (by omega)
theorem zof_split (n : Int) : zof n / 2820 = (n - 399655) / 1029983 ∧ zof n % 2820 = (128 * ((n - 399655) % 1029983) + 30) / 46751 := by
  have g : 0 ≤ (n - 399655) % 1029983 ∧ (n - 399655) % 1029983 < 1029983 := by omega
  unfold zof
  generalize (n - 399655) / 1029983 = q at *
  generalize (n - 399655) % 1029983 = r at *
  have k1 : 0 ≤ (128 * r + 30) / 46751 := by omega
  have k2 : (128 * r + 30) / 46751 < 2820 := by omega
  have e : 128 * r + 31 - 1 = 128 * r + 30 := by omega
  rw [e]; omega
theorem zof_db (n : Int) : zdb (zof n) = n - 1 - ((n - 399655) % 1029983 - (365 * ((128 * ((n - 399655) % 1029983) + 31 - 1) / 46751) + (31 * ((128 * ((n - 399655) % 1029983) + 31 - 1) / 46751 - 1) + 128) / 128)) := by
  obtain ⟨a, b⟩ := zof_split n
  have e : 128 * ((n - 399655) % 1029983) + 31 - 1 = 128 * ((n - 399655) % 1029983) + 30 := by omega
  rw [e]
  unfold zdb
  rw [a, b]
  have := Int.emod_add_mul_ediv (n - 399655) 1029983
  omega
theorem zof_lo (n : Int) : zdb (zof n) < n := by
  have := zof_db n
  rw [this]
  have g : 0 ≤ (n - 399655) % 1029983 := by omega
  generalize (n - 399655) % 1029983 = r at *
  have k1 : (128 * r + 31 - 1) / 46751 * 46751 ≤ 128 * r + 30 := by omega
  generalize (128 * r + 31 - 1) / 46751 = k at *
  omega
theorem zof_hi (n : Int) : n ≤ zdb (zof n + 1) := by
  have e := zof_db n
  obtain ⟨a, b⟩ := zof_split n
  have s := zdb_succ (zof n)
  rw [b] at s
  have g : 0 ≤ (n - 399655) % 1029983 ∧ (n - 399655) % 1029983 < 1029983 := by omega
  have e2 : 128 * ((n - 399655) % 1029983) + 31 - 1 = 128 * ((n - 399655) % 1029983) + 30 := by omega
  rw [e2] at e
  generalize zdb (zof n + 1) = x at *
  generalize zdb (zof n) = y at *
  generalize (n - 399655) % 1029983 = r at *
  have k1 : 128 * r + 30 < (128 * r + 30) / 46751 * 46751 + 46751 := by omega
  have k2 : (128 * r + 30) / 46751 ≤ 2819 := by omega
  have k3 : 0 ≤ (128 * r + 30) / 46751 := by omega
  generalize (128 * r + 30) / 46751 = k at *
  have e3 : 31 * (k - 1) + 128 = 31 * k + 97 := by omega
  rw [e3] at e
  have u := up_cases k
  generalize (31 * k + 97) / 128 = h at *
  have v := Int.emod_add_mul_ediv (31 * k) 128
  generalize (31 * k + 128) / 128 = h2 at *
  omega
theorem zof_unique {n z : Int} (h1 : zdb z < n) (h2 : n ≤ zdb (z + 1)) : zof n = z := by
  have a := zof_lo n
  have b := zof_hi n
  by_cases c : zof n < z
  · have := zdb_mono (a := zof n + 1) (b := z) (by omega); omega
  · by_cases d : z < zof n
    · have := zdb_mono (a := z + 1) (b := zof n) (by omega); omega
    · omega
theorem dby_yr (n : Int) : dby (yr n) = zdb (zof n) := by unfold dby yr; rw [pl_yat]
theorem yr_lo (n : Int) : dby (yr n) < n := by rw [dby_yr]; exact zof_lo n
theorem yr_hi (n : Int) : n ≤ dby (nx (yr n)) := by unfold dby yr; rw [pl_nx, pl_yat]; exact zof_hi n
theorem yr_unique {n y : Int} (h : y ≠ 0) (h1 : dby y < n) (h2 : n ≤ dby (nx y)) : yr n = y := by
  unfold dby at h1 h2
  rw [pl_nx] at h2
  unfold yr; rw [zof_unique h1 h2]; exact yat_pl h
theorem zof_bd {n : Int} (h1 : 1 ≤ n) (h2 : n ≤ 3652059) : -1200 ≤ zof n ∧ zof n ≤ 9000 := by unfold zof; omega
theorem yr_ne (n : Int) : yr n ≠ 0 := yat_ne _
theorem yr_bd {n : Int} (h1 : 1 ≤ n) (h2 : n ≤ 3652059) : -750 ≤ yr n ∧ yr n ≤ 9500 ∧ yr n ≠ 0 := by
  have := zof_bd h1 h2
  have := yat_cases (zof n)
  have := yr_ne n
  unfold yr at *; omega
theorem len_cases (y m : Int) : ((y = 0 ∨ m < 1 ∨ 12 < m) ∧ len y m = 0) ∨ (y ≠ 0 ∧ 1 ≤ m ∧ m ≤ 6 ∧ len y m = 31) ∨ (y ≠ 0 ∧ 7 ≤ m ∧ m ≤ 11 ∧ len y m = 30) ∨ (y ≠ 0 ∧ m = 12 ∧ len y m = 29 + lp y) := by
  unfold len; by_cases h : y = 0 ∨ m < 1 ∨ 12 < m
  · rw [if_pos h]; exact Or.inl ⟨h, rfl⟩
  · rw [if_neg h]; by_cases h2 : m ≤ 6
    · rw [if_pos h2]; omega
    · rw [if_neg h2]; by_cases h3 : m = 12
      · rw [if_pos h3]; omega
      · rw [if_neg h3]; omega
theorem len_bd (y m : Int) : 0 ≤ len y m ∧ len y m ≤ 31 := by have := len_cases y m; have := lp_01 y; omega
theorem cum_cases (m : Int) : (m ≤ 7 ∧ cum m = 31 * (m - 1)) ∨ (7 < m ∧ cum m = 30 * (m - 1) + 6) := by unfold cum; split <;> omega
theorem cum_1 : cum 1 = 0 := by decide
theorem cum_12 : cum 12 = 336 := by decide
theorem cum_bd {m : Int} (h1 : 1 ≤ m) (h2 : m ≤ 12) : 0 ≤ cum m ∧ cum m ≤ 336 := by have := cum_cases m; omega
/- the months of a year follow each other -/
theorem cum_succ {y : Int} (h : y ≠ 0) {m : Int} (h1 : 1 ≤ m) (h2 : m < 12) : cum (m + 1) = cum m + len y m := by
  have := len_cases y m
  have := cum_cases m
  have := cum_cases (m + 1)
  omega
theorem cum_end (y : Int) {m : Int} (h1 : 1 ≤ m) (h2 : m ≤ 12) : cum m + len y m ≤ 365 + lp y := by
  have := len_cases y m
  have := lp_01 y
  have := cum_cases m
  omega
/- the month of the rest of a year's days -/
theorem mo_cases (r : Int) : (r < 186 ∧ mo r = r / 31 + 1) ∨ (186 ≤ r ∧ mo r = (r - 186) / 30 + 7) := by unfold mo; split <;> omega
theorem mo_unique {y m r : Int} (h1 : 1 ≤ m) (h2 : m ≤ 12) (a : cum m ≤ r) (b : r < cum m + len y m) : mo r = m := by
  have := len_cases y m
  have := lp_01 y
  have := cum_cases m
  have := mo_cases r
  omega
theorem mo_ex {y r : Int} (h : y ≠ 0) (a : 0 ≤ r) (b : r < 365 + lp y) : 1 ≤ mo r ∧ mo r ≤ 12 ∧ cum (mo r) ≤ r ∧ r < cum (mo r) + len y (mo r) := by
  have := lp_01 y
  have := len_cases y (mo r)
  have := cum_cases (mo r)
  have := mo_cases r
  omega

def ok (y m d : Int) : Bool := decide (1 ≤ d ∧ d ≤ len y m ∧ 1 ≤ num y m d ∧ num y m d ≤ 3652059)
theorem ok_iff {y m d : Int} : ok y m d = true ↔ (1 ≤ d ∧ d ≤ len y m ∧ 1 ≤ num y m d ∧ num y m d ≤ 3652059) := by unfold ok; simp
theorem ok_not {y m d : Int} (h : ok y m d = false) : ¬ (1 ≤ d ∧ d ≤ len y m ∧ 1 ≤ num y m d ∧ num y m d ≤ 3652059) := by rw [← ok_iff]; simp [h]
theorem len_month {y m d : Int} (h1 : 1 ≤ d) (h2 : d ≤ len y m) : 1 ≤ m ∧ m ≤ 12 := by have := len_cases y m; omega
theorem len_ne {y m d : Int} (h1 : 1 ≤ d) (h2 : d ≤ len y m) : y ≠ 0 := by have := len_cases y m; omega
theorem num_year {y m d : Int} (h1 : 1 ≤ d) (h2 : d ≤ len y m) : dby y < num y m d ∧ num y m d ≤ dby (nx y) := by
  obtain ⟨m1, m2⟩ := len_month h1 h2
  have e := dby_nx y
  have c := cum_end y m1 m2
  have b := cum_bd m1 m2
  unfold num; omega
theorem ok_year {y m d : Int} (h : ok y m d = true) : -750 ≤ y ∧ y ≤ 9500 ∧ y ≠ 0 := by
  obtain ⟨h1, h2, h3, h4⟩ := ok_iff.1 h
  obtain ⟨a, b⟩ := num_year h1 h2
  have hy := yr_unique (len_ne h1 h2) a b
  have := yr_bd h3 h4
  rw [hy] at this; exact this
theorem ok_day {y m d : Int} (h : ok y m d = true) : dayB (num y m d) = true := dayB_iff.2 (by have := ok_iff.1 h; omega)
theorem uniq {y m d : Int} (h : ok y m d = true) : yr (num y m d) = y ∧ mon (num y m d) = m ∧ dom (num y m d) = d := by
  obtain ⟨h1, h2, _, _⟩ := ok_iff.1 h
  obtain ⟨m1, m2⟩ := len_month h1 h2
  obtain ⟨a, b⟩ := num_year h1 h2
  have hy := yr_unique (len_ne h1 h2) a b
  have hm : mon (num y m d) = m := by unfold mon; rw [hy]; exact mo_unique (y := y) m1 m2 (by unfold num; omega) (by unfold num; omega)
  exact ⟨hy, hm, by unfold dom; rw [hm, hy]; unfold num; omega⟩
theorem mon_spec (n : Int) : 1 ≤ mon n ∧ mon n ≤ 12 ∧ cum (mon n) ≤ n - 1 - dby (yr n) ∧ n - 1 - dby (yr n) < cum (mon n) + len (yr n) (mon n) := by
  have lo := yr_lo n
  have hi := yr_hi n
  have e := dby_nx (yr n)
  exact mo_ex (yr_ne n) (by omega) (by omega)
theorem spec {n : Int} (h : dayB n = true) : ok (yr n) (mon n) (dom n) = true ∧ num (yr n) (mon n) (dom n) = n := by
  obtain ⟨n1, n2⟩ := dayB_iff.1 h
  obtain ⟨m1, m2, a, b⟩ := mon_spec n
  have hnum : num (yr n) (mon n) (dom n) = n := by unfold num dom; omega
  refine ⟨ok_iff.2 ⟨?_, ?_, by omega, by omega⟩, hnum⟩
  · unfold dom; omega
  · unfold dom; omega
theorem next {n : Int} (h : dayB n = true) (h' : dayB (n + 1) = true) :
    (yr (n + 1) = yr n ∧ mon (n + 1) = mon n ∧ dom (n + 1) = dom n + 1) ∨ (¬ (yr (n + 1) = yr n ∧ mon (n + 1) = mon n) ∧ dom (n + 1) = 1 ∧ dom n = len (yr n) (mon n)) := by
  obtain ⟨s, e⟩ := spec h
  obtain ⟨d1, d2, _, _⟩ := ok_iff.1 s
  obtain ⟨m1, m2⟩ := len_month d1 d2
  have ne := yr_ne n
  obtain ⟨k1, k2⟩ := dayB_iff.1 h'
  by_cases a : dom n < len (yr n) (mon n)
  · have en : num (yr n) (mon n) (dom n + 1) = n + 1 := by unfold num at *; omega
    have u := uniq (y := yr n) (m := mon n) (d := dom n + 1) (ok_iff.2 (by rw [en]; omega))
    rw [en] at u; exact Or.inl u
  · have a' : dom n = len (yr n) (mon n) := by omega
    by_cases b : mon n < 12
    · have c := cum_succ ne m1 b
      have en : num (yr n) (mon n + 1) 1 = n + 1 := by unfold num at *; omega
      have l2 := len_cases (yr n) (mon n + 1)
      have := lp_01 (yr n)
      have u := uniq (y := yr n) (m := mon n + 1) (d := 1) (ok_iff.2 (by rw [en]; omega))
      rw [en] at u; exact Or.inr ⟨by omega, u.2.2, a'⟩
    · have e12 : mon n = 12 := by omega
      have d := dby_nx (yr n)
      have l := len_cases (yr n) 12
      have c12 := cum_12
      have c1 := cum_1
      rw [e12] at a' e
      have en : num (nx (yr n)) 1 1 = n + 1 := by unfold num at *; omega
      have l2 := len_cases (nx (yr n)) 1
      have ne2 := nx_ne (yr n)
      have u := uniq (y := nx (yr n)) (m := 1) (d := 1) (ok_iff.2 (by rw [en]; omega))
      have nc := nx_cases (yr n)
      rw [en] at u; exact Or.inr ⟨by omega, u.2.2, by rw [e12]; exact a'⟩
theorem zero_no : ok 0 0 0 = false := by decide
end Go.Proofs.Ytjngioanpphdkaa.Per
