/- Plain mathematics of the Hebrew calendar: elapsed days, the day with which a year begins, the months in their order 7.. and 1..6. What holds of each of the years 1 to 20000 is worked out year by year (chk). -/
import Derived.Test.YthpdnlmjnfllcaaCal
namespace Go.Proofs.Ythpdnlmjnfllcaa.Heb
open Cal (dayB dayB_iff)

def mof (y : Int) : Int := (235 * (y - 1) + 1) / 19
def dof (m : Int) : Int := 29 * m + (12084 + 13753 * m) / 25920
def el (y : Int) : Int := if 3 * (dof (mof y) + 1) % 7 < 3 then dof (mof y) + 1 else dof (mof y)
def ny (y : Int) : Int := if el (y + 1) - el y = 356 then -1373427 + el y + 2 else if el y - el (y - 1) = 382 then -1373427 + el y + 1 else -1373427 + el y
def lpB (y : Int) : Bool := decide ((7 * y + 1) % 19 < 7)
theorem lpB_iff {y : Int} : lpB y = true ↔ (7 * y + 1) % 19 < 7 := by unfold lpB; simp
def yl (y : Int) : Int := ny (y + 1) - ny y
theorem mof_bd {y : Int} (h1 : -5 ≤ y) (h2 : y ≤ 40000) : -100 ≤ mof y ∧ mof y ≤ 500000 := by unfold mof; omega
theorem dof_bd {m : Int} (h1 : -100 ≤ m) (h2 : m ≤ 500000) : -4000 ≤ dof m ∧ dof m ≤ 15000000 := by unfold dof; omega
theorem el_cases (y : Int) : (3 * (dof (mof y) + 1) % 7 < 3 ∧ el y = dof (mof y) + 1) ∨ (¬ 3 * (dof (mof y) + 1) % 7 < 3 ∧ el y = dof (mof y)) := by unfold el; split <;> omega
theorem el_bd {y : Int} (h1 : -5 ≤ y) (h2 : y ≤ 40000) : -5000 ≤ el y ∧ el y ≤ 16000000 := by
  obtain ⟨a, b⟩ := mof_bd h1 h2
  have := dof_bd a b
  have := el_cases y
  omega
theorem ny_cases (y : Int) : (el (y + 1) - el y = 356 ∧ ny y = -1373427 + el y + 2) ∨ (el (y + 1) - el y ≠ 356 ∧ el y - el (y - 1) = 382 ∧ ny y = -1373427 + el y + 1) ∨ (el (y + 1) - el y ≠ 356 ∧ el y - el (y - 1) ≠ 382 ∧ ny y = -1373427 + el y) := by
  unfold ny; split
  · omega
  · split <;> omega
theorem ny_bd {y : Int} (h1 : -4 ≤ y) (h2 : y ≤ 39999) : -2000000 ≤ ny y ∧ ny y ≤ 16000000 := by
  have := el_bd (y := y) (by omega) (by omega)
  have := ny_cases y
  omega
/- the same with natural numbers, for working it out -/
def elN (y : Nat) : Nat :=
  let m := (235 * (y - 1) + 1) / 19
  let d := 29 * m + (12084 + 13753 * m) / 25920
  bif Nat.blt (3 * (d + 1) % 7) 3 then d + 1 else d
def nyN (y : Nat) : Nat :=
  let b := elN y
  bif Nat.beq (elN (y + 1)) (b + 356) then b + 2 else bif Nat.beq b (elN (y - 1) + 382) then b + 1 else b
def lpN (y : Nat) : Bool := Nat.blt ((7 * y + 1) % 19) 7
def okN (y : Nat) (l : Bool) (a b r : Nat) : Bool :=
  (bif l then Nat.ble (383 + a) b && Nat.ble b (385 + a) else Nat.ble (353 + a) b && Nat.ble b (355 + a)) &&
  Nat.ble (393984 + 35975351 * y) (71950702 + 98496 * a) && Nat.ble (1 + 98496 * b) (492480 + 35975351 * y) &&
  !(Nat.beq r 0 || Nat.beq r 3 || Nat.beq r 5)
def chk (y : Nat) : Bool := okN y (lpN y) (nyN y) (nyN (y + 1)) ((nyN y + 1) % 7)
def allB (f : Nat → Bool) : Nat → Nat → Bool
  | 0, a => f a
  | k + 1, a => allB f k a && allB f k (a + 2 ^ k)
theorem allB_at {f : Nat → Bool} : ∀ {k a : Nat}, allB f k a = true → ∀ n, a ≤ n → n < a + 2 ^ k → f n = true
  | 0, a, h, n, h1, h2 => by
    have : n = a := by simp at h2; omega
    subst this; exact h
  | k + 1, a, h, n, h1, h2 => by
    simp only [allB, Bool.and_eq_true] at h
    have e : 2 ^ (k + 1) = 2 ^ k + 2 ^ k := by rw [Nat.pow_succ]; omega
    by_cases c : n < a + 2 ^ k
    · exact allB_at h.1 n h1 c
    · exact allB_at h.2 n (by omega) (by omega)
theorem chk_lo : allB chk 14 2 = true := by decide +kernel
theorem chk_hi : allB chk 12 16386 = true := by decide +kernel
theorem chk_all {n : Nat} (h1 : 2 ≤ n) (h2 : n ≤ 20000) : chk n = true := by
  by_cases c : n < 16386
  · exact allB_at chk_lo n h1 (by simp; omega)
  · exact allB_at chk_hi n (by omega) (by simp; omega)
theorem el_nat {n : Nat} (h : 1 ≤ n) : el (n : Int) = (elN n : Int) := by
  have e : mof (n : Int) = (((235 * (n - 1) + 1) / 19 : Nat) : Int) := by unfold mof; omega
  have c := el_cases (n : Int)
  rw [e] at c
  unfold elN
  generalize (235 * (n - 1) + 1) / 19 = m at *
  have e2 : dof (m : Int) = ((29 * m + (12084 + 13753 * m) / 25920 : Nat) : Int) := by unfold dof; omega
  rw [e2] at c
  dsimp only
  generalize 29 * m + (12084 + 13753 * m) / 25920 = d at *
  rw [Bool.cond_eq_ite]
  simp only [Nat.blt_eq]
  have k : ((3 * (d + 1) % 7 : Nat) : Int) = 3 * ((d : Int) + 1) % 7 := by push_cast; rfl
  split <;> omega
theorem ny_nat {n : Nat} (h : 2 ≤ n) : ny (n : Int) = (nyN n : Int) - 1373427 := by
  have c := ny_cases (n : Int)
  have e0 := el_nat (n := n) (by omega)
  have e1 := el_nat (n := n + 1) (by omega)
  have e2 := el_nat (n := n - 1) (by omega)
  have f1 : ((n + 1 : Nat) : Int) = (n : Int) + 1 := by omega
  have f2 : ((n - 1 : Nat) : Int) = (n : Int) - 1 := by omega
  rw [f1] at e1
  rw [f2] at e2
  rw [e0, e1, e2] at c
  unfold nyN
  dsimp only
  generalize elN (n + 1) = x at *
  generalize elN (n - 1) = y at *
  generalize elN n = z at *
  rw [Bool.cond_eq_ite, Bool.cond_eq_ite]
  simp only [Nat.beq_eq]
  split
  · omega
  · split <;> omega
/- what holds of each year -/
structure Yr (y : Int) : Prop where
  days : (lpB y = true ∧ 383 ≤ yl y ∧ yl y ≤ 385) ∨ (lpB y = false ∧ 353 ≤ yl y ∧ yl y ≤ 355)
  lo : (y - 2) * 35975351 ≤ (ny y + 1373427 - 4) * 98496
  hi : (ny (y + 1) - 1 + 1373427 - 4) * 98496 < y * 35975351
  week : ny y % 7 ≠ 0 ∧ ny y % 7 ≠ 3 ∧ ny y % 7 ≠ 5
theorem okN_out {n a b r : Nat} {l : Bool} (h : okN n l a b r = true) : ((l = true ∧ 383 + a ≤ b ∧ b ≤ 385 + a) ∨ (l = false ∧ 353 + a ≤ b ∧ b ≤ 355 + a)) ∧ 393984 + 35975351 * n ≤ 71950702 + 98496 * a ∧ 1 + 98496 * b ≤ 492480 + 35975351 * n ∧ r ≠ 0 ∧ r ≠ 3 ∧ r ≠ 5 := by
  simp only [okN, Bool.and_eq_true, Nat.ble_eq, Bool.not_eq_true', Bool.or_eq_false_iff] at h
  obtain ⟨⟨⟨h1, h2⟩, h3⟩, ⟨h4, h5⟩, h6⟩ := h
  refine ⟨?_, h2, h3, ?_, ?_, ?_⟩
  · cases l
    · simp only [cond_false, Bool.and_eq_true, Nat.ble_eq] at h1; exact Or.inr ⟨rfl, h1⟩
    · simp only [cond_true, Bool.and_eq_true, Nat.ble_eq] at h1; exact Or.inl ⟨rfl, h1⟩
  · rintro rfl; exact absurd h4 (by decide)
  · rintro rfl; exact absurd h5 (by decide)
  · rintro rfl; exact absurd h6 (by decide)
theorem lp_nat (n : Nat) : lpB (n : Int) = lpN n := by
  rw [Bool.eq_iff_iff, lpB_iff]
  unfold lpN
  rw [Nat.blt_eq]
  have k : (((7 * n + 1) % 19 : Nat) : Int) = (7 * (n : Int) + 1) % 19 := by push_cast; rfl
  omega
theorem yr_all {y : Int} (h1 : 1 ≤ y) (h2 : y ≤ 20000) : Yr y := by
  by_cases e : y = 1
  · subst e
    have a : ny 1 = -1373427 := by decide
    have b : ny (1 + 1) = -1373072 := by decide
    have c : lpB 1 = false := by decide
    refine ⟨Or.inr ⟨c, ?_⟩, ?_, ?_, ?_⟩
    · unfold yl; rw [a, b]; omega
    · rw [a]; omega
    · rw [b]; omega
    · rw [a]; omega
  · obtain ⟨n, rfl⟩ : ∃ n : Nat, y = n := ⟨y.toNat, by omega⟩
    have c := okN_out (chk_all (n := n) (by omega) (by omega))
    have a := ny_nat (n := n) (by omega)
    have b := ny_nat (n := n + 1) (by omega)
    have f1 : ((n + 1 : Nat) : Int) = (n : Int) + 1 := by omega
    rw [f1] at b
    rw [← lp_nat] at c
    obtain ⟨c1, c2, c3, c4⟩ := c
    have k : (((nyN n + 1) % 7 : Nat) : Int) = ((nyN n : Int) + 1) % 7 := by push_cast; rfl
    generalize nyN (n + 1) = B at *
    generalize nyN n = A at *
    refine ⟨?_, ?_, ?_, ?_⟩
    · unfold yl; rw [a, b]
      rcases c1 with ⟨l, c1, c2⟩ | ⟨l, c1, c2⟩
      · exact Or.inl ⟨l, by omega, by omega⟩
      · exact Or.inr ⟨l, by omega, by omega⟩
    · rw [a]; omega
    · rw [b]; omega
    · rw [a]; omega
end Go.Proofs.Ythpdnlmjnfllcaa.Heb
