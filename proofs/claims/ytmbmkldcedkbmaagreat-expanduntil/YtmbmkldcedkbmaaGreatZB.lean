/- The texts ClkRead, Cal, Leaf, Rata, Day, In, Clk, ClkOf, ClkParse, ClkParseD, one behind the other. -/
import Derived.Test.YtmbmkldcedkbmaaGreatChecked
import Derived.Test.YtmbmkldcedkbmaaGreatZA
import Derived.Lib.Strings
import Derived.Test.YtmbmkldcedkbmaaGreatProg
import Derived.WalkKit
import Derived.WalkSpells
import Derived.WalkLawsBesides
import Derived.Lib.Hide
import Derived.BigQuiet
import Derived.Deep.QuietTactic
import Derived.WalkSmall
namespace Go.Proofs.YtmbmkldcedkbmaaGreat
open Go.RowKit

namespace Txt
theorem take_succ_val (l : List UInt8) (i : Nat) (h : i < l.length) : val (l.take (i + 1)) 0 = 10 * val (l.take i) 0 + (l[i].toNat - 48) := by
  rw [List.take_succ_eq_append_getElem h, val_snoc]
theorem val_take_lt (l : List UInt8) (i : Nat) (hl : l.length ≤ 8) (h : l.all isD = true) : val (l.take i) 0 < 100000000 := by
  have h1 : (l.take i).all isD = true := by
    rw [List.all_eq_true] at h ⊢
    exact fun x hx => h x (List.mem_of_mem_take hx)
  have h2 := val_lt _ 0 h1
  have h3 : 10 ^ (l.take i).length ≤ 10 ^ 8 := Nat.pow_le_pow_right (by omega) (by rw [List.length_take]; omega)
  omega
theorem val_all_lt (l : List UInt8) (hl : l.length ≤ 8) (h : l.all isD = true) : val l 0 < 100000000 := by
  have h2 := val_lt _ 0 h
  have h3 : 10 ^ l.length ≤ 10 ^ 8 := Nat.pow_le_pow_right (by omega) hl
  omega
theorem all_take_succ (l : List UInt8) (i : Nat) (h : i < l.length) (ha : (l.take i).all isD = true) (hb : isD l[i] = true) : (l.take (i + 1)).all isD = true := by
  rw [List.take_succ_eq_append_getElem h, List.all_append, ha]; simp [hb]
end Txt
theorem byte_at (s : ByteArray) (i : Nat) (h : i < s.data.size) : s.data[i] = s.data.toList[i]'(by simpa using h) := by simp

end Go.Proofs.YtmbmkldcedkbmaaGreat
namespace Go.Proofs.YtmbmkldcedkbmaaGreat.Cal

def lpB (y : Int) : Bool := decide (y % 4 = 0 ∧ (y % 100 ≠ 0 ∨ y % 400 = 0))
def lp (y : Int) : Int := if lpB y = true then 1 else 0
def dby (y : Int) : Int := 365 * (y - 1) + (y - 1) / 4 - (y - 1) / 100 + (y - 1) / 400
def dim (y m : Int) : Int :=
  if m = 2 then 28 + lp y else if m = 4 ∨ m = 6 ∨ m = 9 ∨ m = 11 then 30 else if 1 ≤ m ∧ m ≤ 12 then 31 else 0
def cum (y m : Int) : Int := (367 * m - 362) / 12 - (if m ≤ 2 then 0 else 2 - lp y)
def num (y m d : Int) : Int := dby y + cum y m + d

theorem lp_01 (y : Int) : 0 ≤ lp y ∧ lp y ≤ 1 := by unfold lp; split <;> omega
theorem lpB_iff (y : Int) : lpB y = true ↔ (y % 4 = 0 ∧ (y % 100 ≠ 0 ∨ y % 400 = 0)) := by unfold lpB; simp
theorem lp_t {y : Int} (h : lpB y = true) : lp y = 1 := by unfold lp; rw [if_pos h]
theorem lp_f {y : Int} (h : lpB y = false) : lp y = 0 := by unfold lp; rw [if_neg (by simp [h])]
theorem dby_succ (y : Int) : dby (y + 1) = dby y + 365 + lp y := by
  have e : y + 1 - 1 = y := by omega
  unfold dby; rw [e]
  by_cases h : lpB y = true
  · rw [lp_t h]; rw [lpB_iff] at h; omega
  · have h' : lpB y = false := by simpa using h
    rw [lp_f h']; rw [lpB_iff] at h; omega
theorem dby_mono {a b : Int} (h : a ≤ b) : dby a ≤ dby b := by unfold dby; omega
theorem dby_bd {a : Int} (h0 : 1 ≤ a) (h : a ≤ 20000) : 0 ≤ dby a ∧ dby a ≤ 7305000 := by unfold dby; omega
theorem dby_bdw {a : Int} (h0 : -40000 ≤ a) (h : a ≤ 40000) : -15000000 ≤ dby a ∧ dby a ≤ 15000000 := by unfold dby; omega
theorem dby_1 : dby 1 = 0 := by decide
theorem dby_10000 : dby 10000 = 3652059 := by decide
theorem months {m : Int} (h1 : 1 ≤ m) (h2 : m ≤ 12) : m = 1 ∨ m = 2 ∨ m = 3 ∨ m = 4 ∨ m = 5 ∨ m = 6 ∨ m = 7 ∨ m = 8 ∨ m = 9 ∨ m = 10 ∨ m = 11 ∨ m = 12 := by omega
theorem cum_1 (y : Int) : cum y 1 = 0 := by unfold cum; simp
theorem cum_13 (y : Int) : cum y 13 = 365 + lp y := by unfold cum; simp; omega
theorem cum_succ (y : Int) {m : Int} (h1 : 1 ≤ m) (h2 : m ≤ 12) : cum y (m + 1) = cum y m + dim y m := by
  have := lp_01 y
  rcases months h1 h2 with h | h | h | h | h | h | h | h | h | h | h | h <;> subst h <;> simp [cum, dim] <;> omega
theorem dim_bd (y m : Int) : 0 ≤ dim y m ∧ dim y m ≤ 31 := by
  have := lp_01 y; unfold dim; split
  · omega
  · split
    · omega
    · split <;> omega
theorem dim_lo (y : Int) {m : Int} (h1 : 1 ≤ m) (h2 : m ≤ 12) : 28 ≤ dim y m := by
  have := lp_01 y
  rcases months h1 h2 with h | h | h | h | h | h | h | h | h | h | h | h <;> subst h <;> simp [dim] <;> omega
theorem dim_out (y : Int) {m : Int} (h : m < 1 ∨ 12 < m) : dim y m = 0 := by
  unfold dim; rw [if_neg (by omega), if_neg (by omega), if_neg (by omega)]
theorem cum_bd (y : Int) {m : Int} (h1 : 1 ≤ m) (h2 : m ≤ 13) : 0 ≤ cum y m ∧ cum y m ≤ 366 := by
  have := lp_01 y; unfold cum; split <;> omega
theorem cum_mono (y : Int) {m n : Int} (h : m < n) : cum y m + 28 ≤ cum y n := by
  have := lp_01 y
  unfold cum; split <;> split <;> omega

/- a date is right -/
def okB (y m d : Int) : Bool := decide (1 ≤ y ∧ y ≤ 9999 ∧ 1 ≤ d ∧ d ≤ dim y m)
theorem okB_iff {y m d : Int} : okB y m d = true ↔ (1 ≤ y ∧ y ≤ 9999 ∧ 1 ≤ d ∧ d ≤ dim y m) := by unfold okB; simp
theorem okB_month {y m d : Int} (h : okB y m d = true) : 1 ≤ m ∧ m ≤ 12 := by
  rw [okB_iff] at h
  by_cases hm : m < 1 ∨ 12 < m
  · rw [dim_out y hm] at h; omega
  · omega
theorem num_bd {y m d : Int} (h : okB y m d = true) : 1 ≤ num y m d ∧ num y m d ≤ 3652059 := by
  obtain ⟨m1, m2⟩ := okB_month h
  rw [okB_iff] at h
  have a := cum_succ y m1 m2
  have b := cum_bd y (m := m + 1) (by omega) (by omega)
  have c := cum_bd y m1 (by omega)
  have d1 := dby_bd (a := y) (by omega) (by omega)
  have e := dby_succ y
  have f := dby_mono (a := y + 1) (b := 10000) (by omega)
  have g := dby_10000
  have k : cum y (m + 1) ≤ 365 + lp y := by
    by_cases hm : m = 12
    · rw [hm]; have := cum_13 y; show cum y 13 ≤ _; omega
    · have := cum_mono y (m := m + 1) (n := 13) (by omega); have := cum_13 y; omega
  unfold num; omega

/- the year of a day -/
def guess (n : Int) : Int := (n - 1) * 400 / 146097 + 1
def yr (n : Int) : Int := if dby (guess n + 1) < n then guess n + 1 else guess n
theorem guess_bd {n : Int} (h1 : 1 ≤ n) (h2 : n ≤ 3652059) : 1 ≤ guess n ∧ guess n ≤ 9999 := by unfold guess; omega
theorem ex_lo (k : Int) : 400 * (k / 4 - k / 100 + k / 400) < 97 * k + 400 := by omega
theorem ex_hi (k : Int) : 97 * k - 800 < 400 * (k / 4 - k / 100 + k / 400) := by omega
theorem guess_lo (n : Int) : dby (guess n) < n := by
  have e : guess n - 1 = (n - 1) * 400 / 146097 := by unfold guess; omega
  unfold dby; rw [e]
  have := ex_lo ((n - 1) * 400 / 146097)
  generalize hk : (n - 1) * 400 / 146097 = k at *
  have : 146097 * k ≤ (n - 1) * 400 := by omega
  omega
theorem guess_hi (n : Int) : n ≤ dby (guess n + 2) := by
  have e : guess n + 2 - 1 = (n - 1) * 400 / 146097 + 2 := by unfold guess; omega
  unfold dby; rw [e]
  generalize hk : (n - 1) * 400 / 146097 = k at *
  have : (n - 1) * 400 < 146097 * (k + 1) := by omega
  have := ex_hi (k + 2)
  omega
theorem yr_lo (n : Int) : dby (yr n) < n := by
  unfold yr; split
  · assumption
  · exact guess_lo n
theorem yr_hi (n : Int) : n ≤ dby (yr n + 1) := by
  unfold yr; split
  · have := guess_hi n; rwa [show guess n + 1 + 1 = guess n + 2 by omega]
  · omega
theorem yr_bd {n : Int} (h1 : 1 ≤ n) (h2 : n ≤ 3652059) : 1 ≤ yr n ∧ yr n ≤ 9999 := by
  have g := guess_bd h1 h2
  have a := yr_lo n
  constructor
  · unfold yr; split <;> omega
  · have d := dby_10000
    by_cases h : 10000 ≤ yr n
    · have := dby_mono h; omega
    · omega
theorem yr_unique {n y : Int} (h1 : dby y < n) (h2 : n ≤ dby (y + 1)) : yr n = y := by
  have a := yr_lo n
  have b := yr_hi n
  by_cases c : yr n < y
  · have := dby_mono (a := yr n + 1) (b := y) (by omega); omega
  · by_cases d : y < yr n
    · have := dby_mono (a := y + 1) (b := yr n) (by omega); omega
    · omega
def dayB (n : Int) : Bool := decide (1 ≤ n ∧ n ≤ 3652059)
theorem dayB_iff {n : Int} : dayB n = true ↔ (1 ≤ n ∧ n ≤ 3652059) := by unfold dayB; simp

/- the date of a day -/
def mo (y r : Int) : Int :=
  if r ≤ cum y 2 then 1 else if r ≤ cum y 3 then 2 else if r ≤ cum y 4 then 3 else if r ≤ cum y 5 then 4 else if r ≤ cum y 6 then 5 else if r ≤ cum y 7 then 6
  else if r ≤ cum y 8 then 7 else if r ≤ cum y 9 then 8 else if r ≤ cum y 10 then 9 else if r ≤ cum y 11 then 10 else if r ≤ cum y 12 then 11 else 12
def mon (n : Int) : Int := mo (yr n) (n - dby (yr n))
def dom (n : Int) : Int := n - dby (yr n) - cum (yr n) (mon n)
theorem mo_bd (y r : Int) : 1 ≤ mo y r ∧ mo y r ≤ 12 := by
  unfold mo; repeat' split
  all_goals omega
theorem mo_unique {y r m : Int} (h1 : 1 ≤ m) (h2 : m ≤ 12) (a : cum y m < r) (b : r ≤ cum y (m + 1)) : mo y r = m := by
  have l := lp_01 y
  have key : ∀ k, k < m → ¬ r ≤ cum y (k + 1) := by
    intro k hk
    by_cases e : k + 1 = m
    · rw [e]; omega
    · have := cum_mono y (m := k + 1) (n := m) (by omega); omega
  have k1 := key 1; have k2 := key 2; have k3 := key 3; have k4 := key 4; have k5 := key 5; have k6 := key 6
  have k7 := key 7; have k8 := key 8; have k9 := key 9; have k10 := key 10; have k11 := key 11
  clear key
  rcases months h1 h2 with h | h | h | h | h | h | h | h | h | h | h | h <;> subst h <;> simp at k1 k2 k3 k4 k5 k6 k7 k8 k9 k10 k11 a b <;> unfold mo
  · rw [if_pos b]
  · rw [if_neg (by omega), if_pos b]
  · rw [if_neg (by omega), if_neg (by omega), if_pos b]
  · rw [if_neg (by omega), if_neg (by omega), if_neg (by omega), if_pos b]
  · rw [if_neg (by omega), if_neg (by omega), if_neg (by omega), if_neg (by omega), if_pos b]
  · rw [if_neg (by omega), if_neg (by omega), if_neg (by omega), if_neg (by omega), if_neg (by omega), if_pos b]
  · rw [if_neg (by omega), if_neg (by omega), if_neg (by omega), if_neg (by omega), if_neg (by omega), if_neg (by omega), if_pos b]
  · rw [if_neg (by omega), if_neg (by omega), if_neg (by omega), if_neg (by omega), if_neg (by omega), if_neg (by omega), if_neg (by omega), if_pos b]
  · rw [if_neg (by omega), if_neg (by omega), if_neg (by omega), if_neg (by omega), if_neg (by omega), if_neg (by omega), if_neg (by omega), if_neg (by omega), if_pos b]
  · rw [if_neg (by omega), if_neg (by omega), if_neg (by omega), if_neg (by omega), if_neg (by omega), if_neg (by omega), if_neg (by omega), if_neg (by omega), if_neg (by omega), if_pos b]
  · rw [if_neg (by omega), if_neg (by omega), if_neg (by omega), if_neg (by omega), if_neg (by omega), if_neg (by omega), if_neg (by omega), if_neg (by omega), if_neg (by omega), if_neg (by omega), if_pos b]
  · rw [if_neg (by omega), if_neg (by omega), if_neg (by omega), if_neg (by omega), if_neg (by omega), if_neg (by omega), if_neg (by omega), if_neg (by omega), if_neg (by omega), if_neg (by omega), if_neg (by omega)]
theorem mo_ex {y r : Int} (a : 0 < r) (b : r ≤ cum y 13) : ∃ m, 1 ≤ m ∧ m ≤ 12 ∧ cum y m < r ∧ r ≤ cum y (m + 1) := by
  have c1 := cum_1 y
  by_cases h2 : r ≤ cum y 2
  · exact ⟨1, by omega, by omega, by omega, h2⟩
  by_cases h3 : r ≤ cum y 3
  · exact ⟨2, by omega, by omega, by omega, h3⟩
  by_cases h4 : r ≤ cum y 4
  · exact ⟨3, by omega, by omega, by omega, h4⟩
  by_cases h5 : r ≤ cum y 5
  · exact ⟨4, by omega, by omega, by omega, h5⟩
  by_cases h6 : r ≤ cum y 6
  · exact ⟨5, by omega, by omega, by omega, h6⟩
  by_cases h7 : r ≤ cum y 7
  · exact ⟨6, by omega, by omega, by omega, h7⟩
  by_cases h8 : r ≤ cum y 8
  · exact ⟨7, by omega, by omega, by omega, h8⟩
  by_cases h9 : r ≤ cum y 9
  · exact ⟨8, by omega, by omega, by omega, h9⟩
  by_cases h10 : r ≤ cum y 10
  · exact ⟨9, by omega, by omega, by omega, h10⟩
  by_cases h11 : r ≤ cum y 11
  · exact ⟨10, by omega, by omega, by omega, h11⟩
  by_cases h12 : r ≤ cum y 12
  · exact ⟨11, by omega, by omega, by omega, h12⟩
  exact ⟨12, by omega, by omega, by omega, b⟩
theorem date_unique {y m d n : Int} (h : okB y m d = true) (hn : num y m d = n) : yr n = y ∧ mon n = m ∧ dom n = d := by
  obtain ⟨m1, m2⟩ := okB_month h
  rw [okB_iff] at h
  have a := cum_succ y m1 m2
  have c := cum_bd y m1 (by omega)
  have e := dby_succ y
  have k : cum y (m + 1) ≤ 365 + lp y := by
    by_cases hm : m = 12
    · rw [hm]; have := cum_13 y; show cum y 13 ≤ _; omega
    · have := cum_mono y (m := m + 1) (n := 13) (by omega); have := cum_13 y; omega
  unfold num at hn
  have hy : yr n = y := yr_unique (by omega) (by omega)
  have hm : mon n = m := by unfold mon; rw [hy]; exact mo_unique m1 m2 (by omega) (by omega)
  exact ⟨hy, hm, by unfold dom; rw [hm, hy]; omega⟩
theorem date_spec {n : Int} (h : dayB n = true) : okB (yr n) (mon n) (dom n) = true ∧ num (yr n) (mon n) (dom n) = n := by
  obtain ⟨n1, n2⟩ := dayB_iff.1 h
  have yb := yr_bd n1 n2
  have lo := yr_lo n
  have hi := yr_hi n
  have e := dby_succ (yr n)
  have c13 := cum_13 (yr n)
  have c1 := cum_1 (yr n)
  have hnum : num (yr n) (mon n) (dom n) = n := by unfold num dom; omega
  refine ⟨?_, hnum⟩
  have mb := mo_bd (yr n) (n - dby (yr n))
  have s : cum (yr n) (mon n) < n - dby (yr n) ∧ n - dby (yr n) ≤ cum (yr n) (mon n + 1) := by
    obtain ⟨m, m1, m2, a, b⟩ := mo_ex (y := yr n) (r := n - dby (yr n)) (by omega) (by omega)
    have e : mon n = m := mo_unique m1 m2 a b
    rw [e]; exact ⟨a, b⟩
  have a := cum_succ (yr n) (m := mon n) (by unfold mon; omega) (by unfold mon; omega)
  rw [okB_iff]; unfold dom; omega
end Go.Proofs.YtmbmkldcedkbmaaGreat.Cal
namespace Go.Proofs.YtmbmkldcedkbmaaGreat
open Go.RowKit


theorem tmod_zero (y k : Int) : y.tmod k = 0 ↔ y % k = 0 :=
  ⟨fun h => Int.emod_eq_zero_of_dvd (Int.dvd_of_tmod_eq_zero h), fun h => Int.tmod_eq_zero_of_dvd (Int.dvd_of_emod_eq_zero h)⟩
theorem tmod_cases (n : Int) {k : Int} (hk : 0 < k) : (0 ≤ n ∧ n.tmod k = n % k) ∨ (n < 0 ∧ n % k = 0 ∧ n.tmod k = 0) ∨ (n < 0 ∧ n % k ≠ 0 ∧ n.tmod k = n % k - k) := by
  have e := Int.tmod_eq_emod (a := n) (b := k)
  by_cases h0 : 0 ≤ n
  · left; exact ⟨h0, by rw [e, if_pos (Or.inl h0)]; omega⟩
  · by_cases hd : k ∣ n
    · right; left; exact ⟨by omega, Int.emod_eq_zero_of_dvd hd, Int.tmod_eq_zero_of_dvd hd⟩
    · right; right; refine ⟨by omega, fun h => hd (Int.dvd_of_emod_eq_zero h), ?_⟩
      rw [e, if_neg (by intro h; rcases h with h | h <;> contradiction)]; omega

set_option maxHeartbeats 400000 in
theorem leap_any (y : Int) (w : World) :
    Calls Tryz.prog 125 #[.int .i64 y] w fun e w' => e = .returned (.bool (Cal.lpB y)) ∧ w = w' := by
  go_enter Tryz.func125, Tryz.ntmps125
  go_wp2
  all_goals go_ret
  all_goals refine ⟨ret_bool ?_, rfl⟩
  all_goals rw [Bool.eq_iff_iff, Cal.lpB_iff]
  all_goals simp only [beq_iff_eq, tmod_zero] at *
  all_goals simp [*]

theorem dim_31 {y m : Int} (h : m = 1 ∨ m = 3 ∨ m = 5 ∨ m = 7 ∨ m = 8 ∨ m = 10 ∨ m = 12) : Cal.dim y m = 31 := by
  unfold Cal.dim; rw [if_neg (by omega), if_neg (by omega), if_pos (by omega)]
theorem dim_30 {y m : Int} (h : m = 4 ∨ m = 6 ∨ m = 9 ∨ m = 11) : Cal.dim y m = 30 := by
  unfold Cal.dim; rw [if_neg (by omega), if_pos (by omega)]
theorem dim_29 {y m : Int} (h : m = 2) (hl : Cal.lpB y = true) : Cal.dim y m = 29 := by
  unfold Cal.dim; rw [if_pos h, Cal.lp_t hl]; rfl
theorem dim_28 {y m : Int} (h : m = 2) (hl : Cal.lpB y = false) : Cal.dim y m = 28 := by
  unfold Cal.dim; rw [if_pos h, Cal.lp_f hl]; rfl
theorem dim_0 {y m : Int} (h : m ≠ 2 ∧ ¬ (m = 4 ∨ m = 6 ∨ m = 9 ∨ m = 11) ∧ ¬ (m = 1 ∨ m = 3 ∨ m = 5 ∨ m = 7 ∨ m = 8 ∨ m = 10 ∨ m = 12)) : Cal.dim y m = 0 := by
  unfold Cal.dim; rw [if_neg (by omega), if_neg (by omega), if_neg (by omega)]

set_option maxHeartbeats 400000 in
theorem length_any (y m : Int) (w : World) :
    Calls Tryz.prog 104 #[.int .i64 y, .int .i64 m] w fun e w' => e = .returned (.int .i64 (Cal.dim y m)) ∧ w = w' := by
  go_enter Tryz.func104, Tryz.ntmps104
  go_wp2_with (go_at_call 125; refine (leap_any _ _).mono ?_; rintro e w' ⟨rfl, rfl⟩)
  all_goals go_ret
  all_goals refine ⟨ret_int ?_, rfl⟩
  all_goals simp only [beq_iff_eq, beq_eq_false_iff_ne, ne_eq] at *
  all_goals first
    | exact (dim_31 (by omega)).symm
    | exact (dim_30 (by omega)).symm
    | exact (dim_29 (by omega) (by assumption)).symm
    | exact (dim_28 (by omega) (by assumption)).symm
    | exact (dim_0 (by omega)).symm

set_option maxHeartbeats 400000 in
theorem before_any (y : Int) (w : World) (h1 : 1 ≤ y) (h2 : y ≤ 20000) :
    Calls Tryz.prog 106 #[.int .i64 y] w fun e w' => e = .returned (.int .i64 (Cal.dby y)) ∧ w = w' := by
  go_enter Tryz.func106, Tryz.ntmps106
  go_wp2
  go_ret
  exact ⟨ret_int (by unfold Cal.dby; rfl), rfl⟩

set_option maxHeartbeats 400000 in
theorem of_any (n : Int) (w : World) :
    Calls Tryz.prog 37 #[.int .i64 n] w fun e w' => e = .returned (.bool (Cal.dayB n)) ∧ w = w' := by
  go_enter Tryz.func37, Tryz.ntmps37
  go_wp2
  all_goals go_ret
  all_goals refine ⟨ret_bool ?_, rfl⟩
  all_goals rw [Bool.eq_iff_iff, Cal.dayB_iff]
  all_goals simp
  all_goals omega

set_option maxHeartbeats 400000 in
theorem weekday_any (n : Int) (w : World) :
    Calls Tryz.prog 132 #[.int .i64 n] w fun e w' => e = .returned (.int .i64 (n % 7)) ∧ w = w' := by
  have c := tmod_cases n (k := 7) (by omega)
  have b1 : -7 < n.tmod 7 := by omega
  have b2 : n.tmod 7 < 7 := by omega
  have C := Lib.hid c; clear c
  go_enter Tryz.func132, Tryz.ntmps132
  go_wp2
  go_ret
  exact ⟨ret_int (by have h := C.out; generalize n.tmod 7 = t at *; rcases h with h | h | h <;> omega), rfl⟩

set_option maxHeartbeats 400000 in
theorem yearOf_any (n : Int) (w : World) (h1 : 1 ≤ n) (h2 : n ≤ 3652059) :
    Calls Tryz.prog 105 #[.int .i64 n] w fun e w' => e = .returned (.int .i64 (Cal.yr n)) ∧ w = w' := by
  have g := Cal.guess_bd h1 h2
  unfold Cal.guess at g
  go_enter Tryz.func105, Tryz.ntmps105
  go_wp2_with (go_at_call 106; refine (before_any _ _ (by omega) (by omega)).mono ?_; rintro e w' ⟨rfl, rfl⟩)
  all_goals go_ret
  · refine ⟨ret_int ?_, rfl⟩
    unfold Cal.yr; rw [if_pos (by assumption)]; rfl
  · refine ⟨ret_int ?_, rfl⟩
    unfold Cal.yr; rw [if_neg (by show ¬ Cal.dby ((n - 1) * 400 / 146097 + 1 + 1) < n; omega)]; rfl
end Go.Proofs.YtmbmkldcedkbmaaGreat
namespace Go.Proofs.YtmbmkldcedkbmaaGreat
open Go.RowKit

set_option maxHeartbeats 1000000 in
theorem right_any (y m d : Int) (w : World) :
    Calls Tryz.prog 124 #[.agg #[.int .i64 y, .int .i64 m, .int .i64 d]] w fun e w' => e = .returned (.bool (Cal.okB y m d)) ∧ Gr w w' := by
  by_cases a1 : 1 ≤ y
  · by_cases a2 : y ≤ 9999
    · by_cases a3 : 1 ≤ d
      · go_enter Tryz.func124, Tryz.ntmps124
        go_wp2
        go_quiet ((go_at_call 104; exact qsame (length_any _ _ _)))
        go_wp2
        go_ret
        exact ⟨ret_bool (by rw [Bool.eq_iff_iff, Cal.okB_iff]; simp [a1, a2, a3]), ((Gr.refl _).alloc _ _).drewN _⟩
      · have b : decide (1 ≤ d) = false := by simpa using a3
        go_enter Tryz.func124, Tryz.ntmps124
        go_wp2
        go_quiet (fail)
        go_wp2
        go_ret
        exact ⟨ret_bool (by symm; simp only [Cal.okB, decide_eq_false_iff_not]; omega), ((Gr.refl _).alloc _ _).drewN _⟩
    · have b : decide (y ≤ 9999) = false := by simpa using a2
      go_enter Tryz.func124, Tryz.ntmps124
      go_wp2
      go_quiet (fail)
      go_wp2
      go_ret
      exact ⟨ret_bool (by symm; simp only [Cal.okB, decide_eq_false_iff_not]; omega), ((Gr.refl _).alloc _ _).drewN _⟩
  · have b : decide (1 ≤ y) = false := by simpa using a1
    go_enter Tryz.func124, Tryz.ntmps124
    go_wp2
    go_quiet (fail)
    go_wp2
    go_ret
    exact ⟨ret_bool (by symm; simp only [Cal.okB, decide_eq_false_iff_not]; omega), ((Gr.refl _).alloc _ _).drewN _⟩
end Go.Proofs.YtmbmkldcedkbmaaGreat
namespace Go.Proofs.YtmbmkldcedkbmaaGreat
open Go.RowKit

set_option maxHeartbeats 1000000 in
theorem day_no (y m d : Int) (w : World) (h : Cal.okB y m d = false) :
    Calls Tryz.prog 103 #[.agg #[.int .i64 y, .int .i64 m, .int .i64 d]] w fun e w' => e = .returned (.tuple #[.int .i64 0, .int .i64 2]) ∧ Gr w w' := by
  have H := Lib.hid h; clear h
  go_enter Tryz.func103, Tryz.ntmps103
  go_wp2_with fail
  refine (right_any _ _ _ _).mono ?_
  rintro e w1 ⟨rfl, hb⟩
  rw [H.out]
  go_wp2
  go_ret2
  exact ⟨rfl, ((Gr.refl _).alloc _ _).trans hb⟩

set_option maxHeartbeats 1000000 in
theorem day_yes (y m d : Int) (w : World) (h : Cal.okB y m d = true) :
    Calls Tryz.prog 103 #[.agg #[.int .i64 y, .int .i64 m, .int .i64 d]] w fun e w' => e = .returned (.tuple #[.int .i64 (Cal.num y m d), .int .i64 0]) ∧ Gr w w' := by
  obtain ⟨m1, m2⟩ := Cal.okB_month h
  have hn := Cal.num_bd h
  have h' := Cal.okB_iff.1 h
  obtain ⟨y1, y2, d1, d2⟩ := h'
  have hd := (Cal.dim_bd y m).2
  have hby := Cal.dby_bd (a := y) (by omega) (by omega)
  have H := Lib.hid h; clear h
  go_enter Tryz.func103, Tryz.ntmps103
  go_wp2_with fail
  refine (right_any _ _ _ _).mono ?_
  rintro e w1 ⟨rfl, hb⟩
  rw [H.out]
  obtain ⟨c0, c1, c2⟩ := box3 hb
  go_wp2
  go_quiet ((go_at_call 106; exact qsame (before_any _ _ (by omega) (by omega))))
  go_wp2
  go_loop [4, 5] (fun t i => ∃ k : Int, 1 ≤ k ∧ k ≤ m ∧ i = .int .i64 k ∧ t = .int .i64 (Cal.num y k d)) (fun _ i => (m - intOf i).toNat)
  case atStart => exact ⟨1, by omega, by omega, rfl, by simp [Cal.num, Cal.cum_1]⟩
  case round =>
    obtain ⟨k, k1, k2, rfl, rfl⟩ := hrel
    have kb := Cal.cum_bd y k1 (by omega)
    have ld := Cal.dim_bd y k
    have nb : 0 ≤ Cal.num y k d ∧ Cal.num y k d ≤ 9000000 := by unfold Cal.num; omega
    by_cases hlt : k < m
    · have s := Cal.cum_succ y k1 (by omega)
      have HS : Hid (Cal.num y (k + 1) d = Cal.num y k d + Cal.dim y k) := by unfold Cal.num; show _ = _; omega
      clear s
      go_wp2_with (go_at_call 104; refine (length_any _ _ _).mono ?_; rintro e w' ⟨rfl, rfl⟩)
      go_round
      case rel => exact ⟨k + 1, by omega, by omega, rfl, by rw [HS.out]⟩
      case measure => simp [intOf]; omega
    · go_wp2
      go_ret2
      obtain rfl : k = m := by omega
      exact ⟨rfl, (((Gr.refl _).alloc _ _).trans hb).drewN _⟩

set_option maxHeartbeats 1000000 in
theorem inyear_yes (n : Int) (w : World) (h : Cal.dayB n = true) :
    Calls Tryz.prog 146 #[.int .i64 n] w fun e w' => e = .returned (.tuple #[.int .i64 (n - Cal.dby (Cal.yr n)), .int .i64 0]) ∧ w = w' := by
  obtain ⟨n1, n2⟩ := Cal.dayB_iff.1 h
  have yb := Cal.yr_bd n1 n2
  have lb := Cal.dby_bd (a := Cal.yr n) (by omega) (by omega)
  have H := Lib.hid h; clear h
  go_enter Tryz.func146, Tryz.ntmps146
  go_wp2_with fail
  refine (of_any _ _).mono ?_
  rintro e w' ⟨rfl, rfl⟩
  rw [H.out]
  go_wp2_with (first | (go_at_call 105; refine (yearOf_any _ _ (by omega) (by omega)).mono ?_; rintro e w' ⟨rfl, rfl⟩) | (go_at_call 106; refine (before_any _ _ (by omega) (by omega)).mono ?_; rintro e w' ⟨rfl, rfl⟩))
  go_ret2
  exact ⟨rfl, rfl⟩
set_option maxHeartbeats 1000000 in
theorem inyear_no (n : Int) (w : World) (h : Cal.dayB n = false) :
    Calls Tryz.prog 146 #[.int .i64 n] w fun e w' => e = .returned (.tuple #[.int .i64 0, .int .i64 2]) ∧ w = w' := by
  have H := Lib.hid h; clear h
  go_enter Tryz.func146, Tryz.ntmps146
  go_wp2_with fail
  refine (of_any _ _).mono ?_
  rintro e w' ⟨rfl, rfl⟩
  rw [H.out]
  go_wp2
  go_ret2
  exact ⟨rfl, rfl⟩
set_option maxHeartbeats 1000000 in
theorem date_no (n : Int) (w : World) (h : Cal.dayB n = false) :
    Calls Tryz.prog 74 #[.int .i64 n] w fun e w' => e = .returned (.tuple #[.agg #[.int .i64 0, .int .i64 0, .int .i64 0], .int .i64 2]) ∧ Gr w w' := by
  have H := Lib.hid h; clear h
  go_enter Tryz.func74, Tryz.ntmps74
  go_wp2_with fail
  refine (of_any _ _).mono ?_
  rintro e w' ⟨rfl, rfl⟩
  rw [H.out]
  go_wp2
  exact bodyPost_ret (v := .tuple #[.agg #[.int .i64 0, .int .i64 0, .int .i64 0], .int .i64 2]) (by simp [results, Tryz.results74, go_sem]) rfl ⟨rfl, (Gr.refl _).alloc _ _⟩

set_option maxHeartbeats 1000000 in
theorem date_yes (n : Int) (w : World) (h : Cal.dayB n = true) :
    Calls Tryz.prog 74 #[.int .i64 n] w fun e w' => e = .returned (.tuple #[.agg #[.int .i64 (Cal.yr n), .int .i64 (Cal.mon n), .int .i64 (Cal.dom n)], .int .i64 0]) ∧ Gr w w' := by
  obtain ⟨n1, n2⟩ := Cal.dayB_iff.1 h
  have yb := Cal.yr_bd n1 n2
  have lb := Cal.dby_bd (a := Cal.yr n) (by omega) (by omega)
  have y1 := Cal.yr_lo n
  have y2 := Cal.yr_hi n
  have c1 := Cal.cum_1 (Cal.yr n)
  have c13 := Cal.cum_13 (Cal.yr n)
  have es := Cal.dby_succ (Cal.yr n)
  have l01 := Cal.lp_01 (Cal.yr n)
  have HU : Hid (∀ m, 1 ≤ m → m ≤ 12 → Cal.cum (Cal.yr n) m < n - Cal.dby (Cal.yr n) → n - Cal.dby (Cal.yr n) ≤ Cal.cum (Cal.yr n) (m + 1) → Cal.mon n = m ∧ Cal.dom n = n - Cal.dby (Cal.yr n) - Cal.cum (Cal.yr n) m) := by
    intro m m1 m2 a b
    have e : Cal.mon n = m := Cal.mo_unique m1 m2 a b
    exact ⟨e, by unfold Cal.dom; rw [e]⟩
  have r1 : 1 ≤ n - Cal.dby (Cal.yr n) := by omega
  have r2 : n - Cal.dby (Cal.yr n) ≤ Cal.cum (Cal.yr n) 13 := by omega
  have HC := Lib.hid (And.intro c1 c13)
  clear c1 c13 es
  have H := Lib.hid h; clear h
  go_enter Tryz.func74, Tryz.ntmps74
  go_wp2_with fail
  refine (of_any _ _).mono ?_
  rintro e w' ⟨rfl, rfl⟩
  rw [H.out]
  go_wp2_with (first | (go_at_call 105; refine (yearOf_any _ _ (by omega) (by omega)).mono ?_; rintro e w' ⟨rfl, rfl⟩) | (go_at_call 106; refine (before_any _ _ (by omega) (by omega)).mono ?_; rintro e w' ⟨rfl, rfl⟩))
  go_loop [5, 6] (fun t i => ∃ k : Int, 1 ≤ k ∧ k ≤ 12 ∧ i = .int .i64 k ∧ Cal.cum (Cal.yr n) k < n - Cal.dby (Cal.yr n) ∧ t = .int .i64 (n - Cal.dby (Cal.yr n) - Cal.cum (Cal.yr n) k)) (fun _ i => (12 - intOf i).toNat)
  case atStart => exact ⟨1, by omega, by omega, rfl, by rw [HC.out.1]; omega, by rw [HC.out.1]; simp⟩
  case round =>
    obtain ⟨k, k1, k2, rfl, hlo, rfl⟩ := hrel
    have kb := Cal.cum_bd (Cal.yr n) k1 (by omega)
    have ld := Cal.dim_bd (Cal.yr n) k
    have s := Cal.cum_succ (Cal.yr n) k1 k2
    by_cases hlt : Cal.dim (Cal.yr n) k < n - Cal.dby (Cal.yr n) - Cal.cum (Cal.yr n) k
    · have k3 : k < 12 := by
        by_cases e : k = 12
        · subst e; have : Cal.cum (Cal.yr n) (12 + 1) = Cal.cum (Cal.yr n) 13 := rfl; omega
        · omega
      have HS := Lib.hid s; clear s
      go_wp2_with (go_at_call 104; refine (length_any _ _ _).mono ?_; rintro e w' ⟨rfl, rfl⟩)
      go_round
      case rel => exact ⟨k + 1, by omega, by omega, rfl, by rw [HS.out]; omega, by rw [HS.out]; go_num⟩
      case measure => simp [intOf]; omega
    · obtain ⟨u1, u2⟩ := HU.out k k1 k2 hlo (by omega)
      have U1 := Lib.hid u1; have U2 := Lib.hid u2
      clear s u1 u2
      go_wp2_with (go_at_call 104; refine (length_any _ _ _).mono ?_; rintro e w' ⟨rfl, rfl⟩)
      rw [U1.out, U2.out]
      exact bodyPost_ret (v := .tuple #[.agg #[.int .i64 (Cal.yr n), .int .i64 k, .int .i64 (n - Cal.dby (Cal.yr n) - Cal.cum (Cal.yr n) k)], .int .i64 0]) (by simp [results, Tryz.results74, go_sem]) rfl ⟨rfl, (Gr.refl _).alloc _ _⟩
end Go.Proofs.YtmbmkldcedkbmaaGreat
namespace Go.Proofs.YtmbmkldcedkbmaaGreat
open Go.RowKit

set_option maxHeartbeats 400000 in
theorem in_any (n : Int) (w : World) :
    Calls Tryz.prog 115 #[.int .i64 n] w fun e w' => e = .returned (.bool (Cal.dayB n)) ∧ w = w' := by
  go_enter Tryz.func115, Tryz.ntmps115
  go_wp2
  all_goals go_ret
  all_goals refine ⟨ret_bool ?_, rfl⟩
  all_goals rw [Bool.eq_iff_iff, Cal.dayB_iff]
  all_goals simp
  all_goals omega

end Go.Proofs.YtmbmkldcedkbmaaGreat
namespace Go.Proofs.YtmbmkldcedkbmaaGreat
open Go.RowKit

namespace Clk
def okB (a : Int) : Bool := decide (86400 ≤ a) && decide (a ≤ 315537983999)
theorem okB_iff {a : Int} : okB a = true ↔ 86400 ≤ a ∧ a ≤ 315537983999 := by simp [okB]
theorem okB_not {a : Int} : okB a = false ↔ ¬ (86400 ≤ a ∧ a ≤ 315537983999) := by rw [← okB_iff]; simp
theorem okB_day {a : Int} (h : okB a = true) : Cal.dayB (a / 86400) = true := by
  have := okB_iff.1 h
  exact Cal.dayB_iff.2 ⟨by omega, by omega⟩
def secB (s : Int) : Bool := decide (0 ≤ s) && decide (s < 86400)
theorem secB_iff {a : Int} : secB a = true ↔ 0 ≤ a ∧ a < 86400 := by simp [secB]
def timB (h m s : Int) : Bool := decide (0 ≤ h) && decide (h ≤ 23) && decide (0 ≤ m) && decide (m ≤ 59) && decide (0 ≤ s) && decide (s ≤ 59)
theorem timB_iff {h m s : Int} : timB h m s = true ↔ 0 ≤ h ∧ h ≤ 23 ∧ 0 ≤ m ∧ m ≤ 59 ∧ 0 ≤ s ∧ s ≤ 59 := by simp [timB, and_assoc]
end Clk

set_option maxHeartbeats 400000 in
theorem cright_any (a : Int) (w : World) : Calls Tryz.prog 34 #[.int .i64 a] w fun e w' => e = .returned (.bool (Clk.okB a)) ∧ w = w' := by
  by_cases h1 : 86400 ≤ a
  · by_cases h2 : a ≤ 315537983999
    · rw [Clk.okB_iff.2 ⟨h1, h2⟩]
      go_enter Tryz.func34, Tryz.ntmps34
      go_wp2
      go_ret
      exact ⟨rfl, rfl⟩
    · rw [Clk.okB_not.2 (fun h => h2 h.2)]
      go_enter Tryz.func34, Tryz.ntmps34
      go_wp2
      go_ret
      exact ⟨rfl, rfl⟩
  · rw [Clk.okB_not.2 (fun h => h1 h.1)]
    go_enter Tryz.func34, Tryz.ntmps34
    go_wp2
    go_ret
    exact ⟨rfl, rfl⟩
set_option maxHeartbeats 400000 in
theorem rright_any (a : Int) (w : World) : Calls Tryz.prog 11 #[.int .i64 a] w fun e w' => e = .returned (.bool (Clk.okB a)) ∧ w = w' := by
  by_cases h1 : 86400 ≤ a
  · by_cases h2 : a < 315537984000
    · rw [Clk.okB_iff.2 ⟨h1, by omega⟩]
      go_enter Tryz.func11, Tryz.ntmps11
      go_wp2
      go_ret
      exact ⟨rfl, rfl⟩
    · rw [Clk.okB_not.2 (fun h => by omega)]
      go_enter Tryz.func11, Tryz.ntmps11
      go_wp2
      go_ret
      exact ⟨rfl, rfl⟩
  · rw [Clk.okB_not.2 (fun h => h1 h.1)]
    go_enter Tryz.func11, Tryz.ntmps11
    go_wp2
    go_ret
    exact ⟨rfl, rfl⟩

set_option maxHeartbeats 400000 in
theorem cday_yes (a : Int) (w : World) (h : Clk.okB a = true) : Calls Tryz.prog 35 #[.int .i64 a] w fun e w' => e = .returned (.int .i64 (a / 86400)) ∧ w = w' := by
  have hb := Clk.okB_iff.1 h
  have H := Lib.hid h; clear h
  go_enter Tryz.func35, Tryz.ntmps35
  go_wp2_with fail
  refine (cright_any _ _).mono ?_
  rintro e w' ⟨rfl, rfl⟩
  rw [H.out]
  go_wp2
  go_ret
  exact ⟨rfl, rfl⟩
set_option maxHeartbeats 400000 in
theorem cday_no (a : Int) (w : World) (h : Clk.okB a = false) : Calls Tryz.prog 35 #[.int .i64 a] w fun e w' => e = .returned (.int .i64 0) ∧ w = w' := by
  have H := Lib.hid h; clear h
  go_enter Tryz.func35, Tryz.ntmps35
  go_wp2_with fail
  refine (cright_any _ _).mono ?_
  rintro e w' ⟨rfl, rfl⟩
  rw [H.out]
  go_wp2
  go_ret
  exact ⟨rfl, rfl⟩
set_option maxHeartbeats 400000 in
theorem csec_yes (a : Int) (w : World) (h : Clk.okB a = true) : Calls Tryz.prog 102 #[.int .i64 a] w fun e w' => e = .returned (.int .i64 (a % 86400)) ∧ w = w' := by
  have hb := Clk.okB_iff.1 h
  have H := Lib.hid h; clear h
  go_enter Tryz.func102, Tryz.ntmps102
  go_wp2_with fail
  refine (cright_any _ _).mono ?_
  rintro e w' ⟨rfl, rfl⟩
  rw [H.out]
  go_wp2
  go_ret
  exact ⟨rfl, rfl⟩
set_option maxHeartbeats 400000 in
theorem csec_no (a : Int) (w : World) (h : Clk.okB a = false) : Calls Tryz.prog 102 #[.int .i64 a] w fun e w' => e = .returned (.int .i64 0) ∧ w = w' := by
  have H := Lib.hid h; clear h
  go_enter Tryz.func102, Tryz.ntmps102
  go_wp2_with fail
  refine (cright_any _ _).mono ?_
  rintro e w' ⟨rfl, rfl⟩
  rw [H.out]
  go_wp2
  go_ret
  exact ⟨rfl, rfl⟩

set_option maxHeartbeats 400000 in
theorem cat_yes (n s : Int) (w : World) (h : Cal.dayB n = true) (hs : Clk.secB s = true) : Calls Tryz.prog 44 #[.int .i64 n, .int .i64 s] w fun e w' => e = .returned (.tuple #[.int .i64 (n * 86400 + s), .int .i64 0]) ∧ w = w' := by
  obtain ⟨n1, n2⟩ := Cal.dayB_iff.1 h
  obtain ⟨s1, s2⟩ := Clk.secB_iff.1 hs
  have H := Lib.hid h; clear h hs
  have d1 : decide (s < 0) = false := by simp; omega
  have d2 : decide (86400 ≤ s) = false := by simp; omega
  go_enter Tryz.func44, Tryz.ntmps44
  go_wp2_with fail
  refine (of_any _ _).mono ?_
  rintro e w' ⟨rfl, rfl⟩
  rw [H.out]
  go_wp2
  go_ret2
  exact ⟨rfl, rfl⟩
set_option maxHeartbeats 400000 in
theorem cat_no (n s : Int) (w : World) (h : Cal.dayB n = false ∨ Clk.secB s = false) : Calls Tryz.prog 44 #[.int .i64 n, .int .i64 s] w fun e w' => e = .returned (.tuple #[.int .i64 0, .int .i64 2]) ∧ w = w' := by
  rcases hd : Cal.dayB n
  · have H := Lib.hid hd; clear h hd
    go_enter Tryz.func44, Tryz.ntmps44
    go_wp2_with fail
    refine (of_any _ _).mono ?_
    rintro e w' ⟨rfl, rfl⟩
    rw [H.out]
    go_wp2
    go_ret2
    exact ⟨rfl, rfl⟩
  · have hs : ¬ (0 ≤ s ∧ s < 86400) := by
      rw [← Clk.secB_iff]; rcases h with h | h
      · simp [h] at hd
      · simp [h]
    have H := Lib.hid hd; clear h hd
    by_cases d1 : s < 0
    · clear hs
      go_enter Tryz.func44, Tryz.ntmps44
      go_wp2_with fail
      refine (of_any _ _).mono ?_
      rintro e w' ⟨rfl, rfl⟩
      rw [H.out]
      go_wp2
      go_ret2
      exact ⟨rfl, rfl⟩
    · have d2 : 86400 ≤ s := by omega
      have d1' : decide (s < 0) = false := by simp; omega
      clear hs d1
      go_enter Tryz.func44, Tryz.ntmps44
      go_wp2_with fail
      refine (of_any _ _).mono ?_
      rintro e w' ⟨rfl, rfl⟩
      rw [H.out]
      go_wp2
      go_ret2
      exact ⟨rfl, rfl⟩

end Go.Proofs.YtmbmkldcedkbmaaGreat
namespace Go.Proofs.YtmbmkldcedkbmaaGreat
open Go.RowKit

/- two boxes of three cells each -/
structure Box2 (w : World) (b c : Nat) (x0 x1 x2 y0 y1 y2 : Value) : Prop where
  b0 : w.cell? ⟨b, 0, none⟩ = some x0
  b1 : w.cell? ⟨b, 1, none⟩ = some x1
  b2 : w.cell? ⟨b, 2, none⟩ = some x2
  c0 : w.cell? ⟨c, 0, none⟩ = some y0
  c1 : w.cell? ⟨c, 1, none⟩ = some y1
  c2 : w.cell? ⟨c, 2, none⟩ = some y2
theorem Box2.set {w : World} {b c : Nat} {x0 x1 x2 y0 y1 y2 : Value} (h : Box2 w b c x0 x1 x2 y0 y1 y2) (hbc : b ≠ c) (p q r s t u : Value) :
    Box2 ((((((w.setCell ⟨b, 0, none⟩ p).setCell ⟨b, 1, none⟩ q).setCell ⟨b, 2, none⟩ r).setCell ⟨c, 0, none⟩ s).setCell ⟨c, 1, none⟩ t).setCell ⟨c, 2, none⟩ u) b c p q r s t u := by
  have hcb : c ≠ b := fun e => hbc e.symm
  obtain ⟨k0, k1, k2⟩ := box_set3 h.b0 h.b1 h.b2 p q r
  have j0 : (((w.setCell ⟨b, 0, none⟩ p).setCell ⟨b, 1, none⟩ q).setCell ⟨b, 2, none⟩ r).cell? ⟨c, 0, none⟩ = some y0 := by
    rw [World.cell?_setCell_other (h := by simp), World.cell?_setCell_other (h := by simp), World.cell?_setCell_other (h := by simp)]; exact h.c0
  have j1 : (((w.setCell ⟨b, 0, none⟩ p).setCell ⟨b, 1, none⟩ q).setCell ⟨b, 2, none⟩ r).cell? ⟨c, 1, none⟩ = some y1 := by
    rw [World.cell?_setCell_other (h := by simp), World.cell?_setCell_other (h := by simp), World.cell?_setCell_other (h := by simp)]; exact h.c1
  have j2 : (((w.setCell ⟨b, 0, none⟩ p).setCell ⟨b, 1, none⟩ q).setCell ⟨b, 2, none⟩ r).cell? ⟨c, 2, none⟩ = some y2 := by
    rw [World.cell?_setCell_other (h := by simp), World.cell?_setCell_other (h := by simp), World.cell?_setCell_other (h := by simp)]; exact h.c2
  obtain ⟨i0, i1, i2⟩ := box_set3 j0 j1 j2 s t u
  refine ⟨?_, ?_, ?_, i0, i1, i2⟩
  · rw [World.cell?_setCell_other (h := by simp), World.cell?_setCell_other (h := by simp), World.cell?_setCell_other (h := by simp)]; exact k0
  · rw [World.cell?_setCell_other (h := by simp), World.cell?_setCell_other (h := by simp), World.cell?_setCell_other (h := by simp)]; exact k1
  · rw [World.cell?_setCell_other (h := by simp), World.cell?_setCell_other (h := by simp), World.cell?_setCell_other (h := by simp)]; exact k2
set_option maxHeartbeats 1000000 in
theorem cparts_yes (a : Int) (w : World) (h : Clk.okB a = true) :
    Calls Tryz.prog 69 #[.int .i64 a] w fun e w' => e = .returned (.tuple #[.agg #[.int .i64 (Cal.yr (a / 86400)), .int .i64 (Cal.mon (a / 86400)), .int .i64 (Cal.dom (a / 86400))], .agg #[.int .i64 (a % 86400 / 3600), .int .i64 (a % 3600 / 60), .int .i64 (a % 60)], .int .i64 0]) ∧ Gr w w' := by
  have hn := Clk.okB_day h
  have HN := Lib.hid hn
  have s1 : 0 ≤ a % 86400 := by omega
  have s2 : a % 86400 < 86400 := by omega
  have H := Lib.hid h; clear h hn
  go_enter Tryz.func69, Tryz.ntmps69
  go_wp2_with fail
  refine (cday_yes _ _ H.out).mono ?_
  rintro e w' ⟨rfl, rfl⟩
  go_wp2_with fail
  refine (date_yes _ _ HN.out).mono ?_
  rintro e w1 ⟨rfl, hb⟩
  go_wp2_with fail
  have hb2 := (Gr.alloc (Gr.refl w1) #[.int .i64 (Cal.yr (a / 86400)), .int .i64 (Cal.mon (a / 86400)), .int .i64 (Cal.dom (a / 86400))] 85)
  obtain ⟨l0, l1, l2⟩ := box_now w1 (.int .i64 (Cal.yr (a / 86400))) (.int .i64 (Cal.mon (a / 86400))) (.int .i64 (Cal.dom (a / 86400))) 85
  generalize w1.alloc (.cells #[.int .i64 (Cal.yr (a / 86400)), .int .i64 (Cal.mon (a / 86400)), .int .i64 (Cal.dom (a / 86400))] 85) = w2 at *
  have hg := hb.trans hb2
  have hg' := ((Gr.refl _).alloc _ _).trans hg
  obtain ⟨x0, x1, x2⟩ := box3 hg'
  have f0 := box_free hg' 0
  have f1 := box_free hg' 1
  have f2 := box_free hg' 2
  have hz : ∀ o, (w.alloc o).heap.size = w.heap.size + 1 := fun o => by simp
  obtain ⟨y0, y1, y2⟩ := box3 hg
  have g0 := box_free hg 0
  have g1 := box_free hg 1
  have g2 := box_free hg 2
  rw [hz] at y0 y1 y2 g0 g1 g2
  have bx : Box2 w2 w.heap.size (w.heap.size + 1) _ _ _ _ _ _ := ⟨x0, x1, x2, y0, y1, y2⟩
  have BX := Lib.hid bx
  clear bx
  refine (csec_yes _ _ H.out).mono ?_
  rintro e w' ⟨rfl, rfl⟩
  go_wp2
  have hB := BX.out.set (by omega) (.int .i64 (Cal.yr (a / 86400))) (.int .i64 (Cal.mon (a / 86400))) (.int .i64 (Cal.dom (a / 86400))) (.int .i64 (a % 86400 / 3600)) (.int .i64 (a % 3600 / 60)) (.int .i64 (a % 60))
  have hw : Gr w ((((((w2.setCell ⟨w.heap.size, 0, none⟩ (.int .i64 (Cal.yr (a / 86400)))).setCell ⟨w.heap.size, 1, none⟩ (.int .i64 (Cal.mon (a / 86400)))).setCell ⟨w.heap.size, 2, none⟩ (.int .i64 (Cal.dom (a / 86400)))).setCell ⟨w.heap.size + 1, 0, none⟩ (.int .i64 (a % 86400 / 3600))).setCell ⟨w.heap.size + 1, 1, none⟩ (.int .i64 (a % 3600 / 60))).setCell ⟨w.heap.size + 1, 2, none⟩ (.int .i64 (a % 60))) :=
    ((((((((Gr.refl w).alloc _ _).trans hg').setCell (Nat.le_refl _) _).setCell (Nat.le_refl _) _).setCell (Nat.le_refl _) _).setCell (Nat.le_succ _) _).setCell (Nat.le_succ _) _).setCell (Nat.le_succ _) _
  clear BX
  generalize World.setCell _ _ _ = W at *
  exact bodyPost_ret (v := .tuple #[.agg #[.int .i64 (Cal.yr (a / 86400)), .int .i64 (Cal.mon (a / 86400)), .int .i64 (Cal.dom (a / 86400))], .agg #[.int .i64 (a % 86400 / 3600), .int .i64 (a % 3600 / 60), .int .i64 (a % 60)], .int .i64 0]) (by simp [results, Tryz.results69, go_sem, hB.b0, hB.b1, hB.b2, hB.c0, hB.c1, hB.c2]) rfl ⟨rfl, hw⟩
set_option maxHeartbeats 1000000 in
theorem cparts_no (a : Int) (w : World) (h : Clk.okB a = false) :
    Calls Tryz.prog 69 #[.int .i64 a] w fun e w' => e = .returned (.tuple #[.agg #[.int .i64 0, .int .i64 0, .int .i64 0], .agg #[.int .i64 0, .int .i64 0, .int .i64 0], .int .i64 2]) ∧ Gr w w' := by
  have H := Lib.hid h; clear h
  go_enter Tryz.func69, Tryz.ntmps69
  go_wp2_with fail
  refine (cday_no _ _ H.out).mono ?_
  rintro e w' ⟨rfl, rfl⟩
  go_wp2_with fail
  refine (date_no _ _ rfl).mono ?_
  rintro e w1 ⟨rfl, hb⟩
  have hb2 := hb.trans (Gr.alloc (Gr.refl w1) #[.int .i64 0, .int .i64 0, .int .i64 0] 85)
  have hz : ∀ o, (w.alloc o).heap.size = w.heap.size + 1 := fun o => by simp
  have hb2' := ((Gr.refl _).alloc _ _).trans hb2
  obtain ⟨x0, x1, x2⟩ := box3 hb2'
  have f0 := box_free hb2' 0
  have f1 := box_free hb2' 1
  have f2 := box_free hb2' 2
  obtain ⟨y0, y1, y2⟩ := box3 hb2
  have g0 := box_free hb2 0
  have g1 := box_free hb2 1
  have g2 := box_free hb2 2
  rw [hz] at y0 y1 y2 g0 g1 g2
  have bx : Box2 _ w.heap.size (w.heap.size + 1) _ _ _ _ _ _ := ⟨x0, x1, x2, y0, y1, y2⟩
  have BX := Lib.hid bx
  clear bx
  go_wp2
  have hB := BX.out.set (by omega) (.int .i64 0) (.int .i64 0) (.int .i64 0) (.int .i64 0) (.int .i64 0) (.int .i64 0)
  have hw := ((((((((Gr.refl w).alloc _ _).trans hb2').setCell (a := ⟨w.heap.size, 0, none⟩) (Nat.le_refl _) (.int .i64 0)).setCell (a := ⟨w.heap.size, 1, none⟩) (Nat.le_refl _) (.int .i64 0)).setCell (a := ⟨w.heap.size, 2, none⟩) (Nat.le_refl _) (.int .i64 0)).setCell (a := ⟨w.heap.size + 1, 0, none⟩) (Nat.le_succ _) (.int .i64 0)).setCell (a := ⟨w.heap.size + 1, 1, none⟩) (Nat.le_succ _) (.int .i64 0)).setCell (a := ⟨w.heap.size + 1, 2, none⟩) (Nat.le_succ _) (.int .i64 0)
  clear BX
  generalize World.setCell _ _ _ = W at *
  exact bodyPost_ret (v := .tuple #[.agg #[.int .i64 0, .int .i64 0, .int .i64 0], .agg #[.int .i64 0, .int .i64 0, .int .i64 0], .int .i64 2]) (by simp [results, Tryz.results69, go_sem, hB.b0, hB.b1, hB.b2, hB.c0, hB.c1, hB.c2]) rfl ⟨rfl, hw⟩
end Go.Proofs.YtmbmkldcedkbmaaGreat
namespace Go.Proofs.YtmbmkldcedkbmaaGreat
open Go.RowKit

namespace Clk
/- the number that a text's digits make, and its parts -/
def vY (l : List UInt8) : Int := (Txt.val l 0 : Int) / 10000
def vM (l : List UInt8) : Int := (Txt.val l 0 : Int) / 100 % 100
def vD (l : List UInt8) : Int := (Txt.val l 0 : Int) % 100
def txtB (l : List UInt8) : Bool := (l.take 8).all Txt.isD && (l.drop 9).all Txt.isD && decide (l.length = 15) && decide (l[8]? = some 84)
def parB (l : List UInt8) : Bool := txtB l && Cal.okB (vY (l.take 8)) (vM (l.take 8)) (vD (l.take 8)) && timB (vY (l.drop 9)) (vM (l.drop 9)) (vD (l.drop 9))
def parV (l : List UInt8) : Int := Cal.num (vY (l.take 8)) (vM (l.take 8)) (vD (l.take 8)) * 86400 + (vY (l.drop 9) * 3600 + vM (l.drop 9) * 60 + vD (l.drop 9))
def dayB (l : List UInt8) : Bool := l.all Txt.isD && decide (l.length = 8) && Cal.okB (vY l) (vM l) (vD l)
end Clk
theorem ext8 (s : ByteArray) : (s.extract 0 8).data.toList = s.data.toList.take 8 := by rw [Lib.extract_data]; simp
theorem ext9 (s : ByteArray) (h : s.size = 15) : (s.extract 9 15).data.toList = s.data.toList.drop 9 := by
  rw [Lib.extract_data]; refine List.take_of_length_le ?_
  rw [List.length_drop, ← Lib.size_eq, h]; decide
theorem sz8 (s : ByteArray) : (s.extract 0 8).size ≤ 8 := by rw [Lib.size_eq, ext8, List.length_take]; omega
theorem sz9 (s : ByteArray) (h : s.size = 15) : (s.extract 9 15).size ≤ 8 := by rw [Lib.size_eq, ext9 s h, List.length_drop, ← Lib.size_eq, h]; decide
theorem at8 (s : ByteArray) (h : 8 < s.size) : s.data.toList[8]? = some s[8] := by
  rw [List.getElem?_eq_getElem (by rw [← Lib.size_eq]; exact h)]; rfl

end Go.Proofs.YtmbmkldcedkbmaaGreat
namespace Go.Proofs.YtmbmkldcedkbmaaGreat
open Go.RowKit

end Go.Proofs.YtmbmkldcedkbmaaGreat
