/- When a rule is formed, as the reference asks it: plain mathematics over the lengths of the lists. -/
import Derived.Test.YtmbmkldcedkbmaaGreatZRcForm
import Derived.Test.YtmbmkldcedkbmaaGreatZRcFmM
namespace Go.Proofs.YtmbmkldcedkbmaaGreat
namespace Rm

theorem fm_iff (r : Ru) : fm r = true ↔ (1 ≤ r.freq ∧ r.freq ≤ 4 ∧ 1 ≤ r.ivl ∧ r.ivl ≤ 1000 ∧ 0 ≤ r.cnt ∧ r.cnt ≤ 1000 ∧ 0 ≤ r.st ∧ r.st ≤ 6) ∧ fmU r = true ∧ (∀ i, i < 8 → fine i (r.ls i) = true) ∧ fineD r.day = true ∧ fmX r = true := by
  have h1 : fm1 r = true ↔ (1 ≤ r.freq ∧ r.freq ≤ 4 ∧ 1 ≤ r.ivl ∧ r.ivl ≤ 1000 ∧ 0 ≤ r.cnt ∧ r.cnt ≤ 1000 ∧ 0 ≤ r.st ∧ r.st ≤ 6) := by
    unfold fm1
    simp only [Bool.and_eq_true, decide_eq_true_eq, and_assoc]
  have h2 : fmL r = true ↔ (∀ i, i < 8 → fine i (r.ls i) = true) ∧ fineD r.day = true := by
    unfold fmL
    simp only [Bool.and_eq_true]
    constructor
    · rintro ⟨⟨⟨⟨⟨⟨⟨⟨l0, l1⟩, l2⟩, lD⟩, l3⟩, l4⟩, l5⟩, l6⟩, l7⟩
      refine ⟨fun i hi => ?_, lD⟩
      rcases (show i = 0 ∨ i = 1 ∨ i = 2 ∨ i = 3 ∨ i = 4 ∨ i = 5 ∨ i = 6 ∨ i = 7 by omega) with rfl | rfl | rfl | rfl | rfl | rfl | rfl | rfl
      · exact l0
      · exact l1
      · exact l2
      · exact l3
      · exact l4
      · exact l5
      · exact l6
      · exact l7
    · rintro ⟨h, lD⟩
      exact ⟨⟨⟨⟨⟨⟨⟨⟨h 0 (by decide), h 1 (by decide)⟩, h 2 (by decide)⟩, lD⟩, h 3 (by decide)⟩, h 4 (by decide)⟩, h 5 (by decide)⟩, h 6 (by decide)⟩, h 7 (by decide)⟩
  unfold fm
  rw [Bool.and_eq_true, Bool.and_eq_true, Bool.and_eq_true, h1, h2]
  constructor
  · rintro ⟨⟨⟨a, b⟩, c, d⟩, e⟩
    exact ⟨a, b, c, d, e⟩
  · rintro ⟨a, b, c, d, e⟩
    exact ⟨⟨⟨a, b⟩, c, d⟩, e⟩
/- how many elements the lists but Position hold -/
def oth (V : Rv) : Nat → Nat
  | 0 => V.day.n
  | k + 1 => oth V k + if k < 7 then (V.sl k).n else 0
theorem oth_le (V : Rv) (hd : V.day.n ≤ 40) : ∀ k, k ≤ 8 → (∀ i, i < k → (V.sl i).n ≤ 40) → oth V k ≤ 40 * (k + 1)
  | 0, _, _ => by show V.day.n ≤ _; omega
  | k + 1, h, hn => by
    have h1 := oth_le V hd k (by omega) (fun i hi => hn i (by omega))
    have h2 := hn k (by omega)
    rw [oth]
    split <;> omega
theorem isE_dec {α : Type} {l : List α} {n : Nat} (h : l.length = n) : l.isEmpty = decide (n = 0) := by
  cases l with
  | nil => simp at h; simp [← h]
  | cons a l => simp at h; simp; omega
theorem fmX_iff (V : Rv) (hL : ∀ i, i < 8 → (V.r.ls i).length = (V.sl i).n) (hD : V.r.day.length = V.day.n) :
    fmX V.r = true ↔ (V.r.freq = 4 ∨ V.yday.n + V.week.n = 0) ∧ (V.r.freq ≠ 2 ∨ V.mday.n = 0) ∧ (V.pos.n = 0 ∨ oth V 8 ≠ 0) ∧ ((∀ p ∈ V.r.day, p.1 = 0) ∨ V.r.freq = 3 ∨ (V.r.freq = 4 ∧ V.week.n = 0)) := by
  have ho : oth V 8 = V.day.n + V.sec.n + V.min.n + V.hour.n + V.mday.n + V.yday.n + V.week.n + V.month.n := by
    simp [oth, Rv.sl]
  have e0 : V.r.sec.isEmpty = decide (V.sec.n = 0) := isE_dec (hL 0 (by decide))
  have e1 : V.r.min.isEmpty = decide (V.min.n = 0) := isE_dec (hL 1 (by decide))
  have e2 : V.r.hour.isEmpty = decide (V.hour.n = 0) := isE_dec (hL 2 (by decide))
  have e3 : V.r.mday.isEmpty = decide (V.mday.n = 0) := isE_dec (hL 3 (by decide))
  have e4 : V.r.yday.isEmpty = decide (V.yday.n = 0) := isE_dec (hL 4 (by decide))
  have e5 : V.r.week.isEmpty = decide (V.week.n = 0) := isE_dec (hL 5 (by decide))
  have e6 : V.r.month.isEmpty = decide (V.month.n = 0) := isE_dec (hL 6 (by decide))
  have e7 : V.r.pos.isEmpty = decide (V.pos.n = 0) := isE_dec (hL 7 (by decide))
  have e8 : V.r.day.isEmpty = decide (V.day.n = 0) := isE_dec hD
  have e9 : V.r.day.all (fun p => p.1 == 0) = true ↔ ∀ p ∈ V.r.day, p.1 = 0 := by
    rw [List.all_eq_true]
    exact ⟨fun h p hp => by simpa using h p hp, fun h p hp => by simpa using h p hp⟩
  rw [ho, ← e9]
  unfold fmX
  rw [e0, e1, e2, e3, e4, e5, e6, e7, e8]
  generalize V.r.day.all (fun p => p.1 == 0) = q
  simp only [Bool.and_eq_true, Bool.or_eq_true, beq_iff_eq, bne_iff_ne, ne_eq, decide_eq_true_eq, Bool.not_eq_true', Bool.and_eq_false_iff, decide_eq_false_iff_not]
  cases q
  · simp only [Bool.false_eq_true, false_or]
    omega
  · simp only [true_or, and_true]
    omega
end Rm
end Go.Proofs.YtmbmkldcedkbmaaGreat
