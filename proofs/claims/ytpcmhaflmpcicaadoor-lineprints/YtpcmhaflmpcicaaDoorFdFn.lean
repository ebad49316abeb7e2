/- What package fold's functions of one line return. -/
import Derived.Test.YtpcmhaflmpcicaaDoorFdAny
namespace Go.Proofs.YtpcmhaflmpcicaaDoor
open Go.RowKit

theorem ct_head (s : ByteArray) (h : 0 < s.size) : Fd.ct s.data.toList = (((s[0].toNat : Int) == 32) || ((s[0].toNat : Int) == 9)) := by
  have h2 : s.data.toList.head? = some s[0] := by
    rw [List.head?_eq_getElem?]
    have : 0 < s.data.toList.length := by rw [← Lib.size_eq]; exact h
    rw [List.getElem?_eq_getElem this]; rfl
  unfold Fd.ct
  rw [h2]
  have e : ∀ (b : UInt8) (c : UInt8), (some b == some c) = ((b.toNat : Int) == (c.toNat : Int)) := by
    intro b c
    rw [Bool.eq_iff_iff]
    simp only [beq_iff_eq, Option.some.injEq, Int.natCast_inj]
    exact UInt8.toNat_inj.symm
  rw [e, e]; rfl
theorem fine_eq (l : List UInt8) : Fd.fine l = (!l.isEmpty && !Fd.ct l && !Fd.nl l) := by
  unfold Fd.fine Fd.nl
  congr 1
  rw [List.not_any_eq_all_not]
  congr 1
  funext b
  by_cases h1 : b = 13
  · subst h1; rfl
  · by_cases h2 : b = 10
    · subst h2; rfl
    · simp [h1, h2]
theorem isEmpty_size (s : ByteArray) : s.data.toList.isEmpty = decide (s.size = 0) := by
  have := Lib.size_eq s
  cases h : s.data.toList with
  | nil => rw [h] at this; simp at this; simp [this]
  | cons a b => rw [h] at this; simp at this; simp [this]
end Go.Proofs.YtpcmhaflmpcicaaDoor
