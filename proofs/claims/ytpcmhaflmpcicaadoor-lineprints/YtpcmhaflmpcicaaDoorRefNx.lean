/- What the reference's next returns: the mathematics, no model in it. -/
import Derived.Test.YtpcmhaflmpcicaaDoorFd
import Derived.Lib.Strings
namespace Go.Proofs.YtpcmhaflmpcicaaDoor

namespace Fd
open Go.Lib
def co (b : Nat) : Prop := 128 ≤ b ∧ b ≤ 191
instance (b : Nat) : Decidable (co b) := by unfold co; infer_instance
def nxN (n b0 b1 b2 b3 : Nat) : Nat := if (decodeN n b0 b1 b2 b3).1 = 65533 ∧ (decodeN n b0 b1 b2 b3).2 = 1 then 0 else (decodeN n b0 b1 b2 b3).2
theorem nxN_1 (n b0 b1 b2 b3 : Nat) (h : b0 < 128) : nxN n b0 b1 b2 b3 = 1 := by
  unfold nxN decodeN; rw [if_pos h]
  rw [if_neg (by simp only; omega)]
theorem nxN_0 (n b0 b1 b2 b3 : Nat) (h : (128 ≤ b0 ∧ b0 < 194) ∨ (245 ≤ b0 ∧ b0 < 256)) : nxN n b0 b1 b2 b3 = 0 := by
  have : decodeN n b0 b1 b2 b3 = (65533, 1) := by
    unfold decodeN
    rw [if_neg (by omega)]
    repeat' split
    all_goals first | rfl | (exfalso; omega)
  unfold nxN; rw [this]; simp
theorem nxN_bad {n b0 b1 b2 b3 : Nat} (h : decodeN n b0 b1 b2 b3 = (65533, 1)) : nxN n b0 b1 b2 b3 = 0 := by unfold nxN; rw [h]; simp
theorem nxN_good {n b0 b1 b2 b3 r k : Nat} (h : decodeN n b0 b1 b2 b3 = (r, k)) (hk : 2 ≤ k) : nxN n b0 b1 b2 b3 = k := by
  unfold nxN; rw [h]; rw [if_neg (by simp only; omega)]
theorem nxN_2 (n b0 b1 b2 b3 : Nat) (h : 194 ≤ b0 ∧ b0 < 224) (h1 : b1 < 256) : nxN n b0 b1 b2 b3 = if 2 ≤ n ∧ co b1 then 2 else 0 := by
  by_cases c : 2 ≤ n ∧ co b1
  · rw [if_pos c]
    unfold co at c
    refine nxN_good (r := b0 % 32 * 64 + b1 % 64) ?_ (by omega)
    unfold decodeN
    rw [if_neg (by omega), if_pos (by omega), if_pos (by omega)]
  · rw [if_neg c]
    unfold co at c
    refine nxN_bad ?_
    unfold decodeN
    rw [if_neg (by omega), if_neg (by omega), if_neg (by omega), if_neg (by omega)]
theorem nxN_3 (n b0 b1 b2 b3 : Nat) (h : 224 ≤ b0 ∧ b0 < 240) (h1 : b1 < 256) (h2 : b2 < 256) :
    nxN n b0 b1 b2 b3 = if 3 ≤ n ∧ co b1 ∧ co b2 ∧ ¬ (b0 = 224 ∧ b1 < 160) ∧ ¬ (b0 = 237 ∧ 159 < b1) then 3 else 0 := by
  by_cases c : 3 ≤ n ∧ co b1 ∧ co b2 ∧ ¬ (b0 = 224 ∧ b1 < 160) ∧ ¬ (b0 = 237 ∧ 159 < b1)
  · rw [if_pos c]
    unfold co at c
    refine nxN_good (r := b0 % 16 * 4096 + b1 % 64 * 64 + b2 % 64) ?_ (by omega)
    unfold decodeN
    rw [if_neg (by omega), if_neg (by omega), if_pos (by omega), if_pos (by omega)]
  · rw [if_neg c]
    unfold co at c
    refine nxN_bad ?_
    unfold decodeN
    rw [if_neg (by omega), if_neg (by omega)]
    by_cases d : b0 / 16 = 14 ∧ (1 < n ∧ b1 / 64 = 2) ∧ (2 < n ∧ b2 / 64 = 2)
    · rw [if_pos d, if_neg (by omega)]
    · rw [if_neg d, if_neg (by omega)]
theorem nxN_4 (n b0 b1 b2 b3 : Nat) (h : 240 ≤ b0 ∧ b0 < 245) (h1 : b1 < 256) (h2 : b2 < 256) (h3 : b3 < 256) :
    nxN n b0 b1 b2 b3 = if 4 ≤ n ∧ co b1 ∧ co b2 ∧ co b3 ∧ ¬ (b0 = 240 ∧ b1 < 144) ∧ ¬ (b0 = 244 ∧ 143 < b1) then 4 else 0 := by
  by_cases c : 4 ≤ n ∧ co b1 ∧ co b2 ∧ co b3 ∧ ¬ (b0 = 240 ∧ b1 < 144) ∧ ¬ (b0 = 244 ∧ 143 < b1)
  · rw [if_pos c]
    unfold co at c
    refine nxN_good (r := b0 % 8 * 262144 + b1 % 64 * 4096 + b2 % 64 * 64 + b3 % 64) ?_ (by omega)
    unfold decodeN
    rw [if_neg (by omega), if_neg (by omega), if_neg (by omega), if_pos (by omega), if_pos (by omega)]
  · rw [if_neg c]
    unfold co at c
    refine nxN_bad ?_
    unfold decodeN
    rw [if_neg (by omega), if_neg (by omega), if_neg (by omega)]
    by_cases d : b0 / 8 = 30 ∧ (1 < n ∧ b1 / 64 = 2) ∧ (2 < n ∧ b2 / 64 = 2) ∧ (3 < n ∧ b3 / 64 = 2)
    · rw [if_pos d, if_neg (by omega)]
    · rw [if_neg d]
theorem get_drop (s : ByteArray) (i k : Nat) : (ByteArray.mk (s.data.toList.drop i).toArray).get! k = s.get! (i + k) := by
  show (s.data.toList.drop i).toArray[k]! = s.data[i + k]!
  rw [getElem!_def, getElem!_def]
  simp [List.getElem?_drop]
theorem nx_at (s : ByteArray) (i : Nat) : nx (s.data.toList.drop i) = nxN (s.size - i) (s.get! i).toNat (s.get! (i + 1)).toNat (s.get! (i + 2)).toNat (s.get! (i + 3)).toNat := by
  unfold nx nxN decodeL
  rw [decode_at, get_drop, get_drop, get_drop, get_drop]
  have : (ByteArray.mk (s.data.toList.drop i).toArray).size - 0 = s.size - i := by
    rw [Nat.sub_zero, Lib.size_eq, Lib.size_eq]
    exact List.length_drop
  rw [this]; simp only [Nat.zero_add, Nat.add_zero]
end Fd
end Go.Proofs.YtpcmhaflmpcicaaDoor
