/- Numbers in decimal digits: plain mathematics on lists of bytes. -/
import Derived.Lib.ItoaNum
import Derived.Lib.Repeat
namespace Go.Proofs.YtafpdiikhhikeaaGreatDoor
namespace Txt

/- the last k digits of n -/
def dig : Nat → Nat → List UInt8
  | _, 0 => []
  | n, k + 1 => dig (n / 10) k ++ [UInt8.ofNat (48 + n % 10)]
theorem dig_length : ∀ (k n : Nat), (dig n k).length = k
  | 0, _ => rfl
  | k + 1, n => by simp [dig, dig_length k]
theorem dig_zero : ∀ k : Nat, dig 0 k = List.replicate k 48
  | 0 => rfl
  | k + 1 => by rw [dig, Nat.zero_div, dig_zero k, List.replicate_succ']; rfl
theorem dig_two (a b k : Nat) (h : b < 100) : dig (100 * a + b) (k + 2) = dig a k ++ dig b 2 := by
  have e1 : (100 * a + b) / 10 / 10 = a := by omega
  have e2 : (100 * a + b) / 10 % 10 = b / 10 % 10 := by omega
  have e3 : (100 * a + b) % 10 = b % 10 := by omega
  simp only [dig, e1, e2, e3, List.append_assoc, List.nil_append]
theorem dig_eight (y m d : Nat) (hm : m < 100) (hd : d < 100) : dig (10000 * y + 100 * m + d) 8 = dig y 4 ++ dig m 2 ++ dig d 2 := by
  rw [← dig_two y m 4 hm, ← dig_two (100 * y + m) d 6 hd]; congr 1; omega
theorem dig_six (y m d : Nat) (hm : m < 100) (hd : d < 100) : dig (10000 * y + 100 * m + d) 6 = dig y 2 ++ dig m 2 ++ dig d 2 := by
  rw [← dig_two y m 2 hm, ← dig_two (100 * y + m) d 4 hd]; congr 1; omega

/- strconv.Itoa's digits, with as many zeros ahead as are wanted -/
theorem dec_len : ∀ (w m : Nat), m < 10 ^ (w + 1) → (Lib.decDigits m).length ≤ w + 1
  | 0, m, h => by rw [Lib.decDigits, dif_pos (by simpa using h)]; simp
  | w + 1, m, h => by
    rw [Lib.decDigits]
    by_cases h1 : m < 10
    · rw [dif_pos h1]; simp
    · rw [dif_neg h1, List.length_append]
      have := dec_len w (m / 10) (by rw [Nat.pow_succ] at h; omega)
      simpa using this
theorem dec_pad : ∀ (w m : Nat), m < 10 ^ (w + 1) → List.replicate (w + 1 - (Lib.decDigits m).length) 48 ++ Lib.decDigits m = dig m (w + 1)
  | 0, m, h => by
    have h1 : m < 10 := by simpa using h
    rw [Lib.decDigits, dif_pos h1, dig, dig, Nat.mod_eq_of_lt h1]; rfl
  | w + 1, m, h => by
    rw [Lib.decDigits]
    by_cases h1 : m < 10
    · rw [dif_pos h1, dig, Nat.mod_eq_of_lt h1, Nat.div_eq_of_lt h1, dig_zero]; rfl
    · have h2 : m / 10 < 10 ^ (w + 1) := by rw [Nat.pow_succ] at h; omega
      rw [dif_neg h1, dig, ← dec_pad w (m / 10) h2, List.length_append, List.length_singleton, List.append_assoc]
      congr 2; omega
theorem rep_zero (c : Nat) : Lib.repeatL [48] c = List.replicate c 48 := by
  have := Lib.repeatL_replicate 48 1 c
  simpa using this

/- the reference's number, of what is not negative -/
def numb (n size : Nat) : List UInt8 :=
  if n < 10 ∧ size ≤ 1 then [UInt8.ofNat (48 + n % 10)] else numb (n / 10) (size - 1) ++ [UInt8.ofNat (48 + n % 10)]
termination_by n + size
decreasing_by omega
theorem numb_dig : ∀ (k n : Nat), n < 10 ^ (k + 1) → numb n (k + 1) = dig n (k + 1)
  | 0, n, h => by
    have h1 : n < 10 := by simpa using h
    rw [numb, if_pos ⟨h1, by omega⟩]; rfl
  | k + 1, n, h => by
    rw [numb, if_neg (by omega), dig, ← numb_dig k (n / 10) (by rw [Nat.pow_succ] at h; omega)]; rfl

/- what is read -/
def isD (b : UInt8) : Bool := decide (48 ≤ b.toNat) && decide (b.toNat ≤ 57)
theorem isD_iff {b : UInt8} : isD b = true ↔ 48 ≤ b.toNat ∧ b.toNat ≤ 57 := by simp [isD]
def val : List UInt8 → Nat → Nat
  | [], a => a
  | b :: l, a => val l (10 * a + (b.toNat - 48))
theorem val_nil (a : Nat) : val [] a = a := rfl
theorem val_cons (b : UInt8) (l : List UInt8) (a : Nat) : val (b :: l) a = val l (10 * a + (b.toNat - 48)) := rfl
theorem isD_ofNat {k : Nat} (h : k < 10) : isD (UInt8.ofNat (48 + k)) = true := by
  rw [isD_iff, UInt8.toNat_ofNat']; omega
theorem dig_isD : ∀ (k n : Nat), (dig n k).all isD = true
  | 0, _ => rfl
  | k + 1, n => by rw [dig, List.all_append, dig_isD k, List.all_cons, isD_ofNat (by omega)]; rfl
theorem val_snoc : ∀ (l : List UInt8) (a : Nat) (b : UInt8), val (l ++ [b]) a = 10 * val l a + (b.toNat - 48)
  | [], _, _ => rfl
  | _ :: l, _, b => val_snoc l _ b
theorem val_dig : ∀ (k n : Nat), n < 10 ^ k → val (dig n k) 0 = n
  | 0, n, h => by have : n = 0 := by simpa using h
                  subst this; rfl
  | k + 1, n, h => by
    rw [dig, val_snoc, val_dig k (n / 10) (by rw [Nat.pow_succ] at h; omega), UInt8.toNat_ofNat']; omega
theorem dig_val : ∀ (l : List UInt8) (a k : Nat), l.all isD = true → dig (val l a) (k + l.length) = dig a k ++ l
  | [], a, k, _ => by rw [val_nil, List.append_nil]; rfl
  | b :: l, a, k, h => by
    rw [List.all_cons, Bool.and_eq_true] at h
    have hb := isD_iff.1 h.1
    have e1 : (10 * a + (b.toNat - 48)) / 10 = a := by omega
    have e2 : 48 + (10 * a + (b.toNat - 48)) % 10 = b.toNat := by omega
    rw [val_cons, List.length_cons, show k + (l.length + 1) = k + 1 + l.length by omega, dig_val l _ (k + 1) h.2, dig, e1, e2, UInt8.ofNat_toNat, List.append_assoc]; rfl
theorem dig_val0 (l : List UInt8) (h : l.all isD = true) : dig (val l 0) l.length = l := by
  have := dig_val l 0 0 h
  simpa [dig] using this
theorem val_lt : ∀ (l : List UInt8) (a : Nat), l.all isD = true → val l a < (a + 1) * 10 ^ l.length
  | [], a, _ => by rw [val_nil, List.length_nil, Nat.pow_zero]; omega
  | b :: l, a, h => by
    rw [List.all_cons, Bool.and_eq_true] at h
    have hb := isD_iff.1 h.1
    rw [val_cons]
    refine Nat.lt_of_lt_of_le (val_lt l _ h.2) ?_
    rw [List.length_cons, Nat.pow_succ, Nat.mul_comm (10 ^ l.length) 10, ← Nat.mul_assoc]
    exact Nat.mul_le_mul_right _ (by omega)
end Txt
end Go.Proofs.YtafpdiikhhikeaaGreatDoor
