/- What is written of a duration, and that it is read as it was: plain mathematics. -/
import Derived.Test.YtafpdiikhhikeaaGreatDoorVe
namespace Go.Proofs.YtafpdiikhhikeaaGreatDoor
namespace Va
open Txt

def de (n : Int) : List UInt8 := Lib.decDigits n.toNat
def hmx (h m x : Int) : List UInt8 := (if 0 < h then de h ++ [72] else []) ++ (if 0 < m ∨ (0 < h ∧ 0 < x) then de m ++ [77] else []) ++ (if 0 < x then de x ++ [83] else [])
def per (n : Int) : List UInt8 :=
  if n = 0 then [48, 68] else if n % 604800 = 0 then de (n / 604800) ++ [87]
  else (if 86400 ≤ n then de (n / 86400) ++ [68] else []) ++ (if 0 < n % 86400 then 84 :: hmx (n % 86400 / 3600) (n % 3600 / 60) (n % 60) else [])
def durB (n : Int) : Bool := decide (-10000000000 ≤ n) && decide (n ≤ 10000000000)
theorem durB_iff {n : Int} : durB n = true ↔ -10000000000 ≤ n ∧ n ≤ 10000000000 := by simp [durB]
def dur (n : Int) : List UInt8 := if n < 0 then 45 :: 80 :: per (-n) else 80 :: per n

theorem val_zeros : ∀ k : Nat, val (List.replicate k 48) 0 = 0
  | 0 => rfl
  | k + 1 => by rw [List.replicate_succ, val_cons]; exact val_zeros k
theorem de_num {n : Int} (h0 : 0 ≤ n) (h1 : n < 10000000000) : num (de n) 10 = true ∧ val (de n) 0 = n.toNat := by
  have hlt : n.toNat < 10 ^ (9 + 1) := by omega
  have h2 := dec_len 9 n.toNat hlt
  have h3 := dec_pad 9 n.toNat hlt
  have h4 := val_dig 10 n.toNat hlt
  have h5 := dig_isD 10 n.toNat
  rw [← h3, val_app, val_zeros] at h4
  rw [← h3, List.all_append, Bool.and_eq_true] at h5
  refine ⟨num_iff.2 ⟨?_, h2, h5.2⟩, h4⟩
  unfold de
  intro h
  rw [Lib.decDigits] at h
  split at h <;> simp at h
theorem cut_de {n : Int} {c : UInt8} {r : List UInt8} (h0 : 0 ≤ n) (h1 : n < 10000000000) (hc : isD c = false) : cut (de n ++ c :: r) = some (n.toNat, c, r) := by
  obtain ⟨a, b⟩ := de_num h0 h1
  rw [cut_mk a hc, b]
theorem de_head {n : Int} (h0 : 0 ≤ n) (h1 : n < 10000000000) (l : List UInt8) {c : UInt8} (hc : isD c = false) : ¬ (de n ++ l).head? = some c := by
  obtain ⟨a, _⟩ := de_num h0 h1
  obtain ⟨h2, _, h3⟩ := num_iff.1 a
  intro h
  rcases e : de n with _ | ⟨b, d⟩
  · exact h2 e
  · rw [e] at h h3
    simp at h
    rw [List.all_cons, Bool.and_eq_true, h, hc] at h3
    cases h3.1
theorem hr_hmx {h m x : Int} (h0 : 0 ≤ h) (h1 : h < 24) (m0 : 0 ≤ m) (m1 : m < 60) (x0 : 0 ≤ x) (x1 : x < 60) (hp : 0 < h + m + x) :
    hr (hmx h m x) = some (h.toNat * 3600 + m.toNat * 60 + x.toNat) := by
  have d72 : isD 72 = false := by decide
  have d77 : isD 77 = false := by decide
  have d83 : isD 83 = false := by decide
  have cm := fun r => cut_de (n := m) (c := 77) (r := r) m0 (by omega) d77
  have cx := fun r => cut_de (n := x) (c := 83) (r := r) x0 (by omega) d83
  have ch := fun r => cut_de (n := h) (c := 72) (r := r) h0 (by omega) d72
  unfold hmx hr
  by_cases a1 : 0 < h
  · rw [if_pos a1]
    by_cases a3 : 0 < x
    · rw [if_pos (.inr ⟨a1, a3⟩), if_pos a3]
      rw [List.append_assoc, List.append_assoc, List.singleton_append, ch, List.append_assoc, List.singleton_append]
      have q1 := cm (de x ++ [83])
      have q2 := cx []
      have n1 : de m ++ 77 :: (de x ++ [83]) ≠ [] := by simp
      have n2 : de x ++ [83] ≠ [] := by simp
      simp only [ho, if_true, n1, if_false, q1, mi, n2, q2, se, and_self]
    · have : x = 0 := by omega
      subst this
      rw [if_neg (Int.lt_irrefl 0), List.append_nil]
      by_cases a2 : 0 < m
      · rw [if_pos (.inl a2), List.append_assoc, List.singleton_append, ch]
        have q1 := cm []
        have n1 : de m ++ [77] ≠ [] := by simp
        simp only [ho, if_true, n1, if_false, q1, mi]
        simp
      · rw [if_neg (by omega), List.append_nil, ch]
        have : m = 0 := by omega
        subst this
        simp [ho]
  · have : h = 0 := by omega
    subst this
    rw [if_neg (Int.lt_irrefl 0), List.nil_append]
    by_cases a2 : 0 < m
    · rw [if_pos (.inl a2), List.append_assoc, List.singleton_append, cm]
      by_cases a3 : 0 < x
      · rw [if_pos a3]
        have q2 := cx []
        have n2 : de x ++ [83] ≠ [] := by simp
        simp only [ho, mi, n2, if_false, q2, se, and_self, if_true]
        simp
      · rw [if_neg a3]
        have : x = 0 := by omega
        subst this
        simp [ho, mi]
    · rw [if_neg (by omega), List.nil_append, if_pos (by omega)]
      have : m = 0 := by omega
      subst this
      rw [cx]
      simp [ho, se]
theorem pp_per {n : Int} (h0 : 0 ≤ n) (h1 : n ≤ 10000000000) : pp (per n) = some n.toNat := by
  have d68 : isD 68 = false := by decide
  have d84 : isD 84 = false := by decide
  have d87 : isD 87 = false := by decide
  unfold per
  by_cases a0 : n = 0
  · subst a0; rfl
  rw [if_neg a0]
  by_cases a1 : n % 604800 = 0
  · rw [if_pos a1]
    unfold pp
    rw [if_neg (de_head (by omega) (by omega) _ d84), cut_de (by omega) (by omega) d87]
    simp only [pe, if_true]
    congr 1; omega
  rw [if_neg a1]
  have hh := hr_hmx (h := n % 86400 / 3600) (m := n % 3600 / 60) (x := n % 60) (by omega) (by omega) (by omega) (by omega) (by omega) (by omega)
  by_cases a2 : 86400 ≤ n
  · rw [if_pos a2]
    unfold pp
    rw [List.append_assoc, if_neg (de_head (by omega) (by omega) _ d84), List.singleton_append, cut_de (by omega) (by omega) d68]
    by_cases a3 : 0 < n % 86400
    · rw [if_pos a3]
      simp only [pe, List.head?_cons, List.tail_cons, hh (by omega), if_true]
      simp
      omega
    · rw [if_neg a3]
      simp [pe]
      omega
  · rw [if_neg a2, List.nil_append, if_pos (by omega)]
    unfold pp
    simp only [List.head?_cons, List.tail_cons, if_true, hh (by omega)]
    congr 1; omega
theorem pd_dur {n : Int} (h : durB n = true) : pd (dur n) = some n := by
  obtain ⟨h1, h2⟩ := durB_iff.1 h
  unfold dur
  by_cases a : n < 0
  · rw [if_pos a]
    simp only [pd, un, neg, List.head?_cons, List.tail_cons, beq_self_eq_true, if_true, pp_per (n := -n) (by omega) (by omega), top, sg]
    rw [if_pos (by omega)]
    simp; omega
  · rw [if_neg a]
    have e1 : (some (80 : UInt8) == some 45) = false := by decide
    have e2 : (some (80 : UInt8) == some 43) = false := by decide
    simp only [pd, un, neg, List.head?_cons, List.tail_cons, e1, e2, if_false, if_true, pp_per (n := n) (by omega) (by omega), top, sg, Bool.false_eq_true]
    rw [if_pos (by omega)]
    simp; omega
end Va
end Go.Proofs.YtafpdiikhhikeaaGreatDoor
