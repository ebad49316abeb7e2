/- Numbers, durations and offsets as texts: plain mathematics on lists of bytes. -/
import Derived.Test.YtafpdiikhhikeaaGreatDoorTxt
import Derived.Lib.Strings
namespace Go.Proofs.YtafpdiikhhikeaaGreatDoor
namespace Va
open Txt

/- 1 to k digits -/
def num (l : List UInt8) (k : Nat) : Bool := !l.isEmpty && decide (l.length ≤ k) && l.all isD
theorem num_iff {l : List UInt8} {k : Nat} : num l k = true ↔ l ≠ [] ∧ l.length ≤ k ∧ l.all isD = true := by
  unfold num
  rw [Bool.and_eq_true, Bool.and_eq_true, decide_eq_true_eq, and_assoc]
  cases l <;> simp
/- digits alone, or -1 -/
def dgs (l : List UInt8) : Int := if l ≠ [] ∧ l.all isD = true then (val l 0 : Int) else -1
theorem val_app : ∀ (a b : List UInt8) (n : Nat), val (a ++ b) n = val b (val a n)
  | [], _, _ => rfl
  | _ :: a, b, _ => val_app a b _
theorem val_mul : ∀ (b : List UInt8) (n : Nat), val b n = n * 10 ^ b.length + val b 0
  | [], n => by simp [val]
  | c :: b, n => by
    rw [val_cons, val_mul b, val_cons, val_mul b (10 * 0 + _), List.length_cons, Nat.pow_succ, Nat.add_mul, Nat.mul_zero, Nat.zero_add, Nat.mul_comm 10 n, Nat.mul_assoc, Nat.mul_comm 10, Nat.add_assoc]
theorem val_two (a b : List UInt8) (n : Nat) : val (a ++ b) n = val a n * 10 ^ b.length + val b 0 := by rw [val_app, val_mul]
theorem val_lt10 {l : List UInt8} {k : Nat} (h : num l k = true) : val l 0 < 10 ^ k := by
  obtain ⟨_, h1, h2⟩ := num_iff.1 h
  have := val_lt l 0 h2
  have h3 : 10 ^ l.length ≤ 10 ^ k := Nat.pow_le_pow_right (by omega) h1
  omega

/- one byte ahead -/
theorem hp1 (l : List UInt8) (c : UInt8) : Lib.hasPrefix l [c] = (l.head? == some c) := by
  unfold Lib.hasPrefix
  cases l with
  | nil => rfl
  | cons b l =>
    simp [List.isPrefixOf]
    rw [Bool.eq_iff_iff]; simp; exact eq_comm
theorem tp1 (l : List UInt8) (c : UInt8) : Lib.trimPrefix l [c] = if l.head? == some c then l.tail else l := by
  unfold Lib.trimPrefix
  rw [hp1]
  split
  · simp
  · rfl

/- numbers with a sign -/
def neg (l : List UInt8) : Bool := l.head? == some 45
def bod (l : List UInt8) : List UInt8 := if neg l then l.tail else l
def sg (b : Bool) (n : Int) : Int := if b then -n else n
def plB (l : List UInt8) : Bool := num (bod l) 9
def plV (l : List UInt8) : Int := sg (neg l) (val (bod l) 0)
theorem bod_len {l : List UInt8} (h : neg l = true) : (bod l).length + 1 = l.length := by
  unfold bod
  rw [if_pos h]
  cases l with
  | nil => simp [neg] at h
  | cons b l => simp
theorem bod_no {l : List UInt8} (h : neg l = false) : bod l = l := by unfold bod; rw [if_neg (by simp [h])]

/- a number and its unit -/
def cut (l : List UInt8) : Option (Nat × UInt8 × List UInt8) :=
  match l.dropWhile isD with
  | [] => none
  | c :: r => if num (l.takeWhile isD) 10 then some (val (l.takeWhile isD) 0, c, r) else none
theorem cut_nil : cut [] = none := rfl
theorem cut_some {l : List UInt8} {n : Nat} {c : UInt8} {r : List UInt8} (h : cut l = some (n, c, r)) :
    ∃ d, l = d ++ c :: r ∧ num d 10 = true ∧ n = val d 0 ∧ isD c = false := by
  unfold cut at h
  split at h
  · cases h
  · rename_i c' r' e
    split at h
    · rename_i hn
      cases h
      have ht := List.takeWhile_append_dropWhile (p := isD) (l := l)
      rw [e] at ht
      refine ⟨_, ht.symm, hn, rfl, ?_⟩
      have := List.head?_dropWhile_not isD l
      rw [e] at this
      simpa using this
    · cases h
theorem tw_app {d : List UInt8} {c : UInt8} {r : List UInt8} (hd : d.all isD = true) (hc : isD c = false) : (d ++ c :: r).takeWhile isD = d ∧ (d ++ c :: r).dropWhile isD = c :: r := by
  induction d with
  | nil => simp [hc]
  | cons b d ih =>
    rw [List.all_cons, Bool.and_eq_true] at hd
    have := ih hd.2
    simp [hd.1, this]
theorem cut_mk {d : List UInt8} {c : UInt8} {r : List UInt8} (hd : num d 10 = true) (hc : isD c = false) : cut (d ++ c :: r) = some (val d 0, c, r) := by
  obtain ⟨h1, h2⟩ := tw_app (r := r) (num_iff.1 hd).2.2 hc
  unfold cut
  rw [h2, h1]
  simp [hd]
theorem cut_lt {l : List UInt8} {n : Nat} {c : UInt8} {r : List UInt8} (h : cut l = some (n, c, r)) : n < 10000000000 ∧ r.length < l.length := by
  obtain ⟨d, e, h1, h2, _⟩ := cut_some h
  have := val_lt10 h1
  rw [e, List.length_append, List.length_cons]
  omega
end Va
end Go.Proofs.YtafpdiikhhikeaaGreatDoor
