/- The texts Gr, Txt, Va, Vd, Ve, Vt, Rm, Rn, one behind the other. -/
import Derived.WalkKit
import Derived.WalkSmall
import Derived.Lib.Hide
import Derived.Deep.QuietTactic
import Derived.Lib.ItoaNum
import Derived.Lib.Repeat
import Derived.Lib.Strings
namespace Go.Proofs.YtmbmkldcedkbmaaGreat
open Go.RowKit

structure Gr (w w' : World) : Prop where
  below : Below w.heap.size w w'
theorem Gr.refl (w : World) : Gr w w := ⟨Below.refl _ _⟩
theorem Gr.alloc {w w' : World} (h : Gr w w') (c : Array Value) (t : TypeId) : Gr w (w'.alloc (.cells c t)) := ⟨h.below.alloc h.below.size _⟩
theorem Gr.setCell {w w' : World} (h : Gr w w') {a : Addr} (ha : w.heap.size ≤ a.block) (v : Value) : Gr w (w'.setCell a v) := ⟨h.below.setCell ha v⟩
theorem Gr.drew {w w' : World} (h : Gr w w') : Gr w w'.drew := ⟨h.below.drew⟩
theorem Gr.drewN {w w' : World} (h : Gr w w') (n : Nat) : Gr w (w'.drewN n) := ⟨below_drewN h.below n⟩
theorem Gr.trans {a b c : World} (h : Gr a b) (k : Gr b c) : Gr a c := ⟨h.below.trans (k.below.mono h.below.size)⟩
theorem Gr.frozen {w w' : World} (h : Gr w w') {a : Addr} (ha : a.block < w.heap.size) : w'.frozen? a = w.frozen? a := by
  unfold World.frozen?; rw [h.below.block _ ha]
theorem Gr.lt {w w' : World} (h : Gr w w') : w.heap.size ≤ w'.heap.size := h.below.size

/- a callee that leaves the world alone, inside a region that draws its order -/
theorem qsame {P : Program} {f : FuncId} {args : Array Value} {w : World} {n : Nat} {v : Value}
    (h : Calls P f args (w.drewN n) fun e w' => e = .returned v ∧ w.drewN n = w') : Calls P f args (w.drewN n) fun e w' => e = .returned v ∧ ∃ m, w' = w.drewN m :=
  h.mono fun _ _ ⟨he, hw⟩ => ⟨he, n, hw.symm⟩

/- a box of three cells, behind a call that turns nothing below it -/
theorem box3 {w w1 : World} {a b c : Value} {t : TypeId} (hb : Gr (w.alloc (.cells #[a, b, c] t)) w1) :
    w1.cell? ⟨w.heap.size, 0, none⟩ = some a ∧ w1.cell? ⟨w.heap.size, 1, none⟩ = some b ∧ w1.cell? ⟨w.heap.size, 2, none⟩ = some c := by
  refine ⟨?_, ?_, ?_⟩ <;> (rw [hb.below.cell (by simp)]; simp)

/- a box of three cells that has just been made -/
theorem box_now (w : World) (a b c : Value) (t : TypeId) :
    (w.alloc (.cells #[a, b, c] t)).cell? ⟨w.heap.size, 0, none⟩ = some a ∧ (w.alloc (.cells #[a, b, c] t)).cell? ⟨w.heap.size, 1, none⟩ = some b ∧ (w.alloc (.cells #[a, b, c] t)).cell? ⟨w.heap.size, 2, none⟩ = some c := box3 (Gr.refl _)
/- the box is not frozen -/
theorem box_free {w w1 : World} {c : Array Value} {t : TypeId} (hb : Gr (w.alloc (.cells c t)) w1) (o : Nat) : w1.frozen? ⟨w.heap.size, o, none⟩ = false := by
  rw [hb.frozen (by simp), frozen?_alloc_cells]; simp [World.frozen?]
/- a box of three cells, all of them set -/
theorem box_set3 {w : World} {b : Nat} {a0 a1 a2 : Value} (c0 : w.cell? ⟨b, 0, none⟩ = some a0) (c1 : w.cell? ⟨b, 1, none⟩ = some a1) (c2 : w.cell? ⟨b, 2, none⟩ = some a2) (x y z : Value) :
    (((w.setCell ⟨b, 0, none⟩ x).setCell ⟨b, 1, none⟩ y).setCell ⟨b, 2, none⟩ z).cell? ⟨b, 0, none⟩ = some x ∧ (((w.setCell ⟨b, 0, none⟩ x).setCell ⟨b, 1, none⟩ y).setCell ⟨b, 2, none⟩ z).cell? ⟨b, 1, none⟩ = some y ∧ (((w.setCell ⟨b, 0, none⟩ x).setCell ⟨b, 1, none⟩ y).setCell ⟨b, 2, none⟩ z).cell? ⟨b, 2, none⟩ = some z := by
  refine ⟨?_, ?_, ?_⟩
  · rw [World.cell?_setCell_other (h := by simp), World.cell?_setCell_other (h := by simp)]; exact World.cell?_setCell_same _ _ _ c0
  · rw [World.cell?_setCell_other (h := by simp)]; refine World.cell?_setCell_same _ _ _ (u := a1) ?_; rw [World.cell?_setCell_other (h := by simp)]; exact c1
  · refine World.cell?_setCell_same _ _ _ (u := a2) ?_; rw [World.cell?_setCell_other (h := by simp), World.cell?_setCell_other (h := by simp)]; exact c2
theorem gr_set3 {w w1 : World} {c : Array Value} {t : TypeId} (hb : Gr (w.alloc (.cells c t)) w1) (x y z : Value) :
    Gr w (((w1.setCell ⟨w.heap.size, 0, none⟩ x).setCell ⟨w.heap.size, 1, none⟩ y).setCell ⟨w.heap.size, 2, none⟩ z) :=
  ((((Gr.refl w).alloc c t).trans hb).setCell (Nat.le_refl _) x |>.setCell (Nat.le_refl _) y).setCell (Nat.le_refl _) z
/- a cell that lay in a box, behind steps that only make memory -/
theorem Gr.keeps {w w' : World} (h : Gr w w') {b o : Nat} {v : Value} (hb : b < w.heap.size) (hc : w.cell? ⟨b, o, none⟩ = some v) : w'.cell? ⟨b, o, none⟩ = some v := by
  rw [h.below.cell hb]; exact hc

theorem ret_bool {a b : Bool} (h : a = b) : Ending.returned (.bool a) = .returned (.bool b) := by rw [h]
theorem ret_int {k : IntKind} {a b : Int} (h : a = b) : Ending.returned (.int k a) = .returned (.int k b) := by rw [h]
end Go.Proofs.YtmbmkldcedkbmaaGreat
namespace Go.Proofs.YtmbmkldcedkbmaaGreat
namespace Txt

/- the last k digits of n -/
def dig : Nat → Nat → List UInt8
  | _, 0 => []
  | n, k + 1 => dig (n / 10) k ++ [UInt8.ofNat (48 + n % 10)]
theorem dig_length : ∀ (k n : Nat), (dig n k).length = k
  | 0, _ => rfl
  | k + 1, n => by simp [dig, dig_length k]
theorem dig_zero : ∀ k : Nat, dig 0 k = List.replicate k 48
  | 0 => rfl
  | k + 1 => by rw [dig, Nat.zero_div, dig_zero k, List.replicate_succ']; rfl
theorem dig_two (a b k : Nat) (h : b < 100) : dig (100 * a + b) (k + 2) = dig a k ++ dig b 2 := by
  have e1 : (100 * a + b) / 10 / 10 = a := by omega
  have e2 : (100 * a + b) / 10 % 10 = b / 10 % 10 := by omega
  have e3 : (100 * a + b) % 10 = b % 10 := by omega
  simp only [dig, e1, e2, e3, List.append_assoc, List.nil_append]
theorem dig_eight (y m d : Nat) (hm : m < 100) (hd : d < 100) : dig (10000 * y + 100 * m + d) 8 = dig y 4 ++ dig m 2 ++ dig d 2 := by
  rw [← dig_two y m 4 hm, ← dig_two (100 * y + m) d 6 hd]; congr 1; omega
theorem dig_six (y m d : Nat) (hm : m < 100) (hd : d < 100) : dig (10000 * y + 100 * m + d) 6 = dig y 2 ++ dig m 2 ++ dig d 2 := by
  rw [← dig_two y m 2 hm, ← dig_two (100 * y + m) d 4 hd]; congr 1; omega

/- strconv.Itoa's digits, with as many zeros ahead as are wanted -/
theorem dec_len : ∀ (w m : Nat), m < 10 ^ (w + 1) → (Lib.decDigits m).length ≤ w + 1
  | 0, m, h => by rw [Lib.decDigits, dif_pos (by simpa using h)]; simp
  | w + 1, m, h => by
    rw [Lib.decDigits]
    by_cases h1 : m < 10
    · rw [dif_pos h1]; simp
    · rw [dif_neg h1, List.length_append]
      have := dec_len w (m / 10) (by rw [Nat.pow_succ] at h; omega)
      simpa using this
theorem dec_pad : ∀ (w m : Nat), m < 10 ^ (w + 1) → List.replicate (w + 1 - (Lib.decDigits m).length) 48 ++ Lib.decDigits m = dig m (w + 1)
  | 0, m, h => by
    have h1 : m < 10 := by simpa using h
    rw [Lib.decDigits, dif_pos h1, dig, dig, Nat.mod_eq_of_lt h1]; rfl
  | w + 1, m, h => by
    rw [Lib.decDigits]
    by_cases h1 : m < 10
    · rw [dif_pos h1, dig, Nat.mod_eq_of_lt h1, Nat.div_eq_of_lt h1, dig_zero]; rfl
    · have h2 : m / 10 < 10 ^ (w + 1) := by rw [Nat.pow_succ] at h; omega
      rw [dif_neg h1, dig, ← dec_pad w (m / 10) h2, List.length_append, List.length_singleton, List.append_assoc]
      congr 2; omega
theorem rep_zero (c : Nat) : Lib.repeatL [48] c = List.replicate c 48 := by
  have := Lib.repeatL_replicate 48 1 c
  simpa using this

/- the reference's number, of what is not negative -/
def numb (n size : Nat) : List UInt8 :=
  if n < 10 ∧ size ≤ 1 then [UInt8.ofNat (48 + n % 10)] else numb (n / 10) (size - 1) ++ [UInt8.ofNat (48 + n % 10)]
termination_by n + size
decreasing_by omega
theorem numb_dig : ∀ (k n : Nat), n < 10 ^ (k + 1) → numb n (k + 1) = dig n (k + 1)
  | 0, n, h => by
    have h1 : n < 10 := by simpa using h
    rw [numb, if_pos ⟨h1, by omega⟩]; rfl
  | k + 1, n, h => by
    rw [numb, if_neg (by omega), dig, ← numb_dig k (n / 10) (by rw [Nat.pow_succ] at h; omega)]; rfl

/- what is read -/
def isD (b : UInt8) : Bool := decide (48 ≤ b.toNat) && decide (b.toNat ≤ 57)
theorem isD_iff {b : UInt8} : isD b = true ↔ 48 ≤ b.toNat ∧ b.toNat ≤ 57 := by simp [isD]
def val : List UInt8 → Nat → Nat
  | [], a => a
  | b :: l, a => val l (10 * a + (b.toNat - 48))
theorem val_nil (a : Nat) : val [] a = a := rfl
theorem val_cons (b : UInt8) (l : List UInt8) (a : Nat) : val (b :: l) a = val l (10 * a + (b.toNat - 48)) := rfl
theorem isD_ofNat {k : Nat} (h : k < 10) : isD (UInt8.ofNat (48 + k)) = true := by
  rw [isD_iff, UInt8.toNat_ofNat']; omega
theorem dig_isD : ∀ (k n : Nat), (dig n k).all isD = true
  | 0, _ => rfl
  | k + 1, n => by rw [dig, List.all_append, dig_isD k, List.all_cons, isD_ofNat (by omega)]; rfl
theorem val_snoc : ∀ (l : List UInt8) (a : Nat) (b : UInt8), val (l ++ [b]) a = 10 * val l a + (b.toNat - 48)
  | [], _, _ => rfl
  | _ :: l, _, b => val_snoc l _ b
theorem val_dig : ∀ (k n : Nat), n < 10 ^ k → val (dig n k) 0 = n
  | 0, n, h => by have : n = 0 := by simpa using h
                  subst this; rfl
  | k + 1, n, h => by
    rw [dig, val_snoc, val_dig k (n / 10) (by rw [Nat.pow_succ] at h; omega), UInt8.toNat_ofNat']; omega
theorem dig_val : ∀ (l : List UInt8) (a k : Nat), l.all isD = true → dig (val l a) (k + l.length) = dig a k ++ l
  | [], a, k, _ => by rw [val_nil, List.append_nil]; rfl
  | b :: l, a, k, h => by
    rw [List.all_cons, Bool.and_eq_true] at h
    have hb := isD_iff.1 h.1
    have e1 : (10 * a + (b.toNat - 48)) / 10 = a := by omega
    have e2 : 48 + (10 * a + (b.toNat - 48)) % 10 = b.toNat := by omega
    rw [val_cons, List.length_cons, show k + (l.length + 1) = k + 1 + l.length by omega, dig_val l _ (k + 1) h.2, dig, e1, e2, UInt8.ofNat_toNat, List.append_assoc]; rfl
theorem dig_val0 (l : List UInt8) (h : l.all isD = true) : dig (val l 0) l.length = l := by
  have := dig_val l 0 0 h
  simpa [dig] using this
theorem val_lt : ∀ (l : List UInt8) (a : Nat), l.all isD = true → val l a < (a + 1) * 10 ^ l.length
  | [], a, _ => by rw [val_nil, List.length_nil, Nat.pow_zero]; omega
  | b :: l, a, h => by
    rw [List.all_cons, Bool.and_eq_true] at h
    have hb := isD_iff.1 h.1
    rw [val_cons]
    refine Nat.lt_of_lt_of_le (val_lt l _ h.2) ?_
    rw [List.length_cons, Nat.pow_succ, Nat.mul_comm (10 ^ l.length) 10, ← Nat.mul_assoc]
    exact Nat.mul_le_mul_right _ (by omega)
end Txt
end Go.Proofs.YtmbmkldcedkbmaaGreat
namespace Go.Proofs.YtmbmkldcedkbmaaGreat
namespace Va
open Txt

/- 1 to k digits -/
def num (l : List UInt8) (k : Nat) : Bool := !l.isEmpty && decide (l.length ≤ k) && l.all isD
theorem num_iff {l : List UInt8} {k : Nat} : num l k = true ↔ l ≠ [] ∧ l.length ≤ k ∧ l.all isD = true := by
  unfold num
  rw [Bool.and_eq_true, Bool.and_eq_true, decide_eq_true_eq, and_assoc]
  cases l <;> simp
/- digits alone, or -1 -/
def dgs (l : List UInt8) : Int := if l ≠ [] ∧ l.all isD = true then (val l 0 : Int) else -1
theorem val_app : ∀ (a b : List UInt8) (n : Nat), val (a ++ b) n = val b (val a n)
  | [], _, _ => rfl
  | _ :: a, b, _ => val_app a b _
theorem val_mul : ∀ (b : List UInt8) (n : Nat), val b n = n * 10 ^ b.length + val b 0
  | [], n => by simp [val]
  | c :: b, n => by
    rw [val_cons, val_mul b, val_cons, val_mul b (10 * 0 + _), List.length_cons, Nat.pow_succ, Nat.add_mul, Nat.mul_zero, Nat.zero_add, Nat.mul_comm 10 n, Nat.mul_assoc, Nat.mul_comm 10, Nat.add_assoc]
theorem val_two (a b : List UInt8) (n : Nat) : val (a ++ b) n = val a n * 10 ^ b.length + val b 0 := by rw [val_app, val_mul]
theorem val_lt10 {l : List UInt8} {k : Nat} (h : num l k = true) : val l 0 < 10 ^ k := by
  obtain ⟨_, h1, h2⟩ := num_iff.1 h
  have := val_lt l 0 h2
  have h3 : 10 ^ l.length ≤ 10 ^ k := Nat.pow_le_pow_right (by omega) h1
  omega

/- one byte ahead -/
theorem hp1 (l : List UInt8) (c : UInt8) : Lib.hasPrefix l [c] = (l.head? == some c) := by
  unfold Lib.hasPrefix
  cases l with
  | nil => rfl
  | cons b l =>
    simp [List.isPrefixOf]
    rw [Bool.eq_iff_iff]; simp; exact eq_comm
theorem tp1 (l : List UInt8) (c : UInt8) : Lib.trimPrefix l [c] = if l.head? == some c then l.tail else l := by
  unfold Lib.trimPrefix
  rw [hp1]
  split
  · simp
  · rfl

/- numbers with a sign -/
def neg (l : List UInt8) : Bool := l.head? == some 45
def bod (l : List UInt8) : List UInt8 := if neg l then l.tail else l
def sg (b : Bool) (n : Int) : Int := if b then -n else n
def plB (l : List UInt8) : Bool := num (bod l) 9
def plV (l : List UInt8) : Int := sg (neg l) (val (bod l) 0)
theorem bod_len {l : List UInt8} (h : neg l = true) : (bod l).length + 1 = l.length := by
  unfold bod
  rw [if_pos h]
  cases l with
  | nil => simp [neg] at h
  | cons b l => simp
theorem bod_no {l : List UInt8} (h : neg l = false) : bod l = l := by unfold bod; rw [if_neg (by simp [h])]

/- a number and its unit -/
def cut (l : List UInt8) : Option (Nat × UInt8 × List UInt8) :=
  match l.dropWhile isD with
  | [] => none
  | c :: r => if num (l.takeWhile isD) 10 then some (val (l.takeWhile isD) 0, c, r) else none
theorem cut_nil : cut [] = none := rfl
theorem cut_some {l : List UInt8} {n : Nat} {c : UInt8} {r : List UInt8} (h : cut l = some (n, c, r)) :
    ∃ d, l = d ++ c :: r ∧ num d 10 = true ∧ n = val d 0 ∧ isD c = false := by
  unfold cut at h
  split at h
  · cases h
  · rename_i c' r' e
    split at h
    · rename_i hn
      cases h
      have ht := List.takeWhile_append_dropWhile (p := isD) (l := l)
      rw [e] at ht
      refine ⟨_, ht.symm, hn, rfl, ?_⟩
      have := List.head?_dropWhile_not isD l
      rw [e] at this
      simpa using this
    · cases h
theorem tw_app {d : List UInt8} {c : UInt8} {r : List UInt8} (hd : d.all isD = true) (hc : isD c = false) : (d ++ c :: r).takeWhile isD = d ∧ (d ++ c :: r).dropWhile isD = c :: r := by
  induction d with
  | nil => simp [hc]
  | cons b d ih =>
    rw [List.all_cons, Bool.and_eq_true] at hd
    have := ih hd.2
    simp [hd.1, this]
theorem cut_mk {d : List UInt8} {c : UInt8} {r : List UInt8} (hd : num d 10 = true) (hc : isD c = false) : cut (d ++ c :: r) = some (val d 0, c, r) := by
  obtain ⟨h1, h2⟩ := tw_app (r := r) (num_iff.1 hd).2.2 hc
  unfold cut
  rw [h2, h1]
  simp [hd]
theorem cut_lt {l : List UInt8} {n : Nat} {c : UInt8} {r : List UInt8} (h : cut l = some (n, c, r)) : n < 10000000000 ∧ r.length < l.length := by
  obtain ⟨d, e, h1, h2, _⟩ := cut_some h
  have := val_lt10 h1
  rw [e, List.length_append, List.length_cons]
  omega
end Va
end Go.Proofs.YtmbmkldcedkbmaaGreat
namespace Go.Proofs.YtmbmkldcedkbmaaGreat
namespace Va
open Txt

/- seconds; minutes and seconds, with a sum ahead; hours, minutes and seconds -/
def se (s : Nat) : Option (Nat × UInt8 × List UInt8) → Option Nat
  | some (n, c, r) => if c = 83 ∧ r = [] then some (s + n) else none
  | none => none
def mi (s : Nat) : Option (Nat × UInt8 × List UInt8) → Option Nat
  | some (n, c, r) => if c = 77 then (if r = [] then some (s + n * 60) else se (s + n * 60) (cut r)) else none
  | none => none
def ho : Option (Nat × UInt8 × List UInt8) → Option Nat
  | some (n, c, r) => if c = 72 then (if r = [] then some (n * 3600) else mi (n * 3600) (cut r)) else if c = 77 then mi 0 (some (n, c, r)) else se 0 (some (n, c, r))
  | none => none
def hr (l : List UInt8) : Option Nat := ho (cut l)
/- what follows the sign and P -/
def pe : Option (Nat × UInt8 × List UInt8) → Option Nat
  | some (n, c, r) => if c = 87 then (if r = [] then some (n * 604800) else none) else if c = 68 then (if r = [] then some (n * 86400) else if r.head? = some 84 then (hr r.tail).map (n * 86400 + ·) else none) else none
  | none => none
def pp (l : List UInt8) : Option Nat := if l.head? = some 84 then hr l.tail else pe (cut l)

/- the reference's terms -/
def tmG : List UInt8 → List UInt8 → Option (List (Nat × UInt8))
  | [], d => if d = [] then some [] else none
  | b :: l, d => if isD b then tmG l (d ++ [b]) else if d = [] ∨ 10 < d.length then none else (tmG l []).map ((val d 0, b) :: ·)
def tm (l : List UInt8) : Option (List (Nat × UInt8)) := tmG l []
theorem tmG_cut : ∀ (l d : List UInt8), d.all isD = true → tmG l d = match l.dropWhile isD with
    | [] => if d ++ l.takeWhile isD = [] then some [] else none
    | c :: r => if num (d ++ l.takeWhile isD) 10 then (tm r).map ((val (d ++ l.takeWhile isD) 0, c) :: ·) else none
  | [], d, _ => by simp [tmG]
  | b :: l, d, hd => by
    rcases hb : isD b
    · have hn : (d = [] ∨ 10 < d.length) ↔ ¬ num d 10 = true := by
        rw [num_iff]
        constructor
        · rintro (h | h) ⟨h1, h2, _⟩
          · exact h1 h
          · omega
        · intro h
          by_cases h1 : d = []
          · exact .inl h1
          · right
            have : ¬ d.length ≤ 10 := fun h2 => h ⟨h1, h2, hd⟩
            omega
      rw [tmG, List.dropWhile_cons_of_neg (by simp [hb]), List.takeWhile_cons_of_neg (by simp [hb]), List.append_nil]
      simp only [hb, Bool.false_eq_true, if_false]
      rcases hv : num d 10
      · rw [if_pos (hn.2 (by simp [hv]))]; simp
      · rw [if_neg (fun h => hn.1 h hv)]; simp [tm]
    · rw [tmG, if_pos hb, tmG_cut l (d ++ [b]) (by simp [hd, hb]), List.dropWhile_cons_of_pos hb, List.takeWhile_cons_of_pos hb]
      simp
theorem tm_nil : tm [] = some [] := rfl
theorem tm_cut {l : List UInt8} (h : l ≠ []) : tm l = match cut l with
    | none => none
    | some (n, c, r) => (tm r).map ((n, c) :: ·) := by
  unfold tm cut
  rw [tmG_cut l [] rfl]
  rcases e : l.dropWhile isD with _ | ⟨c, r⟩
  · simp only [List.nil_append]
    have ht := List.takeWhile_append_dropWhile (p := isD) (l := l)
    rw [e, List.append_nil] at ht
    rw [ht, if_neg h]
  · simp only [List.nil_append]
    split <;> rfl
theorem tm_ne {l : List UInt8} (h : tm l = some []) : l = [] := by
  by_cases hl : l = []
  · exact hl
  · rw [tm_cut hl] at h
    split at h
    · cases h
    · rename_i n c r _
      rcases hr : tm r with _ | t <;> rw [hr] at h <;> simp at h
theorem tm_none {l : List UInt8} (h : cut l = none) (hl : l ≠ []) : tm l = none := by rw [tm_cut hl, h]
theorem tm_some {l : List UInt8} {n : Nat} {c : UInt8} {r : List UInt8} (h : cut l = some (n, c, r)) : tm l = (tm r).map ((n, c) :: ·) := by
  have hl : l ≠ [] := by rintro rfl; cases h
  rw [tm_cut hl, h]

/- the reference's hours -/
def word (t : List (Nat × UInt8)) : List UInt8 := t.map (·.2)
def wt (p : Nat × UInt8) : Nat := if p.2 = 72 then 3600 * p.1 else if p.2 = 77 then 60 * p.1 else if p.2 = 83 then p.1 else 0
def sum : List (Nat × UInt8) → Nat
  | [] => 0
  | p :: t => wt p + sum t
def okW (l : List UInt8) : Bool := l == [72] || l == [72, 77] || l == [72, 77, 83] || l == [77] || l == [77, 83] || l == [83]
def hrT : Option (List (Nat × UInt8)) → Option Nat
  | some t => if okW (word t) then some (sum t) else none
  | none => none
theorem hr_eq (l : List UInt8) : hrT (tm l) = hr l := by
  unfold hr
  rcases h1 : cut l with _ | ⟨n, c, r⟩
  · by_cases hl : l = []
    · subst hl; rfl
    · rw [tm_none h1 hl]; rfl
  rw [tm_some h1]
  simp only [ho]
  by_cases c1 : c = 72
  · subst c1
    by_cases r1 : r = []
    · subst r1; simp [tm_nil, hrT, okW, word, sum, wt, Nat.mul_comm]
    rcases h2 : cut r with _ | ⟨m, d, q⟩
    · rw [tm_none h2 r1]; simp [hrT, mi, r1]
    rw [tm_some h2]
    by_cases c2 : d = 77
    · subst c2
      by_cases r2 : q = []
      · subst r2; simp [tm_nil, hrT, okW, word, sum, wt, mi, r1, Nat.mul_comm]
      rcases h3 : cut q with _ | ⟨k, e, p⟩
      · rw [tm_none h3 r2]; simp [hrT, mi, se, r1, r2, h3]
      rw [tm_some h3]
      by_cases r3 : p = []
      · subst r3
        by_cases c3 : e = 83
        · subst c3; simp [tm_nil, hrT, okW, word, sum, wt, mi, se, r1, r2, h3, Nat.mul_comm, Nat.add_assoc]
        · simp [tm_nil, hrT, okW, word, mi, se, r1, r2, h3, c3]
      · rcases h4 : tm p with _ | t
        · simp [hrT, mi, se, r1, r2, h3, r3]
        · have : t ≠ [] := fun h => r3 (tm_ne (by rw [h4, h]))
          simp [hrT, okW, word, mi, se, r1, r2, h3, r3, this]
    · rcases h4 : tm q with _ | t
      · simp [hrT, mi, r1, c2]
      · simp [hrT, okW, word, mi, r1, c2]
  · by_cases c2 : c = 77
    · subst c2
      by_cases r2 : r = []
      · subst r2; simp [tm_nil, hrT, okW, word, sum, wt, mi, Nat.mul_comm]
      rcases h3 : cut r with _ | ⟨k, e, p⟩
      · rw [tm_none h3 r2]; simp [hrT, mi, se, r2, h3]
      rw [tm_some h3]
      by_cases r3 : p = []
      · subst r3
        by_cases c3 : e = 83
        · subst c3; simp [tm_nil, hrT, okW, word, sum, wt, mi, se, r2, h3, Nat.mul_comm]
        · simp [tm_nil, hrT, okW, word, mi, se, r2, h3, c3]
      · rcases h4 : tm p with _ | t
        · simp [hrT, mi, se, r2, h3, r3]
        · have : t ≠ [] := fun h => r3 (tm_ne (by rw [h4, h]))
          simp [hrT, okW, word, mi, se, r2, h3, r3, this]
    · by_cases c3 : c = 83
      · subst c3
        by_cases r3 : r = []
        · subst r3; simp [tm_nil, hrT, okW, word, sum, wt, se]
        · rcases h4 : tm r with _ | t
          · simp [hrT, se, r3]
          · have : t ≠ [] := fun h => r3 (tm_ne (by rw [h4, h]))
            simp [hrT, okW, word, se, r3, this]
      · rcases h4 : tm r with _ | t
        · simp [hrT, se, c1, c2, c3]
        · simp [hrT, okW, word, se, c1, c2, c3]
end Va
end Go.Proofs.YtmbmkldcedkbmaaGreat
namespace Go.Proofs.YtmbmkldcedkbmaaGreat
namespace Va
open Txt

def noT (b : UInt8) : Bool := b != 84
def one : Option (List (Nat × UInt8)) → Option (Nat × UInt8)
  | some [p] => some p
  | _ => none
/- the reference's reading of what follows the sign and P -/
def rpd (l : List UInt8) : Option Nat :=
  match l.dropWhile noT with
  | [] => match one (tm (l.takeWhile noT)) with
    | some (n, c) => if c = 87 then some (604800 * n) else if c = 68 then some (86400 * n) else none
    | none => none
  | _ :: h => if l.takeWhile noT = [] then hr h else match one (tm (l.takeWhile noT)) with
    | some (n, c) => if c = 68 then (hr h).map (86400 * n + ·) else none
    | none => none
theorem one_cut {l : List UInt8} (h : l ≠ []) : one (tm l) = match cut l with
    | some (n, c, r) => if r = [] then some (n, c) else none
    | none => none := by
  rcases h1 : cut l with _ | ⟨n, c, r⟩
  · rw [tm_none h1 h]; rfl
  · rw [tm_some h1]
    by_cases hr : r = []
    · subst hr; simp [tm_nil, one]
    · rcases h2 : tm r with _ | t
      · simp [one, hr]
      · rcases t with _ | ⟨p, t⟩
        · exact absurd (tm_ne h2) hr
        · simp [one, hr]
theorem dw_nil {l : List UInt8} (h : l.dropWhile noT = []) : l.takeWhile noT = l ∧ ∀ b ∈ l, b ≠ 84 := by
  have ht := List.takeWhile_append_dropWhile (p := noT) (l := l)
  rw [h, List.append_nil] at ht
  refine ⟨ht, fun b hb => ?_⟩
  rw [← ht] at hb
  have := List.all_takeWhile (p := noT) (l := l)
  rw [List.all_eq_true] at this
  simpa [noT] using this b hb
theorem rpd_eq (l : List UInt8) : rpd l = pp l := by
  unfold rpd
  rcases e : l.dropWhile noT with _ | ⟨b, h⟩
  · obtain ⟨h1, h2⟩ := dw_nil e
    rw [h1]
    by_cases hl : l = []
    · subst hl; rfl
    have hh : ¬ l.head? = some 84 := by
      intro h
      rcases l with _ | ⟨b, l⟩
      · cases h
      · simp at h; exact h2 b (by simp) h
    unfold pp
    rw [if_neg hh]
    simp only [one_cut hl]
    rcases h3 : cut l with _ | ⟨n, c, r⟩
    · rfl
    · by_cases hr : r = []
      · subst hr; simp [pe, Nat.mul_comm]
      · have hr2 : ¬ r.head? = some 84 := by
          intro h
          obtain ⟨d, ed, _⟩ := cut_some h3
          rcases r with _ | ⟨b, r⟩
          · cases h
          · simp at h
            exact h2 b (by rw [ed]; simp) h
        simp [pe, hr, hr2]
  · have hb : b = 84 := by
      have := List.head?_dropWhile_not noT l
      rw [e] at this
      simpa [noT] using this
    subst hb
    have ht := List.takeWhile_append_dropWhile (p := noT) (l := l)
    rw [e] at ht
    have hall := List.all_takeWhile (p := noT) (l := l)
    generalize l.takeWhile noT = d at *
    have hd : ∀ b ∈ d, b ≠ 84 := fun b hb => by
      rw [List.all_eq_true] at hall
      simpa [noT] using hall b hb
    subst ht
    by_cases d1 : d = []
    · subst d1; simp [pp]
    · simp only [if_neg d1]
      have hh : ¬ (d ++ 84 :: h).head? = some 84 := by
        intro h
        rcases d with _ | ⟨b, d⟩
        · exact d1 rfl
        · simp at h; exact hd b (by simp) h
      unfold pp
      rw [if_neg hh, one_cut d1]
      rcases h3 : cut d with _ | ⟨n, c, r⟩
      · have hp : pe (cut (d ++ 84 :: h)) = none := by
          rcases h4 : cut (d ++ 84 :: h) with _ | ⟨n, c, r⟩
          · rfl
          · obtain ⟨f, ef, hn, _, hc⟩ := cut_some h4
            have hall : d.all isD = true := by
              rcases hx : d.all isD
              · exfalso
                have hdw : d.dropWhile isD ≠ [] := by
                  intro h5
                  have := List.takeWhile_append_dropWhile (p := isD) (l := d)
                  rw [h5, List.append_nil] at this
                  have h6 := List.all_takeWhile (p := isD) (l := d)
                  rw [this, hx] at h6
                  cases h6
                rcases h5 : d.dropWhile isD with _ | ⟨c', r'⟩
                · exact hdw h5
                · have h6 := List.takeWhile_append_dropWhile (p := isD) (l := d)
                  rw [h5] at h6
                  have h7 := List.all_takeWhile (p := isD) (l := d)
                  have h8 := List.head?_dropWhile_not isD d
                  rw [h5] at h8
                  have h8 : isD c' = false := by simpa using h8
                  have h9 : d ++ 84 :: h = d.takeWhile isD ++ c' :: (r' ++ 84 :: h) := by
                    conv => lhs; rw [← h6]
                    simp
                  have q1 := (tw_app (r := r' ++ 84 :: h) h7 h8).1
                  have q2 := (tw_app (r := r) (num_iff.1 hn).2.2 hc).1
                  rw [← h9, ef, q2] at q1
                  have q3 := cut_mk (r := r') hn h8
                  rw [q1, h6, h3] at q3
                  cases q3
              · rfl
            have q1 := tw_app (c := 84) (r := h) hall (by decide)
            have q2 := tw_app (r := r) (num_iff.1 hn).2.2 hc
            rw [ef, q2.1, q2.2] at q1
            have q3 : c = 84 := by have := q1.2; injection this
            subst q3
            simp [pe]
        rw [hp]
      · obtain ⟨f, ef, hn, hv, hc⟩ := cut_some h3
        have h4 : cut (d ++ 84 :: h) = some (n, c, r ++ 84 :: h) := by
          rw [ef, List.append_assoc, List.cons_append, cut_mk hn hc, hv]
        rw [h4]
        by_cases hr : r = []
        · subst hr; simp only [pe, if_true]
          by_cases c1 : c = 68
          · subst c1; simp [Nat.mul_comm]
          · simp [c1]
        · have hr2 : ¬ (r ++ 84 :: h).head? = some 84 := by
            intro h
            rcases r with _ | ⟨b, r⟩
            · exact hr rfl
            · simp at h
              exact hd b (by rw [ef]; simp) h
          have hq : r ++ 84 :: h ≠ [] := by simp
          generalize r ++ 84 :: h = q at *
          simp [pe, hr, hq, hr2]

/- a whole duration -/
def un (l : List UInt8) : List UInt8 := if neg l then l.tail else if l.head? == some 43 then l.tail else l
def top : Option Nat → Option Nat
  | some n => if n ≤ 10000000000 then some n else none
  | none => none
def pd (l : List UInt8) : Option Int := if (un l).head? = some 80 then (top (pp (un l).tail)).map (fun n => sg (neg l) (n : Int)) else none
end Va
end Go.Proofs.YtmbmkldcedkbmaaGreat
namespace Go.Proofs.YtmbmkldcedkbmaaGreat
namespace Va
open Txt

def de (n : Int) : List UInt8 := Lib.decDigits n.toNat
def hmx (h m x : Int) : List UInt8 := (if 0 < h then de h ++ [72] else []) ++ (if 0 < m ∨ (0 < h ∧ 0 < x) then de m ++ [77] else []) ++ (if 0 < x then de x ++ [83] else [])
def per (n : Int) : List UInt8 :=
  if n = 0 then [48, 68] else if n % 604800 = 0 then de (n / 604800) ++ [87]
  else (if 86400 ≤ n then de (n / 86400) ++ [68] else []) ++ (if 0 < n % 86400 then 84 :: hmx (n % 86400 / 3600) (n % 3600 / 60) (n % 60) else [])
def durB (n : Int) : Bool := decide (-10000000000 ≤ n) && decide (n ≤ 10000000000)
theorem durB_iff {n : Int} : durB n = true ↔ -10000000000 ≤ n ∧ n ≤ 10000000000 := by simp [durB]
def dur (n : Int) : List UInt8 := if n < 0 then 45 :: 80 :: per (-n) else 80 :: per n

theorem val_zeros : ∀ k : Nat, val (List.replicate k 48) 0 = 0
  | 0 => rfl
  | k + 1 => by rw [List.replicate_succ, val_cons]; exact val_zeros k
theorem de_num {n : Int} (h0 : 0 ≤ n) (h1 : n < 10000000000) : num (de n) 10 = true ∧ val (de n) 0 = n.toNat := by
  have hlt : n.toNat < 10 ^ (9 + 1) := by omega
  have h2 := dec_len 9 n.toNat hlt
  have h3 := dec_pad 9 n.toNat hlt
  have h4 := val_dig 10 n.toNat hlt
  have h5 := dig_isD 10 n.toNat
  rw [← h3, val_app, val_zeros] at h4
  rw [← h3, List.all_append, Bool.and_eq_true] at h5
  refine ⟨num_iff.2 ⟨?_, h2, h5.2⟩, h4⟩
  unfold de
  intro h
  rw [Lib.decDigits] at h
  split at h <;> simp at h
theorem cut_de {n : Int} {c : UInt8} {r : List UInt8} (h0 : 0 ≤ n) (h1 : n < 10000000000) (hc : isD c = false) : cut (de n ++ c :: r) = some (n.toNat, c, r) := by
  obtain ⟨a, b⟩ := de_num h0 h1
  rw [cut_mk a hc, b]
theorem de_head {n : Int} (h0 : 0 ≤ n) (h1 : n < 10000000000) (l : List UInt8) {c : UInt8} (hc : isD c = false) : ¬ (de n ++ l).head? = some c := by
  obtain ⟨a, _⟩ := de_num h0 h1
  obtain ⟨h2, _, h3⟩ := num_iff.1 a
  intro h
  rcases e : de n with _ | ⟨b, d⟩
  · exact h2 e
  · rw [e] at h h3
    simp at h
    rw [List.all_cons, Bool.and_eq_true, h, hc] at h3
    cases h3.1
theorem hr_hmx {h m x : Int} (h0 : 0 ≤ h) (h1 : h < 24) (m0 : 0 ≤ m) (m1 : m < 60) (x0 : 0 ≤ x) (x1 : x < 60) (hp : 0 < h + m + x) :
    hr (hmx h m x) = some (h.toNat * 3600 + m.toNat * 60 + x.toNat) := by
  have d72 : isD 72 = false := by decide
  have d77 : isD 77 = false := by decide
  have d83 : isD 83 = false := by decide
  have cm := fun r => cut_de (n := m) (c := 77) (r := r) m0 (by omega) d77
  have cx := fun r => cut_de (n := x) (c := 83) (r := r) x0 (by omega) d83
  have ch := fun r => cut_de (n := h) (c := 72) (r := r) h0 (by omega) d72
  unfold hmx hr
  by_cases a1 : 0 < h
  · rw [if_pos a1]
    by_cases a3 : 0 < x
    · rw [if_pos (.inr ⟨a1, a3⟩), if_pos a3]
      rw [List.append_assoc, List.append_assoc, List.singleton_append, ch, List.append_assoc, List.singleton_append]
      have q1 := cm (de x ++ [83])
      have q2 := cx []
      have n1 : de m ++ 77 :: (de x ++ [83]) ≠ [] := by simp
      have n2 : de x ++ [83] ≠ [] := by simp
      simp only [ho, if_true, n1, if_false, q1, mi, n2, q2, se, and_self]
    · have : x = 0 := by omega
      subst this
      rw [if_neg (Int.lt_irrefl 0), List.append_nil]
      by_cases a2 : 0 < m
      · rw [if_pos (.inl a2), List.append_assoc, List.singleton_append, ch]
        have q1 := cm []
        have n1 : de m ++ [77] ≠ [] := by simp
        simp only [ho, if_true, n1, if_false, q1, mi]
        simp
      · rw [if_neg (by omega), List.append_nil, ch]
        have : m = 0 := by omega
        subst this
        simp [ho]
  · have : h = 0 := by omega
    subst this
    rw [if_neg (Int.lt_irrefl 0), List.nil_append]
    by_cases a2 : 0 < m
    · rw [if_pos (.inl a2), List.append_assoc, List.singleton_append, cm]
      by_cases a3 : 0 < x
      · rw [if_pos a3]
        have q2 := cx []
        have n2 : de x ++ [83] ≠ [] := by simp
        simp only [ho, mi, n2, if_false, q2, se, and_self, if_true]
        simp
      · rw [if_neg a3]
        have : x = 0 := by omega
        subst this
        simp [ho, mi]
    · rw [if_neg (by omega), List.nil_append, if_pos (by omega)]
      have : m = 0 := by omega
      subst this
      rw [cx]
      simp [ho, se]
theorem pp_per {n : Int} (h0 : 0 ≤ n) (h1 : n ≤ 10000000000) : pp (per n) = some n.toNat := by
  have d68 : isD 68 = false := by decide
  have d84 : isD 84 = false := by decide
  have d87 : isD 87 = false := by decide
  unfold per
  by_cases a0 : n = 0
  · subst a0; rfl
  rw [if_neg a0]
  by_cases a1 : n % 604800 = 0
  · rw [if_pos a1]
    unfold pp
    rw [if_neg (de_head (by omega) (by omega) _ d84), cut_de (by omega) (by omega) d87]
    simp only [pe, if_true]
    congr 1; omega
  rw [if_neg a1]
  have hh := hr_hmx (h := n % 86400 / 3600) (m := n % 3600 / 60) (x := n % 60) (by omega) (by omega) (by omega) (by omega) (by omega) (by omega)
  by_cases a2 : 86400 ≤ n
  · rw [if_pos a2]
    unfold pp
    rw [List.append_assoc, if_neg (de_head (by omega) (by omega) _ d84), List.singleton_append, cut_de (by omega) (by omega) d68]
    by_cases a3 : 0 < n % 86400
    · rw [if_pos a3]
      simp only [pe, List.head?_cons, List.tail_cons, hh (by omega), if_true]
      simp
      omega
    · rw [if_neg a3]
      simp [pe]
      omega
  · rw [if_neg a2, List.nil_append, if_pos (by omega)]
    unfold pp
    simp only [List.head?_cons, List.tail_cons, if_true, hh (by omega)]
    congr 1; omega
theorem pd_dur {n : Int} (h : durB n = true) : pd (dur n) = some n := by
  obtain ⟨h1, h2⟩ := durB_iff.1 h
  unfold dur
  by_cases a : n < 0
  · rw [if_pos a]
    simp only [pd, un, neg, List.head?_cons, List.tail_cons, beq_self_eq_true, if_true, pp_per (n := -n) (by omega) (by omega), top, sg]
    rw [if_pos (by omega)]
    simp; omega
  · rw [if_neg a]
    have e1 : (some (80 : UInt8) == some 45) = false := by decide
    have e2 : (some (80 : UInt8) == some 43) = false := by decide
    simp only [pd, un, neg, List.head?_cons, List.tail_cons, e1, e2, if_false, if_true, pp_per (n := n) (by omega) (by omega), top, sg, Bool.false_eq_true]
    rw [if_pos (by omega)]
    simp; omega
end Va
end Go.Proofs.YtmbmkldcedkbmaaGreat
namespace Go.Proofs.YtmbmkldcedkbmaaGreat
namespace Rm
open Txt Va

/- a text cut at a byte, and pieces put together -/
def cutB (c : UInt8) : List UInt8 → List (List UInt8)
  | [] => [[]]
  | b :: l => if b = c then [] :: cutB c l else match cutB c l with
    | [] => [[b]]
    | h :: t => (b :: h) :: t
def joinB (c : UInt8) : List (List UInt8) → List UInt8
  | [] => []
  | [x] => x
  | x :: y :: t => x ++ c :: joinB c (y :: t)
theorem cutB_ne (c : UInt8) (l : List UInt8) : cutB c l ≠ [] := by
  cases l with
  | nil => simp [cutB]
  | cons b l =>
    unfold cutB
    split
    · simp
    · split <;> simp
theorem cutB_app {c : UInt8} {x l : List UInt8} (h : c ∉ x) : cutB c (x ++ c :: l) = x :: cutB c l := by
  induction x with
  | nil => simp [cutB]
  | cons b x ih =>
    have hb : b ≠ c := fun e => h (by simp [e])
    have ih := ih (fun e => h (by simp [e]))
    rw [List.cons_append, cutB, if_neg hb, ih]
theorem cutB_one {c : UInt8} {x : List UInt8} (h : c ∉ x) : cutB c x = [x] := by
  induction x with
  | nil => rfl
  | cons b x ih =>
    have hb : b ≠ c := fun e => h (by simp [e])
    have ih := ih (fun e => h (by simp [e]))
    rw [cutB, if_neg hb, ih]
theorem cut_join {c : UInt8} : ∀ (ls : List (List UInt8)), ls ≠ [] → (∀ x ∈ ls, c ∉ x) → cutB c (joinB c ls) = ls
  | [], h, _ => absurd rfl h
  | [x], _, h => cutB_one (h x (by simp))
  | x :: y :: t, _, h => by
    rw [joinB, cutB_app (h x (by simp)), cut_join (y :: t) (by simp) (fun z hz => h z (by simp [List.mem_cons.1 hz]))]

/- numbers with a sign -/
def nt (n : Int) : List UInt8 := if n < 0 then 45 :: de (-n) else de n
def sgd (l : List UInt8) : List UInt8 := if l.head? = some 43 ∨ l.head? = some 45 then l.tail else l
def sr (l : List UInt8) : Option Int := if num (sgd l) 4 = true then some (sg (l.head? == some 45) (val (sgd l) 0)) else none
theorem de_num4 {n : Int} (h0 : 0 ≤ n) (h1 : n < 10000) : num (de n) 4 = true ∧ val (de n) 0 = n.toNat := by
  obtain ⟨a, b⟩ := de_num h0 (by omega)
  obtain ⟨c, _, d⟩ := num_iff.1 a
  exact ⟨num_iff.2 ⟨c, dec_len 3 n.toNat (by omega), d⟩, b⟩
theorem de_digit {n : Int} (h0 : 0 ≤ n) (h1 : n < 10000000000) : ∀ b ∈ de n, isD b = true := by
  obtain ⟨a, _⟩ := de_num h0 h1
  exact List.all_eq_true.1 (num_iff.1 a).2.2
theorem de_first {n : Int} (h0 : 0 ≤ n) (h1 : n < 10000000000) {c : UInt8} (hc : isD c = false) : ¬ (de n).head? = some c := by
  have := de_head h0 h1 [] hc
  rwa [List.append_nil] at this
theorem sr_nt {n : Int} (h0 : -9999 ≤ n) (h1 : n ≤ 9999) : sr (nt n) = some n := by
  unfold nt
  by_cases a : n < 0
  · rw [if_pos a]
    obtain ⟨p, q⟩ := de_num4 (n := -n) (by omega) (by omega)
    have e : sgd (45 :: de (-n)) = de (-n) := by simp [sgd]
    unfold sr
    rw [e, if_pos p, q]
    simp [sg]; omega
  · rw [if_neg a]
    obtain ⟨p, q⟩ := de_num4 (n := n) (by omega) (by omega)
    have n43 := de_first (n := n) (by omega) (by omega) (c := 43) (by decide)
    have n45 := de_first (n := n) (by omega) (by omega) (c := 45) (by decide)
    have e : sgd (de n) = de n := by unfold sgd; rw [if_neg (fun h => h.elim n43 n45)]
    have e2 : ((de n).head? == some 45) = false := by rw [beq_eq_false_iff_ne]; exact n45
    unfold sr
    rw [e, if_pos p, q, e2]
    simp [sg]; omega
/- what stands in a number's text -/
theorem nt_mem {n : Int} (h0 : -9999 ≤ n) (h1 : n ≤ 9999) {c : UInt8} (hc : isD c = false) (h45 : c ≠ 45) : c ∉ nt n := by
  intro h
  unfold nt at h
  split at h
  · rcases List.mem_cons.1 h with h | h
    · exact h45 h
    · rw [de_digit (by omega) (by omega) c h] at hc; cases hc
  · rw [de_digit (by omega) (by omega) c h] at hc; cases hc
theorem nt_ne {n : Int} (h0 : -9999 ≤ n) (h1 : n ≤ 9999) : nt n ≠ [] := by
  unfold nt
  split
  · simp
  · exact (num_iff.1 (de_num4 (by omega) (by omega)).1).1

/- a list that rises, and a number put into it -/
def ins : List Int → Int → List Int
  | [], n => [n]
  | x :: l, n => if n ≤ x then n :: (x :: l).filter (· != n) else x :: ins l n
def rise : List Int → Bool
  | [] => true
  | [_] => true
  | x :: y :: t => decide (x < y) && rise (y :: t)
theorem ins_last : ∀ (l : List Int) (n : Int), (∀ x ∈ l, x < n) → ins l n = l ++ [n]
  | [], n, _ => rfl
  | x :: l, n, h => by
    have hx := h x (by simp)
    rw [ins, if_neg (by omega), ins_last l n (fun y hy => h y (by simp [hy]))]; rfl
theorem rise_lt : ∀ (l : List Int) (x : Int), rise (x :: l) = true → ∀ y ∈ l, x < y
  | [], _, _, y, hy => by cases hy
  | z :: l, x, h, y, hy => by
    rw [rise, Bool.and_eq_true, decide_eq_true_eq] at h
    rcases List.mem_cons.1 hy with e | hy
    · rw [e]; exact h.1
    · have := rise_lt l z h.2 y hy
      omega
theorem rise_tail {x : Int} {l : List Int} (h : rise (x :: l) = true) : rise l = true := by
  cases l with
  | nil => rfl
  | cons y l => rw [rise, Bool.and_eq_true] at h; exact h.2
theorem fold_ins : ∀ (l a : List Int), (∀ x ∈ a, ∀ y ∈ l, x < y) → rise l = true → l.foldl ins a = a ++ l
  | [], a, _, _ => by simp
  | y :: l, a, h, hr => by
    rw [List.foldl_cons, ins_last a y (fun x hx => h x hx y (by simp)), fold_ins l (a ++ [y]) ?_ (rise_tail hr)]
    · simp
    · intro x hx z hz
      rcases List.mem_append.1 hx with hx | hx
      · exact h x hx z (by simp [hz])
      · rw [List.mem_singleton] at hx; rw [hx]; exact rise_lt l y hr z hz
/- a list of numbers, read -/
def stepN (ok : Int → Bool) (acc : Option (List Int)) (t : List UInt8) : Option (List Int) :=
  match acc, sr t with
  | some a, some n => if ok n then some (ins a n) else none
  | _, _ => none
def lr (ok : Int → Bool) (l : List UInt8) : Option (List Int) := (cutB 44 l).foldl (stepN ok) (some [])
def lt (l : List Int) : List UInt8 := joinB 44 (l.map nt)
theorem fold_step {ok : Int → Bool} : ∀ (l a : List Int), (∀ n ∈ l, ok n = true ∧ -9999 ≤ n ∧ n ≤ 9999) → (l.map nt).foldl (stepN ok) (some a) = some (l.foldl ins a)
  | [], a, _ => rfl
  | n :: l, a, h => by
    obtain ⟨h1, h2, h3⟩ := h n (by simp)
    rw [List.map_cons, List.foldl_cons, List.foldl_cons]
    have e : stepN ok (some a) (nt n) = some (ins a n) := by
      unfold stepN
      rw [sr_nt h2 h3]
      simp [h1]
    rw [e, fold_step l _ (fun m hm => h m (by simp [hm]))]
theorem lr_lt {ok : Int → Bool} {l : List Int} (hne : l ≠ []) (h : ∀ n ∈ l, ok n = true ∧ -9999 ≤ n ∧ n ≤ 9999) (hr : rise l = true) : lr ok (lt l) = some l := by
  unfold lr lt
  rw [cut_join (l.map nt) (by simpa using hne) (fun x hx => by
    obtain ⟨n, hn, rfl⟩ := List.mem_map.1 hx
    exact nt_mem (h n hn).2.1 (h n hn).2.2 (by decide) (by decide)), fold_step l [] h, fold_ins l [] (by simp) hr]
  rfl
end Rm
end Go.Proofs.YtmbmkldcedkbmaaGreat
namespace Go.Proofs.YtmbmkldcedkbmaaGreat
namespace Rm
open Txt Va

/- two letters of a weekday -/
def wd (i : Int) : List UInt8 :=
  if i = 0 then [83, 85] else if i = 1 then [77, 79] else if i = 2 then [84, 85] else if i = 3 then [87, 69] else if i = 4 then [84, 72] else if i = 5 then [70, 82] else if i = 6 then [83, 65] else []
def which (l : List UInt8) : Int :=
  if l = [83, 85] then 0 else if l = [77, 79] then 1 else if l = [84, 85] then 2 else if l = [87, 69] then 3 else if l = [84, 72] then 4 else if l = [70, 82] then 5 else if l = [83, 65] then 6 else -1
theorem wd_cases {i : Int} (h0 : 0 ≤ i) (h1 : i ≤ 6) : i = 0 ∨ i = 1 ∨ i = 2 ∨ i = 3 ∨ i = 4 ∨ i = 5 ∨ i = 6 := by omega
theorem which_wd {i : Int} (h0 : 0 ≤ i) (h1 : i ≤ 6) : which (wd i) = i := by
  rcases wd_cases h0 h1 with rfl | rfl | rfl | rfl | rfl | rfl | rfl <;> decide
theorem wd_len {i : Int} (h0 : 0 ≤ i) (h1 : i ≤ 6) : (wd i).length = 2 := by
  rcases wd_cases h0 h1 with rfl | rfl | rfl | rfl | rfl | rfl | rfl <;> decide
theorem wd_big {i : Int} (h0 : 0 ≤ i) (h1 : i ≤ 6) : ∀ b ∈ wd i, 65 ≤ b.toNat ∧ b.toNat ≤ 90 := by
  rcases wd_cases h0 h1 with rfl | rfl | rfl | rfl | rfl | rfl | rfl <;> decide
/- a weekday, (Nth, Day) -/
def mayD (p : Int × Int) : Bool := decide (0 ≤ p.2) && decide (p.2 ≤ 6) && decide (-53 ≤ p.1) && decide (p.1 ≤ 53)
theorem mayD_iff {p : Int × Int} : mayD p = true ↔ 0 ≤ p.2 ∧ p.2 ≤ 6 ∧ -53 ≤ p.1 ∧ p.1 ≤ 53 := by simp [mayD, and_assoc]
def dt (p : Int × Int) : List UInt8 := (if p.1 = 0 then [] else nt p.1) ++ wd p.2
def nth (l : List UInt8) : Option Int := if l = [] then some 0 else match sr l with
  | some n => if n = 0 then none else some n
  | none => none
def dr (l : List UInt8) : Option (Int × Int) :=
  if l.length < 2 then none else match nth (l.take (l.length - 2)) with
  | some n => if mayD (n, which (l.drop (l.length - 2))) then some (n, which (l.drop (l.length - 2))) else none
  | none => none
theorem dr_dt {p : Int × Int} (h : mayD p = true) : dr (dt p) = some p := by
  obtain ⟨n, d⟩ := p
  obtain ⟨h0, h1, h2, h3⟩ := mayD_iff.1 h
  have hl := wd_len h0 h1
  have e1 : (dt (n, d)).length - 2 = (if n = 0 then [] else nt n).length := by
    show ((if n = 0 then [] else nt n) ++ wd d).length - 2 = _
    rw [List.length_append, hl]; omega
  have t1 : (dt (n, d)).take ((dt (n, d)).length - 2) = if n = 0 then [] else nt n := by
    rw [e1]; exact List.take_left
  have t2 : (dt (n, d)).drop ((dt (n, d)).length - 2) = wd d := by
    rw [e1]; exact List.drop_left
  have l2 : ¬ (dt (n, d)).length < 2 := by
    show ¬ ((if n = 0 then [] else nt n) ++ wd d).length < 2
    rw [List.length_append, hl]; omega
  unfold dr
  rw [if_neg l2, t1, t2, which_wd h0 h1]
  have e : nth (if n = 0 then [] else nt n) = some n := by
    by_cases hn : n = 0
    · rw [if_pos hn, hn]; rfl
    · rw [if_neg hn]
      unfold nth
      rw [if_neg (nt_ne (by omega) (by omega)), sr_nt (by omega) (by omega)]
      simp [hn]
  rw [e]
  simp [h]
theorem dt_mem {p : Int × Int} (h : mayD p = true) {c : UInt8} (hc : isD c = false) (h45 : c ≠ 45) (hb : ¬ (65 ≤ c.toNat ∧ c.toNat ≤ 90)) : c ∉ dt p := by
  obtain ⟨h0, h1, h2, h3⟩ := mayD_iff.1 h
  intro hm
  unfold dt at hm
  rcases List.mem_append.1 hm with hm | hm
  · split at hm
    · cases hm
    · exact nt_mem (by omega) (by omega) hc h45 hm
  · exact hb (wd_big h0 h1 c hm)
/- weekdays that rise by Day and then Nth -/
def bef (a b : Int × Int) : Bool := decide (a.2 < b.2) || (decide (a.2 = b.2) && decide (a.1 < b.1))
theorem bef_iff {a b : Int × Int} : bef a b = true ↔ a.2 < b.2 ∨ (a.2 = b.2 ∧ a.1 < b.1) := by simp [bef]
theorem bef_trans {a b c : Int × Int} (h : bef a b = true) (k : bef b c = true) : bef a c = true := by
  rw [bef_iff] at *; omega
def insD : List (Int × Int) → Int × Int → List (Int × Int)
  | [], n => [n]
  | x :: l, n => if bef x n then x :: insD l n else n :: (x :: l).filter (· != n)
def riseD : List (Int × Int) → Bool
  | [] => true
  | [_] => true
  | x :: y :: t => bef x y && riseD (y :: t)
theorem insD_last : ∀ (l : List (Int × Int)) (n : Int × Int), (∀ x ∈ l, bef x n = true) → insD l n = l ++ [n]
  | [], _, _ => rfl
  | x :: l, n, h => by
    rw [insD, if_pos (h x (by simp)), insD_last l n (fun y hy => h y (by simp [hy]))]; rfl
theorem riseD_lt : ∀ (l : List (Int × Int)) (x : Int × Int), riseD (x :: l) = true → ∀ y ∈ l, bef x y = true
  | [], _, _, y, hy => by cases hy
  | z :: l, x, h, y, hy => by
    rw [riseD, Bool.and_eq_true] at h
    rcases List.mem_cons.1 hy with e | hy
    · rw [e]; exact h.1
    · exact bef_trans h.1 (riseD_lt l z h.2 y hy)
theorem riseD_tail {x : Int × Int} {l : List (Int × Int)} (h : riseD (x :: l) = true) : riseD l = true := by
  cases l with
  | nil => rfl
  | cons y l => rw [riseD, Bool.and_eq_true] at h; exact h.2
theorem fold_insD : ∀ (l a : List (Int × Int)), (∀ x ∈ a, ∀ y ∈ l, bef x y = true) → riseD l = true → l.foldl insD a = a ++ l
  | [], a, _, _ => by simp
  | y :: l, a, h, hr => by
    rw [List.foldl_cons, insD_last a y (fun x hx => h x hx y (by simp)), fold_insD l (a ++ [y]) ?_ (riseD_tail hr)]
    · simp
    · intro x hx z hz
      rcases List.mem_append.1 hx with hx | hx
      · exact h x hx z (by simp [hz])
      · rw [List.mem_singleton] at hx; rw [hx]; exact riseD_lt l y hr z hz
def stepD (acc : Option (List (Int × Int))) (t : List UInt8) : Option (List (Int × Int)) :=
  match acc, dr t with
  | some a, some n => some (insD a n)
  | _, _ => none
def ldr (l : List UInt8) : Option (List (Int × Int)) := (cutB 44 l).foldl stepD (some [])
def ldt (l : List (Int × Int)) : List UInt8 := joinB 44 (l.map dt)
theorem fold_stepD : ∀ (l a : List (Int × Int)), (∀ n ∈ l, mayD n = true) → (l.map dt).foldl stepD (some a) = some (l.foldl insD a)
  | [], _, _ => rfl
  | n :: l, a, h => by
    have h1 := h n (by simp)
    rw [List.map_cons, List.foldl_cons, List.foldl_cons]
    have e : stepD (some a) (dt n) = some (insD a n) := by
      unfold stepD
      rw [dr_dt h1]
    rw [e, fold_stepD l _ (fun m hm => h m (by simp [hm]))]
theorem ldr_ldt {l : List (Int × Int)} (hne : l ≠ []) (h : ∀ n ∈ l, mayD n = true) (hr : riseD l = true) : ldr (ldt l) = some l := by
  unfold ldr ldt
  rw [cut_join (l.map dt) (by simpa using hne) (fun x hx => by
    obtain ⟨n, hn, rfl⟩ := List.mem_map.1 hx
    exact dt_mem (h n hn) (by decide) (by decide) (by decide)), fold_stepD l [] h, fold_insD l [] (by simp) hr]
  rfl
end Rm
end Go.Proofs.YtmbmkldcedkbmaaGreat
