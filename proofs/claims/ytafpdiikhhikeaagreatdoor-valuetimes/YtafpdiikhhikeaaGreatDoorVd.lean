/- Durations as texts, read by the program's way and by the reference's: plain mathematics. -/
import Derived.Test.YtafpdiikhhikeaaGreatDoorVa
namespace Go.Proofs.YtafpdiikhhikeaaGreatDoor
namespace Va
open Txt

/- seconds; minutes and seconds, with a sum ahead; hours, minutes and seconds -/
def se (s : Nat) : Option (Nat × UInt8 × List UInt8) → Option Nat
  | some (n, c, r) => if c = 83 ∧ r = [] then some (s + n) else none
  | none => none
def mi (s : Nat) : Option (Nat × UInt8 × List UInt8) → Option Nat
  | some (n, c, r) => if c = 77 then (if r = [] then some (s + n * 60) else se (s + n * 60) (cut r)) else none
  | none => none
def ho : Option (Nat × UInt8 × List UInt8) → Option Nat
  | some (n, c, r) => if c = 72 then (if r = [] then some (n * 3600) else mi (n * 3600) (cut r)) else if c = 77 then mi 0 (some (n, c, r)) else se 0 (some (n, c, r))
  | none => none
def hr (l : List UInt8) : Option Nat := ho (cut l)
/- what follows the sign and P -/
def pe : Option (Nat × UInt8 × List UInt8) → Option Nat
  | some (n, c, r) => if c = 87 then (if r = [] then some (n * 604800) else none) else if c = 68 then (if r = [] then some (n * 86400) else if r.head? = some 84 then (hr r.tail).map (n * 86400 + ·) else none) else none
  | none => none
def pp (l : List UInt8) : Option Nat := if l.head? = some 84 then hr l.tail else pe (cut l)

/- the reference's terms -/
def tmG : List UInt8 → List UInt8 → Option (List (Nat × UInt8))
  | [], d => if d = [] then some [] else none
  | b :: l, d => if isD b then tmG l (d ++ [b]) else if d = [] ∨ 10 < d.length then none else (tmG l []).map ((val d 0, b) :: ·)
def tm (l : List UInt8) : Option (List (Nat × UInt8)) := tmG l []
theorem tmG_cut : ∀ (l d : List UInt8), d.all isD = true → tmG l d = match l.dropWhile isD with
    | [] => if d ++ l.takeWhile isD = [] then some [] else none
    | c :: r => if num (d ++ l.takeWhile isD) 10 then (tm r).map ((val (d ++ l.takeWhile isD) 0, c) :: ·) else none
  | [], d, _ => by simp [tmG]
  | b :: l, d, hd => by
    rcases hb : isD b
    · have hn : (d = [] ∨ 10 < d.length) ↔ ¬ num d 10 = true := by
        rw [num_iff]
        constructor
        · rintro (h | h) ⟨h1, h2, _⟩
          · exact h1 h
          · omega
        · intro h
          by_cases h1 : d = []
          · exact .inl h1
          · right
            have : ¬ d.length ≤ 10 := fun h2 => h ⟨h1, h2, hd⟩
            omega
      rw [tmG, List.dropWhile_cons_of_neg (by simp [hb]), List.takeWhile_cons_of_neg (by simp [hb]), List.append_nil]
      simp only [hb, Bool.false_eq_true, if_false]
      rcases hv : num d 10
      · rw [if_pos (hn.2 (by simp [hv]))]; simp
      · rw [if_neg (fun h => hn.1 h hv)]; simp [tm]
    · rw [tmG, if_pos hb, tmG_cut l (d ++ [b]) (by simp [hd, hb]), List.dropWhile_cons_of_pos hb, List.takeWhile_cons_of_pos hb]
      simp
theorem tm_nil : tm [] = some [] := rfl
theorem tm_cut {l : List UInt8} (h : l ≠ []) : tm l = match cut l with
    | none => none
    | some (n, c, r) => (tm r).map ((n, c) :: ·) := by
  unfold tm cut
  rw [tmG_cut l [] rfl]
  rcases e : l.dropWhile isD with _ | ⟨c, r⟩
  · simp only [List.nil_append]
    have ht := List.takeWhile_append_dropWhile (p := isD) (l := l)
    rw [e, List.append_nil] at ht
    rw [ht, if_neg h]
  · simp only [List.nil_append]
    split <;> rfl
theorem tm_ne {l : List UInt8} (h : tm l = some []) : l = [] := by
  by_cases hl : l = []
  · exact hl
  · rw [tm_cut hl] at h
    split at h
    · cases h
    · rename_i n c r _
      rcases hr : tm r with _ | t <;> rw [hr] at h <;> simp at h
theorem tm_none {l : List UInt8} (h : cut l = none) (hl : l ≠ []) : tm l = none := by rw [tm_cut hl, h]
theorem tm_some {l : List UInt8} {n : Nat} {c : UInt8} {r : List UInt8} (h : cut l = some (n, c, r)) : tm l = (tm r).map ((n, c) :: ·) := by
  have hl : l ≠ [] := by rintro rfl; cases h
  rw [tm_cut hl, h]

/- the reference's hours -/
def word (t : List (Nat × UInt8)) : List UInt8 := t.map (·.2)
def wt (p : Nat × UInt8) : Nat := if p.2 = 72 then 3600 * p.1 else if p.2 = 77 then 60 * p.1 else if p.2 = 83 then p.1 else 0
def sum : List (Nat × UInt8) → Nat
  | [] => 0
  | p :: t => wt p + sum t
def okW (l : List UInt8) : Bool := l == [72] || l == [72, 77] || l == [72, 77, 83] || l == [77] || l == [77, 83] || l == [83]
def hrT : Option (List (Nat × UInt8)) → Option Nat
  | some t => if okW (word t) then some (sum t) else none
  | none => none
theorem hr_eq (l : List UInt8) : hrT (tm l) = hr l := by
  unfold hr
  rcases h1 : cut l with _ | ⟨n, c, r⟩
  · by_cases hl : l = []
    · subst hl; rfl
    · rw [tm_none h1 hl]; rfl
  rw [tm_some h1]
  simp only [ho]
  by_cases c1 : c = 72
  · subst c1
    by_cases r1 : r = []
    · subst r1; simp [tm_nil, hrT, okW, word, sum, wt, Nat.mul_comm]
    rcases h2 : cut r with _ | ⟨m, d, q⟩
    · rw [tm_none h2 r1]; simp [hrT, mi, r1]
    rw [tm_some h2]
    by_cases c2 : d = 77
    · subst c2
      by_cases r2 : q = []
      · subst r2; simp [tm_nil, hrT, okW, word, sum, wt, mi, r1, Nat.mul_comm]
      rcases h3 : cut q with _ | ⟨k, e, p⟩
      · rw [tm_none h3 r2]; simp [hrT, mi, se, r1, r2, h3]
      rw [tm_some h3]
      by_cases r3 : p = []
      · subst r3
        by_cases c3 : e = 83
        · subst c3; simp [tm_nil, hrT, okW, word, sum, wt, mi, se, r1, r2, h3, Nat.mul_comm, Nat.add_assoc]
        · simp [tm_nil, hrT, okW, word, mi, se, r1, r2, h3, c3]
      · rcases h4 : tm p with _ | t
        · simp [hrT, mi, se, r1, r2, h3, r3]
        · have : t ≠ [] := fun h => r3 (tm_ne (by rw [h4, h]))
          simp [hrT, okW, word, mi, se, r1, r2, h3, r3, this]
    · rcases h4 : tm q with _ | t
      · simp [hrT, mi, r1, c2]
      · simp [hrT, okW, word, mi, r1, c2]
  · by_cases c2 : c = 77
    · subst c2
      by_cases r2 : r = []
      · subst r2; simp [tm_nil, hrT, okW, word, sum, wt, mi, Nat.mul_comm]
      rcases h3 : cut r with _ | ⟨k, e, p⟩
      · rw [tm_none h3 r2]; simp [hrT, mi, se, r2, h3]
      rw [tm_some h3]
      by_cases r3 : p = []
      · subst r3
        by_cases c3 : e = 83
        · subst c3; simp [tm_nil, hrT, okW, word, sum, wt, mi, se, r2, h3, Nat.mul_comm]
        · simp [tm_nil, hrT, okW, word, mi, se, r2, h3, c3]
      · rcases h4 : tm p with _ | t
        · simp [hrT, mi, se, r2, h3, r3]
        · have : t ≠ [] := fun h => r3 (tm_ne (by rw [h4, h]))
          simp [hrT, okW, word, mi, se, r2, h3, r3, this]
    · by_cases c3 : c = 83
      · subst c3
        by_cases r3 : r = []
        · subst r3; simp [tm_nil, hrT, okW, word, sum, wt, se]
        · rcases h4 : tm r with _ | t
          · simp [hrT, se, r3]
          · have : t ≠ [] := fun h => r3 (tm_ne (by rw [h4, h]))
            simp [hrT, okW, word, se, r3, this]
      · rcases h4 : tm r with _ | t
        · simp [hrT, se, c1, c2, c3]
        · simp [hrT, okW, word, se, c1, c2, c3]
end Va
end Go.Proofs.YtafpdiikhhikeaaGreatDoor
