/- Durations as texts: what is written, and that it is read as it was; the reference's reading is the program's: plain mathematics. -/
import Derived.Test.YtafpdiikhhikeaaGreatDoorVd
namespace Go.Proofs.YtafpdiikhhikeaaGreatDoor
namespace Va
open Txt

def noT (b : UInt8) : Bool := b != 84
def one : Option (List (Nat × UInt8)) → Option (Nat × UInt8)
  | some [p] => some p
  | _ => none
/- the reference's reading of what follows the sign and P -/
def rpd (l : List UInt8) : Option Nat :=
  match l.dropWhile noT with
  | [] => match one (tm (l.takeWhile noT)) with
    | some (n, c) => if c = 87 then some (604800 * n) else if c = 68 then some (86400 * n) else none
    | none => none
  | _ :: h => if l.takeWhile noT = [] then hr h else match one (tm (l.takeWhile noT)) with
    | some (n, c) => if c = 68 then (hr h).map (86400 * n + ·) else none
    | none => none
theorem one_cut {l : List UInt8} (h : l ≠ []) : one (tm l) = match cut l with
    | some (n, c, r) => if r = [] then some (n, c) else none
    | none => none := by
  rcases h1 : cut l with _ | ⟨n, c, r⟩
  · rw [tm_none h1 h]; rfl
  · rw [tm_some h1]
    by_cases hr : r = []
    · subst hr; simp [tm_nil, one]
    · rcases h2 : tm r with _ | t
      · simp [one, hr]
      · rcases t with _ | ⟨p, t⟩
        · exact absurd (tm_ne h2) hr
        · simp [one, hr]
theorem dw_nil {l : List UInt8} (h : l.dropWhile noT = []) : l.takeWhile noT = l ∧ ∀ b ∈ l, b ≠ 84 := by
  have ht := List.takeWhile_append_dropWhile (p := noT) (l := l)
  rw [h, List.append_nil] at ht
  refine ⟨ht, fun b hb => ?_⟩
  rw [← ht] at hb
  have := List.all_takeWhile (p := noT) (l := l)
  rw [List.all_eq_true] at this
  simpa [noT] using this b hb
theorem rpd_eq (l : List UInt8) : rpd l = pp l := by
  unfold rpd
  rcases e : l.dropWhile noT with _ | ⟨b, h⟩
  · obtain ⟨h1, h2⟩ := dw_nil e
    rw [h1]
    by_cases hl : l = []
    · subst hl; rfl
    have hh : ¬ l.head? = some 84 := by
      intro h
      rcases l with _ | ⟨b, l⟩
      · cases h
      · simp at h; exact h2 b (by simp) h
    unfold pp
    rw [if_neg hh]
    simp only [one_cut hl]
    rcases h3 : cut l with _ | ⟨n, c, r⟩
    · rfl
    · by_cases hr : r = []
      · subst hr; simp [pe, Nat.mul_comm]
      · have hr2 : ¬ r.head? = some 84 := by
          intro h
          obtain ⟨d, ed, _⟩ := cut_some h3
          rcases r with _ | ⟨b, r⟩
          · cases h
          · simp at h
            exact h2 b (by rw [ed]; simp) h
        simp [pe, hr, hr2]
  · have hb : b = 84 := by
      have := List.head?_dropWhile_not noT l
      rw [e] at this
      simpa [noT] using this
    subst hb
    have ht := List.takeWhile_append_dropWhile (p := noT) (l := l)
    rw [e] at ht
    have hall := List.all_takeWhile (p := noT) (l := l)
    generalize l.takeWhile noT = d at *
    have hd : ∀ b ∈ d, b ≠ 84 := fun b hb => by
      rw [List.all_eq_true] at hall
      simpa [noT] using hall b hb
    subst ht
    by_cases d1 : d = []
    · subst d1; simp [pp]
    · simp only [if_neg d1]
      have hh : ¬ (d ++ 84 :: h).head? = some 84 := by
        intro h
        rcases d with _ | ⟨b, d⟩
        · exact d1 rfl
        · simp at h; exact hd b (by simp) h
      unfold pp
      rw [if_neg hh, one_cut d1]
      rcases h3 : cut d with _ | ⟨n, c, r⟩
      · have hp : pe (cut (d ++ 84 :: h)) = none := by
          rcases h4 : cut (d ++ 84 :: h) with _ | ⟨n, c, r⟩
          · rfl
          · obtain ⟨f, ef, hn, _, hc⟩ := cut_some h4
            have hall : d.all isD = true := by
              rcases hx : d.all isD
              · exfalso
                have hdw : d.dropWhile isD ≠ [] := by
                  intro h5
                  have := List.takeWhile_append_dropWhile (p := isD) (l := d)
                  rw [h5, List.append_nil] at this
                  have h6 := List.all_takeWhile (p := isD) (l := d)
                  rw [this, hx] at h6
                  cases h6
                rcases h5 : d.dropWhile isD with _ | ⟨c', r'⟩
                · exact hdw h5
                · have h6 := List.takeWhile_append_dropWhile (p := isD) (l := d)
                  rw [h5] at h6
                  have h7 := List.all_takeWhile (p := isD) (l := d)
                  have h8 := List.head?_dropWhile_not isD d
                  rw [h5] at h8
                  have h8 : isD c' = false := by simpa using h8
                  have h9 : d ++ 84 :: h = d.takeWhile isD ++ c' :: (r' ++ 84 :: h) := by
                    conv => lhs; rw [← h6]
                    simp
                  have q1 := (tw_app (r := r' ++ 84 :: h) h7 h8).1
                  have q2 := (tw_app (r := r) (num_iff.1 hn).2.2 hc).1
                  rw [← h9, ef, q2] at q1
                  have q3 := cut_mk (r := r') hn h8
                  rw [q1, h6, h3] at q3
                  cases q3
              · rfl
            have q1 := tw_app (c := 84) (r := h) hall (by decide)
            have q2 := tw_app (r := r) (num_iff.1 hn).2.2 hc
            rw [ef, q2.1, q2.2] at q1
            have q3 : c = 84 := by have := q1.2; injection this
            subst q3
            simp [pe]
        rw [hp]
      · obtain ⟨f, ef, hn, hv, hc⟩ := cut_some h3
        have h4 : cut (d ++ 84 :: h) = some (n, c, r ++ 84 :: h) := by
          rw [ef, List.append_assoc, List.cons_append, cut_mk hn hc, hv]
        rw [h4]
        by_cases hr : r = []
        · subst hr; simp only [pe, if_true]
          by_cases c1 : c = 68
          · subst c1; simp [Nat.mul_comm]
          · simp [c1]
        · have hr2 : ¬ (r ++ 84 :: h).head? = some 84 := by
            intro h
            rcases r with _ | ⟨b, r⟩
            · exact hr rfl
            · simp at h
              exact hd b (by rw [ef]; simp) h
          have hq : r ++ 84 :: h ≠ [] := by simp
          generalize r ++ 84 :: h = q at *
          simp [pe, hr, hq, hr2]

/- a whole duration -/
def un (l : List UInt8) : List UInt8 := if neg l then l.tail else if l.head? == some 43 then l.tail else l
def top : Option Nat → Option Nat
  | some n => if n ≤ 10000000000 then some n else none
  | none => none
def pd (l : List UInt8) : Option Int := if (un l).head? = some 80 then (top (pp (un l).tail)).map (fun n => sg (neg l) (n : Int)) else none
end Va
end Go.Proofs.YtafpdiikhhikeaaGreatDoor
