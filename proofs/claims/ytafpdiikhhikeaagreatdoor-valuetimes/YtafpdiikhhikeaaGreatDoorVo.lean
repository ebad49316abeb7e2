/- Offsets as texts: plain mathematics. -/
import Derived.Test.YtafpdiikhhikeaaGreatDoorVa
namespace Go.Proofs.YtafpdiikhhikeaaGreatDoor
namespace Va
open Txt

def two (k : Int) : List UInt8 := dig k.toNat 2
theorem two_eq (k : Int) : two k = [UInt8.ofNat (48 + k.toNat / 10 % 10), UInt8.ofNat (48 + k.toNat % 10)] := rfl
def offB (n : Int) : Bool := decide (-86399 ≤ n) && decide (n ≤ 86399)
theorem offB_iff {n : Int} : offB n = true ↔ -86399 ≤ n ∧ n ≤ 86399 := by simp [offB]
def ofp (n : Int) : List UInt8 := two (n / 3600) ++ two (n % 3600 / 60) ++ (if 0 < n % 60 then two (n % 60) else [])
def off (n : Int) : List UInt8 := if n < 0 then 45 :: ofp (-n) else 43 :: ofp n
/- six digits -/
def six (l : List UInt8) : List UInt8 := if l.length = 4 then l ++ [48, 48] else l
def ofV (l : List UInt8) : Int := (val l 0 : Int) / 10000 * 3600 + (val l 0 : Int) / 100 % 100 * 60 + (val l 0 : Int) % 100
def ofB (l : List UInt8) : Bool := decide (l.length = 6) && l.all isD && decide ((val l 0 : Int) / 10000 ≤ 23) && decide ((val l 0 : Int) / 100 % 100 ≤ 59) && decide ((val l 0 : Int) % 100 ≤ 59)
def po (l : List UInt8) : Option Int :=
  match l with
  | c :: r => if (c = 43 ∨ c = 45) ∧ ofB (six r) = true ∧ ¬ (c = 45 ∧ val (six r) 0 = 0) then some (sg (c == 45) (ofV (six r))) else none
  | [] => none
theorem ofB_iff {l : List UInt8} : ofB l = true ↔ l.length = 6 ∧ l.all isD = true ∧ (val l 0 : Int) / 10000 ≤ 23 ∧ (val l 0 : Int) / 100 % 100 ≤ 59 ∧ (val l 0 : Int) % 100 ≤ 59 := by
  unfold ofB
  simp only [Bool.and_eq_true, decide_eq_true_eq, and_assoc]
theorem two_len (k : Int) : (two k).length = 2 := dig_length _ _
theorem two_val {k : Int} (h0 : 0 ≤ k) (h1 : k < 100) : val (two k) 0 = k.toNat := val_dig 2 _ (by omega)
theorem two_isD (k : Int) : (two k).all isD = true := dig_isD _ _
theorem ofp_six {n : Int} : six (ofp n) = two (n / 3600) ++ two (n % 3600 / 60) ++ two (n % 60) := by
  unfold six ofp
  by_cases h : 0 < n % 60
  · rw [if_pos h, if_neg (by simp [two_len])]
  · have : n % 60 = 0 := by omega
    rw [if_neg h, if_pos (by simp [two_len]), this]
    simp [two, dig]
theorem val_six {n : Int} (h0 : 0 ≤ n) (h1 : n < 360000) : (val (six (ofp n)) 0 : Int) = 10000 * (n / 3600) + 100 * (n % 3600 / 60) + n % 60 := by
  rw [ofp_six, val_two, val_two, two_len, two_len, two_val (by omega) (by omega), two_val (by omega) (by omega), two_val (by omega) (by omega)]
  omega
theorem ofB_six {n : Int} (h0 : 0 ≤ n) (h1 : n ≤ 86399) : ofB (six (ofp n)) = true ∧ ofV (six (ofp n)) = n := by
  have hv := val_six h0 (by omega)
  refine ⟨ofB_iff.2 ⟨?_, ?_, ?_, ?_, ?_⟩, ?_⟩
  · rw [ofp_six]; simp [two_len]
  · rw [ofp_six]; simp only [List.all_append, two_isD]; rfl
  · rw [hv]; omega
  · rw [hv]; omega
  · rw [hv]; omega
  · unfold ofV
    rw [hv]; omega
theorem po_off {n : Int} (h : offB n = true) : po (off n) = some n := by
  obtain ⟨h1, h2⟩ := offB_iff.1 h
  unfold off
  by_cases a : n < 0
  · rw [if_pos a]
    obtain ⟨q1, q2⟩ := ofB_six (n := -n) (by omega) (by omega)
    have hv := val_six (n := -n) (by omega) (by omega)
    have hz : ¬ val (six (ofp (-n))) 0 = 0 := by intro h; rw [h] at hv; omega
    have e : po (45 :: ofp (-n)) = some (sg ((45 : UInt8) == 45) (ofV (six (ofp (-n))))) := if_pos ⟨.inr rfl, q1, fun h => hz h.2⟩
    rw [e, q2]
    simp [sg]
  · rw [if_neg a]
    obtain ⟨q1, q2⟩ := ofB_six (n := n) (by omega) (by omega)
    have e : po (43 :: ofp n) = some (sg ((43 : UInt8) == 45) (ofV (six (ofp n)))) := if_pos ⟨.inl rfl, q1, fun h => by cases h.1⟩
    rw [e, q2]
    simp [sg]
/- the reference's way: two digits each -/
theorem six_split {l : List UInt8} (h : l.length = 6) : ∃ a b c : List UInt8, l = a ++ b ++ c ∧ a.length = 2 ∧ b.length = 2 ∧ c.length = 2 ∧ l.take 2 = a ∧ (l.drop 2).take 2 = b ∧ l.drop 4 = c := by
  refine ⟨l.take 2, (l.drop 2).take 2, l.drop 4, ?_, ?_, ?_, ?_, rfl, rfl, rfl⟩
  · rw [List.append_assoc, show l.drop 4 = (l.drop 2).drop 2 by rw [List.drop_drop], List.take_append_drop, List.take_append_drop]
  · rw [List.length_take]; omega
  · rw [List.length_take, List.length_drop]; omega
  · rw [List.length_drop]; omega
theorem dgs_two {l : List UInt8} (h : l.length = 2) : (l.all isD = true → dgs l = val l 0 ∧ val l 0 < 100) ∧ (l.all isD = false → dgs l = -1) := by
  refine ⟨fun ha => ?_, fun ha => if_neg (by simp [ha])⟩
  have hne : l ≠ [] := by rintro rfl; cases h
  have := val_lt l 0 ha
  rw [h] at this
  exact ⟨if_pos ⟨hne, ha⟩, by omega⟩
theorem ofB_parts {a b c : List UInt8} (ha : a.length = 2) (hb : b.length = 2) (hc : c.length = 2) :
    ofB (a ++ b ++ c) = (decide (0 ≤ dgs a) && decide (0 ≤ dgs b) && decide (0 ≤ dgs c) && decide (dgs a ≤ 23) && decide (dgs b ≤ 59) && decide (dgs c ≤ 59)) ∧
    (ofB (a ++ b ++ c) = true → ofV (a ++ b ++ c) = 3600 * dgs a + 60 * dgs b + dgs c ∧ (val (a ++ b ++ c) 0 = 0 ↔ 3600 * dgs a + 60 * dgs b + dgs c = 0)) := by
  have hv : val (a ++ b ++ c) 0 = (val a 0 * 100 + val b 0) * 100 + val c 0 := by rw [val_two, val_two, hb, hc]
  rcases h1 : a.all isD
  · have e1 := (dgs_two ha).2 h1
    have : ofB (a ++ b ++ c) = false := by
      rw [Bool.eq_false_iff]; intro h
      have := (ofB_iff.1 h).2.1
      rw [List.all_append, List.all_append, h1] at this
      cases this
    rw [this, e1]
    exact ⟨rfl, fun h => by (cases h)⟩
  · rcases h2 : b.all isD
    · have e1 := (dgs_two hb).2 h2
      have : ofB (a ++ b ++ c) = false := by
        rw [Bool.eq_false_iff]; intro h
        have := (ofB_iff.1 h).2.1
        rw [List.all_append, List.all_append, h2] at this
        simp at this
      rw [this, e1]
      exact ⟨by simp, fun h => by (cases h)⟩
    · rcases h3 : c.all isD
      · have e1 := (dgs_two hc).2 h3
        have : ofB (a ++ b ++ c) = false := by
          rw [Bool.eq_false_iff]; intro h
          have := (ofB_iff.1 h).2.1
          rw [List.all_append, List.all_append, h3] at this
          simp at this
        rw [this, e1]
        exact ⟨by simp, fun h => by (cases h)⟩
      · obtain ⟨e1, l1⟩ := (dgs_two ha).1 h1
        obtain ⟨e2, l2⟩ := (dgs_two hb).1 h2
        obtain ⟨e3, l3⟩ := (dgs_two hc).1 h3
        rw [e1, e2, e3]
        generalize val a 0 = x at *
        generalize val b 0 = y at *
        generalize val c 0 = z at *
        have q : ofB (a ++ b ++ c) = (decide ((x : Int) ≤ 23) && decide ((y : Int) ≤ 59) && decide ((z : Int) ≤ 59)) := by
          unfold ofB
          rw [hv, List.all_append, List.all_append, h1, h2, h3, List.length_append, List.length_append, ha, hb, hc]
          have t1 : (((x * 100 + y) * 100 + z : Nat) : Int) / 10000 = x := by omega
          have t2 : (((x * 100 + y) * 100 + z : Nat) : Int) / 100 % 100 = y := by omega
          have t3 : (((x * 100 + y) * 100 + z : Nat) : Int) % 100 = z := by omega
          rw [t1, t2, t3]
          simp
        refine ⟨?_, fun _ => ⟨?_, ?_⟩⟩
        · rw [q]
          have p1 : decide ((0 : Int) ≤ x) = true := decide_eq_true (by omega)
          have p2 : decide ((0 : Int) ≤ y) = true := decide_eq_true (by omega)
          have p3 : decide ((0 : Int) ≤ z) = true := decide_eq_true (by omega)
          rw [p1, p2, p3]; rfl
        · unfold ofV
          rw [hv]; omega
        · rw [hv]; omega
end Va
end Go.Proofs.YtafpdiikhhikeaaGreatDoor
