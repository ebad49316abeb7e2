/- The texts Vo, Vs, VaFn, VaZone, Vz, ClkDig, ClkFmt, ClkTxt, Vw, one behind the other. -/
import Derived.Test.YtmbmkldcedkbmaaGreatZA
import Derived.Test.YtmbmkldcedkbmaaGreatZB
import Derived.BigQuiet
import Derived.OwnWalk
import Derived.Deep.LoopGhost
import Derived.Test.YtmbmkldcedkbmaaGreatZShelf
import Derived.Deep.Cut
import Derived.Deep.CutRange
import Derived.Lib.Strings
import Derived.Deep.RegionHeld3
namespace Go.Proofs.YtmbmkldcedkbmaaGreat
namespace Va
open Txt

def two (k : Int) : List UInt8 := dig k.toNat 2
theorem two_eq (k : Int) : two k = [UInt8.ofNat (48 + k.toNat / 10 % 10), UInt8.ofNat (48 + k.toNat % 10)] := rfl
def offB (n : Int) : Bool := decide (-86399 ≤ n) && decide (n ≤ 86399)
theorem offB_iff {n : Int} : offB n = true ↔ -86399 ≤ n ∧ n ≤ 86399 := by simp [offB]
def ofp (n : Int) : List UInt8 := two (n / 3600) ++ two (n % 3600 / 60) ++ (if 0 < n % 60 then two (n % 60) else [])
def off (n : Int) : List UInt8 := if n < 0 then 45 :: ofp (-n) else 43 :: ofp n
/- six digits -/
def six (l : List UInt8) : List UInt8 := if l.length = 4 then l ++ [48, 48] else l
def ofV (l : List UInt8) : Int := (val l 0 : Int) / 10000 * 3600 + (val l 0 : Int) / 100 % 100 * 60 + (val l 0 : Int) % 100
def ofB (l : List UInt8) : Bool := decide (l.length = 6) && l.all isD && decide ((val l 0 : Int) / 10000 ≤ 23) && decide ((val l 0 : Int) / 100 % 100 ≤ 59) && decide ((val l 0 : Int) % 100 ≤ 59)
def po (l : List UInt8) : Option Int :=
  match l with
  | c :: r => if (c = 43 ∨ c = 45) ∧ ofB (six r) = true ∧ ¬ (c = 45 ∧ val (six r) 0 = 0) then some (sg (c == 45) (ofV (six r))) else none
  | [] => none
theorem ofB_iff {l : List UInt8} : ofB l = true ↔ l.length = 6 ∧ l.all isD = true ∧ (val l 0 : Int) / 10000 ≤ 23 ∧ (val l 0 : Int) / 100 % 100 ≤ 59 ∧ (val l 0 : Int) % 100 ≤ 59 := by
  unfold ofB
  simp only [Bool.and_eq_true, decide_eq_true_eq, and_assoc]
theorem two_len (k : Int) : (two k).length = 2 := dig_length _ _
theorem two_val {k : Int} (h0 : 0 ≤ k) (h1 : k < 100) : val (two k) 0 = k.toNat := val_dig 2 _ (by omega)
theorem two_isD (k : Int) : (two k).all isD = true := dig_isD _ _
theorem ofp_six {n : Int} : six (ofp n) = two (n / 3600) ++ two (n % 3600 / 60) ++ two (n % 60) := by
  unfold six ofp
  by_cases h : 0 < n % 60
  · rw [if_pos h, if_neg (by simp [two_len])]
  · have : n % 60 = 0 := by omega
    rw [if_neg h, if_pos (by simp [two_len]), this]
    simp [two, dig]
theorem val_six {n : Int} (h0 : 0 ≤ n) (h1 : n < 360000) : (val (six (ofp n)) 0 : Int) = 10000 * (n / 3600) + 100 * (n % 3600 / 60) + n % 60 := by
  rw [ofp_six, val_two, val_two, two_len, two_len, two_val (by omega) (by omega), two_val (by omega) (by omega), two_val (by omega) (by omega)]
  omega
theorem ofB_six {n : Int} (h0 : 0 ≤ n) (h1 : n ≤ 86399) : ofB (six (ofp n)) = true ∧ ofV (six (ofp n)) = n := by
  have hv := val_six h0 (by omega)
  refine ⟨ofB_iff.2 ⟨?_, ?_, ?_, ?_, ?_⟩, ?_⟩
  · rw [ofp_six]; simp [two_len]
  · rw [ofp_six]; simp only [List.all_append, two_isD]; rfl
  · rw [hv]; omega
  · rw [hv]; omega
  · rw [hv]; omega
  · unfold ofV
    rw [hv]; omega
theorem po_off {n : Int} (h : offB n = true) : po (off n) = some n := by
  obtain ⟨h1, h2⟩ := offB_iff.1 h
  unfold off
  by_cases a : n < 0
  · rw [if_pos a]
    obtain ⟨q1, q2⟩ := ofB_six (n := -n) (by omega) (by omega)
    have hv := val_six (n := -n) (by omega) (by omega)
    have hz : ¬ val (six (ofp (-n))) 0 = 0 := by intro h; rw [h] at hv; omega
    have e : po (45 :: ofp (-n)) = some (sg ((45 : UInt8) == 45) (ofV (six (ofp (-n))))) := if_pos ⟨.inr rfl, q1, fun h => hz h.2⟩
    rw [e, q2]
    simp [sg]
  · rw [if_neg a]
    obtain ⟨q1, q2⟩ := ofB_six (n := n) (by omega) (by omega)
    have e : po (43 :: ofp n) = some (sg ((43 : UInt8) == 45) (ofV (six (ofp n)))) := if_pos ⟨.inl rfl, q1, fun h => by cases h.1⟩
    rw [e, q2]
    simp [sg]
/- the reference's way: two digits each -/
theorem six_split {l : List UInt8} (h : l.length = 6) : ∃ a b c : List UInt8, l = a ++ b ++ c ∧ a.length = 2 ∧ b.length = 2 ∧ c.length = 2 ∧ l.take 2 = a ∧ (l.drop 2).take 2 = b ∧ l.drop 4 = c := by
  refine ⟨l.take 2, (l.drop 2).take 2, l.drop 4, ?_, ?_, ?_, ?_, rfl, rfl, rfl⟩
  · rw [List.append_assoc, show l.drop 4 = (l.drop 2).drop 2 by rw [List.drop_drop], List.take_append_drop, List.take_append_drop]
  · rw [List.length_take]; omega
  · rw [List.length_take, List.length_drop]; omega
  · rw [List.length_drop]; omega
theorem dgs_two {l : List UInt8} (h : l.length = 2) : (l.all isD = true → dgs l = val l 0 ∧ val l 0 < 100) ∧ (l.all isD = false → dgs l = -1) := by
  refine ⟨fun ha => ?_, fun ha => if_neg (by simp [ha])⟩
  have hne : l ≠ [] := by rintro rfl; cases h
  have := val_lt l 0 ha
  rw [h] at this
  exact ⟨if_pos ⟨hne, ha⟩, by omega⟩
theorem ofB_parts {a b c : List UInt8} (ha : a.length = 2) (hb : b.length = 2) (hc : c.length = 2) :
    ofB (a ++ b ++ c) = (decide (0 ≤ dgs a) && decide (0 ≤ dgs b) && decide (0 ≤ dgs c) && decide (dgs a ≤ 23) && decide (dgs b ≤ 59) && decide (dgs c ≤ 59)) ∧
    (ofB (a ++ b ++ c) = true → ofV (a ++ b ++ c) = 3600 * dgs a + 60 * dgs b + dgs c ∧ (val (a ++ b ++ c) 0 = 0 ↔ 3600 * dgs a + 60 * dgs b + dgs c = 0)) := by
  have hv : val (a ++ b ++ c) 0 = (val a 0 * 100 + val b 0) * 100 + val c 0 := by rw [val_two, val_two, hb, hc]
  rcases h1 : a.all isD
  · have e1 := (dgs_two ha).2 h1
    have : ofB (a ++ b ++ c) = false := by
      rw [Bool.eq_false_iff]; intro h
      have := (ofB_iff.1 h).2.1
      rw [List.all_append, List.all_append, h1] at this
      cases this
    rw [this, e1]
    exact ⟨rfl, fun h => by (cases h)⟩
  · rcases h2 : b.all isD
    · have e1 := (dgs_two hb).2 h2
      have : ofB (a ++ b ++ c) = false := by
        rw [Bool.eq_false_iff]; intro h
        have := (ofB_iff.1 h).2.1
        rw [List.all_append, List.all_append, h2] at this
        simp at this
      rw [this, e1]
      exact ⟨by simp, fun h => by (cases h)⟩
    · rcases h3 : c.all isD
      · have e1 := (dgs_two hc).2 h3
        have : ofB (a ++ b ++ c) = false := by
          rw [Bool.eq_false_iff]; intro h
          have := (ofB_iff.1 h).2.1
          rw [List.all_append, List.all_append, h3] at this
          simp at this
        rw [this, e1]
        exact ⟨by simp, fun h => by (cases h)⟩
      · obtain ⟨e1, l1⟩ := (dgs_two ha).1 h1
        obtain ⟨e2, l2⟩ := (dgs_two hb).1 h2
        obtain ⟨e3, l3⟩ := (dgs_two hc).1 h3
        rw [e1, e2, e3]
        generalize val a 0 = x at *
        generalize val b 0 = y at *
        generalize val c 0 = z at *
        have q : ofB (a ++ b ++ c) = (decide ((x : Int) ≤ 23) && decide ((y : Int) ≤ 59) && decide ((z : Int) ≤ 59)) := by
          unfold ofB
          rw [hv, List.all_append, List.all_append, h1, h2, h3, List.length_append, List.length_append, ha, hb, hc]
          have t1 : (((x * 100 + y) * 100 + z : Nat) : Int) / 10000 = x := by omega
          have t2 : (((x * 100 + y) * 100 + z : Nat) : Int) / 100 % 100 = y := by omega
          have t3 : (((x * 100 + y) * 100 + z : Nat) : Int) % 100 = z := by omega
          rw [t1, t2, t3]
          simp
        refine ⟨?_, fun _ => ⟨?_, ?_⟩⟩
        · rw [q]
          have p1 : decide ((0 : Int) ≤ x) = true := decide_eq_true (by omega)
          have p2 : decide ((0 : Int) ≤ y) = true := decide_eq_true (by omega)
          have p3 : decide ((0 : Int) ≤ z) = true := decide_eq_true (by omega)
          rw [p1, p2, p3]; rfl
        · unfold ofV
          rw [hv]; omega
        · rw [hv]; omega
end Va
end Go.Proofs.YtmbmkldcedkbmaaGreat
namespace Go.Proofs.YtmbmkldcedkbmaaGreat
namespace Va
open Txt

/- seconds of a text, or -1 -/
def secV (l : List UInt8) : Int := if Clk.parB l then Clk.parV l else -1
theorem dgs_k {l : List UInt8} (h : l ≠ []) : (l.all isD = true → dgs l = val l 0) ∧ (l.all isD = false → dgs l = -1) :=
  ⟨fun ha => if_pos ⟨h, ha⟩, fun ha => if_neg (by simp [ha])⟩
theorem dgs_lo (l : List UInt8) : -1 ≤ dgs l := by
  unfold dgs; split <;> omega
theorem dgs_hi {l : List UInt8} {k : Nat} (h : l.length ≤ k) : dgs l < 10 ^ k := by
  unfold dgs
  split
  · rename_i h1
    have := val_lt l 0 h1.2
    have h3 : 10 ^ l.length ≤ 10 ^ k := Nat.pow_le_pow_right (by omega) h
    have : val l 0 < 10 ^ k := by omega
    exact_mod_cast this
  · have : (0 : Int) < 10 ^ k := by exact_mod_cast Nat.pow_pos (n := k) (by omega : 0 < 10)
    omega
/- three pieces of a text of digits -/
theorem parts3 {a b c : List UInt8} (hb : b.length = 2) (hc : c.length = 2) (ha : a ≠ []) :
    ((a ++ b ++ c).all isD = decide (0 ≤ dgs a ∧ 0 ≤ dgs b ∧ 0 ≤ dgs c)) ∧
    ((a ++ b ++ c).all isD = true → Clk.vY (a ++ b ++ c) = dgs a ∧ Clk.vM (a ++ b ++ c) = dgs b ∧ Clk.vD (a ++ b ++ c) = dgs c) := by
  have hbn : b ≠ [] := by rintro rfl; cases hb
  have hcn : c ≠ [] := by rintro rfl; cases hc
  have hv : val (a ++ b ++ c) 0 = (val a 0 * 100 + val b 0) * 100 + val c 0 := by rw [val_two, val_two, hb, hc]
  rw [List.all_append, List.all_append]
  rcases h1 : a.all isD
  · rw [(dgs_k ha).2 h1]
    exact ⟨by simp, fun h => by simp at h⟩
  · rw [(dgs_k ha).1 h1]
    rcases h2 : b.all isD
    · rw [(dgs_k hbn).2 h2]
      exact ⟨by simp, fun h => by simp at h⟩
    · rw [(dgs_k hbn).1 h2]
      rcases h3 : c.all isD
      · rw [(dgs_k hcn).2 h3]
        exact ⟨by simp, fun h => by simp at h⟩
      · rw [(dgs_k hcn).1 h3]
        have l2 := ((dgs_two hb).1 h2).2
        have l3 := ((dgs_two hc).1 h3).2
        refine ⟨by simp, fun _ => ?_⟩
        unfold Clk.vY Clk.vM Clk.vD
        rw [hv]
        omega
theorem sec_parts {a b c t e f g : List UInt8} {l : List UInt8} (hl : l = a ++ b ++ c ++ t ++ (e ++ f ++ g)) (ha : a.length = 4) (hb : b.length = 2) (hc : c.length = 2) (ht : t = [84]) (he : e.length = 2) (hf : f.length = 2) (hg : g.length = 2) :
    secV l = if (0 ≤ dgs a ∧ 0 ≤ dgs b ∧ 0 ≤ dgs c ∧ 0 ≤ dgs e ∧ 0 ≤ dgs f ∧ 0 ≤ dgs g ∧ dgs e ≤ 23 ∧ dgs f ≤ 59 ∧ dgs g ≤ 59) ∧ Cal.okB (dgs a) (dgs b) (dgs c) = true then 86400 * Cal.num (dgs a) (dgs b) (dgs c) + 3600 * dgs e + 60 * dgs f + dgs g else -1 := by
  have han : a ≠ [] := by rintro rfl; cases ha
  have hen : e ≠ [] := by rintro rfl; cases he
  obtain ⟨p1, p2⟩ := parts3 hb hc han
  obtain ⟨q1, q2⟩ := parts3 hf hg hen
  have t8 : l.take 8 = a ++ b ++ c := by
    rw [hl, List.append_assoc (a ++ b ++ c)]
    exact List.take_left' (by simp [ha, hb, hc])
  have t9 : l.drop 9 = e ++ f ++ g := by
    rw [hl]
    exact List.drop_left' (by simp [ha, hb, hc, ht])
  have l15 : l.length = 15 := by rw [hl]; simp [ha, hb, hc, ht, he, hf, hg]
  have a8 : l[8]? = some 84 := by
    rw [hl, List.append_assoc (a ++ b ++ c), List.getElem?_append_right (by simp [ha, hb, hc]), ht]
    simp [ha, hb, hc]
  unfold secV Clk.parB Clk.txtB Clk.parV
  rw [t8, t9, l15, a8]
  rcases h1 : (a ++ b ++ c).all isD
  · rw [h1] at p1
    have hn : ¬ (0 ≤ dgs a ∧ 0 ≤ dgs b ∧ 0 ≤ dgs c) := of_decide_eq_false p1.symm
    rw [if_neg (by simp), if_neg (by rintro ⟨h, _⟩; omega)]
  · obtain ⟨y1, y2, y3⟩ := p2 h1
    rw [h1] at p1
    have hp := of_decide_eq_true p1.symm
    rcases h2 : (e ++ f ++ g).all isD
    · rw [h2] at q1
      have hn : ¬ (0 ≤ dgs e ∧ 0 ≤ dgs f ∧ 0 ≤ dgs g) := of_decide_eq_false q1.symm
      rw [if_neg (by simp), if_neg (by rintro ⟨h, _⟩; omega)]
    · obtain ⟨z1, z2, z3⟩ := q2 h2
      rw [h2] at q1
      have hq := of_decide_eq_true q1.symm
      rw [y1, y2, y3, z1, z2, z3]
      rcases h3 : Cal.okB (dgs a) (dgs b) (dgs c)
      · rw [if_neg (by simp), if_neg (by simp)]
      · rcases h4 : Clk.timB (dgs e) (dgs f) (dgs g)
        · have hn : ¬ (0 ≤ dgs e ∧ dgs e ≤ 23 ∧ 0 ≤ dgs f ∧ dgs f ≤ 59 ∧ 0 ≤ dgs g ∧ dgs g ≤ 59) := by rw [← Clk.timB_iff, h4]; simp
          rw [if_neg (by simp), if_neg (by rintro ⟨h, _⟩; omega)]
        · have ht := Clk.timB_iff.1 h4
          rw [if_pos (by simp), if_pos ⟨by omega, rfl⟩]
          omega
theorem secV_len {l : List UInt8} (h : l.length ≠ 15) : secV l = -1 := by
  unfold secV Clk.parB Clk.txtB
  rw [if_neg (by simp [h])]
theorem secV_T {l : List UInt8} (h : l[8]? ≠ some 84) : secV l = -1 := by
  unfold secV Clk.parB Clk.txtB
  rw [if_neg (by simp [h])]
end Va
end Go.Proofs.YtmbmkldcedkbmaaGreat
namespace Go.Proofs.YtmbmkldcedkbmaaGreat
open Go.RowKit

theorem emp_t (s : ByteArray) (h : s.size = 0) : s.toList.isEmpty = true := by
  have : s.data.toList = [] := List.eq_nil_of_length_eq_zero (by rw [← Lib.size_eq]; exact h)
  rw [Lib.toList_data, this]; rfl
theorem emp_f (s : ByteArray) (h : s.size ≠ 0) : s.toList.isEmpty = false := by
  rw [Lib.toList_data]
  rcases e : s.data.toList with _ | ⟨b, l⟩
  · rw [Lib.size_eq, e] at h; exact absurd rfl h
  · rfl
theorem isdigit_any (c : UInt8) (w : World) : Calls Tryz.prog 158 #[.int .u8 (c.toNat : Int)] w fun e w' => e = .returned (.bool (Txt.isD c)) ∧ w = w' := by
  have e1 : Txt.isD c = (decide ((48 : Int) ≤ c.toNat) && decide ((c.toNat : Int) ≤ 57)) := by
    unfold Txt.isD
    rw [Bool.eq_iff_iff]; simp; omega
  rw [e1]
  rcases h1 : decide ((48 : Int) ≤ c.toNat)
  · go_enter Tryz.func158, Tryz.ntmps158
    go_wp2
    go_ret
    exact ⟨rfl, rfl⟩
  · rcases h2 : decide ((c.toNat : Int) ≤ 57)
    · go_enter Tryz.func158, Tryz.ntmps158
      go_wp2
      go_ret
      exact ⟨rfl, rfl⟩
    · go_enter Tryz.func158, Tryz.ntmps158
      go_wp2
      go_ret
      exact ⟨rfl, rfl⟩
namespace Va
theorem take_lt (l : List UInt8) (i k : Nat) (hl : l.length ≤ k) (h : (l.take i).all Txt.isD = true) : Txt.val (l.take i) 0 < 10 ^ k := by
  have h2 := Txt.val_lt _ 0 h
  have h3 : 10 ^ (l.take i).length ≤ 10 ^ k := Nat.pow_le_pow_right (by omega) (by rw [List.length_take]; omega)
  omega
theorem isD_int {c : UInt8} (h : Txt.isD c = true) : (48 : Int) ≤ c.toNat ∧ (c.toNat : Int) ≤ 57 := by
  have := Txt.isD_iff.1 h
  omega
theorem dgs_yes {l : List UInt8} (h1 : l ≠ []) (h2 : l.all Txt.isD = true) : dgs l = Txt.val l 0 := if_pos ⟨h1, h2⟩
theorem dgs_no {l : List UInt8} (h2 : l.all Txt.isD = false) : dgs l = -1 := if_neg (by simp [h2])
theorem dgs_nil : dgs [] = -1 := rfl
theorem ne_of_size {s : ByteArray} (h : s.size ≠ 0) : s.data.toList ≠ [] := by
  intro e; apply h; rw [Lib.size_eq, e]; rfl
end Va
def decV (l : List UInt8) (k : Nat) : Int := if Va.num l k then (Txt.val l 0 : Int) else 0

theorem idx_tw {s : ByteArray} {j : Nat} (h : j < s.size) (ha : (s.data.toList.take j).all Txt.isD = true) (hd : Txt.isD s[j] = false) :
    s.data.toList.takeWhile Txt.isD = s.data.toList.take j ∧ s.data.toList.dropWhile Txt.isD = s[j] :: s.data.toList.drop (j + 1) := by
  have h' : j < s.data.toList.length := by rw [← Lib.size_eq]; exact h
  have e : s.data.toList = s.data.toList.take j ++ s[j] :: s.data.toList.drop (j + 1) := by
    conv => lhs; rw [← List.take_append_drop j s.data.toList, List.drop_eq_getElem_cons h']
    rfl
  have := Va.tw_app (r := s.data.toList.drop (j + 1)) ha hd
  rw [← e] at this
  exact this
def cutV (l : List UInt8) : Value := match Va.cut l with
  | some (n, c, r) => .tuple #[.int .i64 (n : Int), .int .u8 (c.toNat : Int), .string ⟨r.toArray⟩]
  | none => .tuple #[.int .i64 0, .int .u8 0, .string ⟨#[]⟩]
end Go.Proofs.YtmbmkldcedkbmaaGreat
namespace Go.Proofs.YtmbmkldcedkbmaaGreat
open Go.RowKit

namespace Va
def pun (c : UInt8) : Bool := c == 47 || c == 95 || c == 45 || c == 43
def zc (c : UInt8) : Bool := (decide ((65 : Int) ≤ c.toNat) && decide ((c.toNat : Int) ≤ 90)) || (decide ((97 : Int) ≤ c.toNat) && decide ((c.toNat : Int) ≤ 122)) || Txt.isD c || pun c
def zn (l : List UInt8) : Bool := !l.isEmpty && decide (l.length ≤ 60) && l.all zc
theorem zn_iff {l : List UInt8} : zn l = true ↔ l ≠ [] ∧ l.length ≤ 60 ∧ l.all zc = true := by
  unfold zn
  rw [Bool.and_eq_true, Bool.and_eq_true, decide_eq_true_eq, and_assoc]
  cases l <;> simp
theorem pun_idx (c : UInt8) : decide (0 ≤ Lib.indexByte [47, 95, 45, 43] c) = pun c := by
  unfold pun
  simp only [Lib.indexByte]
  by_cases h1 : c = 47
  · subst h1; decide
  by_cases h2 : c = 95
  · subst h2; decide
  by_cases h3 : c = 45
  · subst h3; decide
  by_cases h4 : c = 43
  · subst h4; decide
  have e1 : (47 == c) = false := by rw [beq_eq_false_iff_ne]; exact fun e => h1 e.symm
  have e2 : (95 == c) = false := by rw [beq_eq_false_iff_ne]; exact fun e => h2 e.symm
  have e3 : (45 == c) = false := by rw [beq_eq_false_iff_ne]; exact fun e => h3 e.symm
  have e4 : (43 == c) = false := by rw [beq_eq_false_iff_ne]; exact fun e => h4 e.symm
  have f1 : (c == 47) = false := by rw [beq_eq_false_iff_ne]; exact h1
  have f2 : (c == 95) = false := by rw [beq_eq_false_iff_ne]; exact h2
  have f3 : (c == 45) = false := by rw [beq_eq_false_iff_ne]; exact h3
  have f4 : (c == 43) = false := by rw [beq_eq_false_iff_ne]; exact h4
  simp [e1, e2, e3, e4, f1, f2, f3, f4]
end Va
theorem idxz_any (c : UInt8) (w : World) : Calls Tryz.prog 159 #[.string ⟨#[47, 95, 45, 43]⟩, .int .u8 (c.toNat : Int)] w fun e w' => ∃ v : Int, e = .returned (.int .i64 v) ∧ decide (0 ≤ v) = Va.pun c ∧ w = w' := by
  refine (Tryz.strings_IndexByte ⟨#[47, 95, 45, 43]⟩ _ w).mono ?_
  rintro e w' ⟨rfl, rfl⟩
  refine ⟨_, rfl, ?_, rfl⟩
  have e1 : ((c.toNat : Int).toNat.toUInt8) = c := by simp
  rw [e1]
  exact Va.pun_idx c
set_option maxHeartbeats 2000000 in
theorem inzone_any (c : UInt8) (w : World) : Calls Tryz.prog 145 #[.int .u8 (c.toNat : Int)] w fun e w' => e = .returned (.bool (Va.zc c)) ∧ w = w' := by
  have cD := fun w => isdigit_any c w
  have cI := fun w => idxz_any c w
  unfold Va.zc
  rcases h1 : decide ((65 : Int) ≤ c.toNat)
  · skip
    rcases h3 : decide ((97 : Int) ≤ c.toNat)
    · skip
      rcases hd : Txt.isD c
      · rw [hd] at cD
        rcases hp : Va.pun c
        · rw [hp] at cI
          go_enter Tryz.func145, Tryz.ntmps145
          go_wp2_with (first | (go_at_call 158; refine (cD _).mono ?_; rintro e w' ⟨rfl, rfl⟩) | (go_at_call 159; refine (cI _).mono ?_; rintro e w' ⟨v, rfl, hv, rfl⟩))
          go_ret
          exact ⟨rfl, rfl⟩
        · rw [hp] at cI
          go_enter Tryz.func145, Tryz.ntmps145
          go_wp2_with (first | (go_at_call 158; refine (cD _).mono ?_; rintro e w' ⟨rfl, rfl⟩) | (go_at_call 159; refine (cI _).mono ?_; rintro e w' ⟨v, rfl, hv, rfl⟩))
          go_ret
          exact ⟨rfl, rfl⟩
      · rw [hd] at cD
        clear cI
        go_enter Tryz.func145, Tryz.ntmps145
        go_wp2_with (first | (go_at_call 158; refine (cD _).mono ?_; rintro e w' ⟨rfl, rfl⟩))
        go_ret
        exact ⟨rfl, rfl⟩
    · rcases h4 : decide ((c.toNat : Int) ≤ 122)
      · skip
        rcases hd : Txt.isD c
        · rw [hd] at cD
          rcases hp : Va.pun c
          · rw [hp] at cI
            go_enter Tryz.func145, Tryz.ntmps145
            go_wp2_with (first | (go_at_call 158; refine (cD _).mono ?_; rintro e w' ⟨rfl, rfl⟩) | (go_at_call 159; refine (cI _).mono ?_; rintro e w' ⟨v, rfl, hv, rfl⟩))
            go_ret
            exact ⟨rfl, rfl⟩
          · rw [hp] at cI
            go_enter Tryz.func145, Tryz.ntmps145
            go_wp2_with (first | (go_at_call 158; refine (cD _).mono ?_; rintro e w' ⟨rfl, rfl⟩) | (go_at_call 159; refine (cI _).mono ?_; rintro e w' ⟨v, rfl, hv, rfl⟩))
            go_ret
            exact ⟨rfl, rfl⟩
        · rw [hd] at cD
          clear cI
          go_enter Tryz.func145, Tryz.ntmps145
          go_wp2_with (first | (go_at_call 158; refine (cD _).mono ?_; rintro e w' ⟨rfl, rfl⟩))
          go_ret
          exact ⟨rfl, rfl⟩
      · skip
        clear cD cI
        go_enter Tryz.func145, Tryz.ntmps145
        go_wp2
        go_ret
        exact ⟨rfl, rfl⟩
  · rcases h2 : decide ((c.toNat : Int) ≤ 90)
    · skip
      rcases h3 : decide ((97 : Int) ≤ c.toNat)
      · skip
        rcases hd : Txt.isD c
        · rw [hd] at cD
          rcases hp : Va.pun c
          · rw [hp] at cI
            go_enter Tryz.func145, Tryz.ntmps145
            go_wp2_with (first | (go_at_call 158; refine (cD _).mono ?_; rintro e w' ⟨rfl, rfl⟩) | (go_at_call 159; refine (cI _).mono ?_; rintro e w' ⟨v, rfl, hv, rfl⟩))
            go_ret
            exact ⟨rfl, rfl⟩
          · rw [hp] at cI
            go_enter Tryz.func145, Tryz.ntmps145
            go_wp2_with (first | (go_at_call 158; refine (cD _).mono ?_; rintro e w' ⟨rfl, rfl⟩) | (go_at_call 159; refine (cI _).mono ?_; rintro e w' ⟨v, rfl, hv, rfl⟩))
            go_ret
            exact ⟨rfl, rfl⟩
        · rw [hd] at cD
          clear cI
          go_enter Tryz.func145, Tryz.ntmps145
          go_wp2_with (first | (go_at_call 158; refine (cD _).mono ?_; rintro e w' ⟨rfl, rfl⟩))
          go_ret
          exact ⟨rfl, rfl⟩
      · rcases h4 : decide ((c.toNat : Int) ≤ 122)
        · skip
          rcases hd : Txt.isD c
          · rw [hd] at cD
            rcases hp : Va.pun c
            · rw [hp] at cI
              go_enter Tryz.func145, Tryz.ntmps145
              go_wp2_with (first | (go_at_call 158; refine (cD _).mono ?_; rintro e w' ⟨rfl, rfl⟩) | (go_at_call 159; refine (cI _).mono ?_; rintro e w' ⟨v, rfl, hv, rfl⟩))
              go_ret
              exact ⟨rfl, rfl⟩
            · rw [hp] at cI
              go_enter Tryz.func145, Tryz.ntmps145
              go_wp2_with (first | (go_at_call 158; refine (cD _).mono ?_; rintro e w' ⟨rfl, rfl⟩) | (go_at_call 159; refine (cI _).mono ?_; rintro e w' ⟨v, rfl, hv, rfl⟩))
              go_ret
              exact ⟨rfl, rfl⟩
          · rw [hd] at cD
            clear cI
            go_enter Tryz.func145, Tryz.ntmps145
            go_wp2_with (first | (go_at_call 158; refine (cD _).mono ?_; rintro e w' ⟨rfl, rfl⟩))
            go_ret
            exact ⟨rfl, rfl⟩
        · skip
          clear cD cI
          go_enter Tryz.func145, Tryz.ntmps145
          go_wp2
          go_ret
          exact ⟨rfl, rfl⟩
    · skip
      clear cD cI
      go_enter Tryz.func145, Tryz.ntmps145
      go_wp2
      go_ret
      exact ⟨rfl, rfl⟩
set_option maxHeartbeats 1000000 in
theorem zname_some (s : ByteArray) (w : World) (h0 : s.size ≠ 0) (hl : s.size ≤ 60) :
    Calls Tryz.prog 121 #[.string s] w fun e w' => e = .returned (.bool (s.data.toList.all Va.zc)) ∧ w = w' := by
  have h1 := emp_f s h0
  have h2 : decide (60 < s.size) = false := by simp; omega
  have HZ := Lib.hid (Lib.size_eq s)
  go_enter Tryz.func121, Tryz.ntmps121
  go_wp2
  go_loopg [13] s.size (fun g i wx => ∃ j : Nat, j + g = s.size ∧ i = .int .i64 (j : Int) ∧ w = wx ∧ (s.data.toList.take j).all Va.zc = true)
  case atStart => exact ⟨0, by omega, rfl, rfl, rfl⟩
  case round =>
    obtain ⟨j, jg, rfl, rfl, ha⟩ := hrel
    have j1 : j ≤ s.size := by omega
    have HG := Lib.hid jg
    have HJ := Lib.hid ha
    clear jg ha
    by_cases hz : j < s.size
    · have h' : j < s.data.toList.length := by rw [← HZ.out]; exact hz
      have cD := inzone_any s[j] w
      rcases hd : Va.zc s[j]
      · rw [hd] at cD
        have hf : s.data.toList.all Va.zc = false := by
          rw [List.all_eq_false]
          exact ⟨s[j], List.getElem_mem h', by simp [hd]⟩
        have HF := Lib.hid hf
        clear hf
        go_wp2_with (go_at_call 145; refine cD.mono ?_; rintro e w' ⟨rfl, rfl⟩)
        go_ret
        exact ⟨by rw [HF.out] <;> rfl, rfl⟩
      · rw [hd] at cD
        have hx : (s.data.toList.take (j + 1)).all Va.zc = true := by
          rw [List.take_succ_eq_append_getElem h', List.all_append, HJ.out]
          have eb : s.data.toList[j] = s[j] := rfl
          rw [eb]; simp [hd]
        have HX := Lib.hid hx
        clear hx
        go_wp2_with (go_at_call 145; refine cD.mono ?_; rintro e w' ⟨rfl, rfl⟩)
        go_roundg (s.size - (j + 1))
        case measure => have := HG.out; omega
        case rel => exact ⟨j + 1, by omega, by go_num, rfl, HX.out⟩
    · have e : s.data.toList.take j = s.data.toList := List.take_of_length_le (by rw [← HZ.out]; omega)
      have hj := HJ.out
      rw [e] at hj
      have HF := Lib.hid hj
      clear hj e
      go_wp2
      go_ret
      exact ⟨by rw [HF.out] <;> rfl, rfl⟩
set_option maxHeartbeats 1000000 in
theorem zname_any (s : ByteArray) (w : World) :
    Calls Tryz.prog 121 #[.string s] w fun e w' => e = .returned (.bool (Va.zn s.data.toList)) ∧ w = w' := by
  have hz := Lib.size_eq s
  by_cases h0 : s.size = 0
  · have h1 := emp_t s h0
    have hn : Va.zn s.data.toList = false := by
      have : s.data.toList = [] := List.eq_nil_of_length_eq_zero (by rw [← hz]; exact h0)
      rw [this]; rfl
    rw [hn]
    clear hz hn
    go_enter Tryz.func121, Tryz.ntmps121
    go_wp2
    go_ret
    exact ⟨rfl, rfl⟩
  · by_cases hl : s.size ≤ 60
    · have hn : Va.zn s.data.toList = s.data.toList.all Va.zc := by
        rw [Bool.eq_iff_iff, Va.zn_iff]
        exact ⟨fun h => h.2.2, fun h => ⟨Va.ne_of_size h0, by omega, h⟩⟩
      rw [hn]
      exact zname_some s w h0 hl
    · have h1 := emp_f s h0
      have hn : Va.zn s.data.toList = false := by
        rw [Bool.eq_false_iff]; intro h
        have := (Va.zn_iff.1 h).2.1
        omega
      rw [hn]
      clear hz hn
      go_enter Tryz.func121, Tryz.ntmps121
      go_wp2
      go_ret
      exact ⟨rfl, rfl⟩
namespace Va
theorem zc_pun {c : UInt8} (h : pun c = true) : zc c = true := by unfold zc; rw [h]; simp
theorem zc_no {c : UInt8} (h : pun c = false) (h2 : ¬ ((65 : Int) ≤ c.toNat ∧ (c.toNat : Int) ≤ 90)) (h3 : ¬ ((97 : Int) ≤ c.toNat ∧ (c.toNat : Int) ≤ 122)) (h4 : ¬ ((48 : Int) ≤ c.toNat ∧ (c.toNat : Int) ≤ 57)) : zc c = false := by
  unfold zc Txt.isD
  rw [h]
  simp
  omega
theorem zc_yes {c : UInt8} (h : ((65 : Int) ≤ c.toNat ∧ (c.toNat : Int) ≤ 90) ∨ ((97 : Int) ≤ c.toNat ∧ (c.toNat : Int) ≤ 122) ∨ ((48 : Int) ≤ c.toNat ∧ (c.toNat : Int) ≤ 57)) : zc c = true := by
  unfold zc Txt.isD
  simp
  omega
theorem pun_no {c : UInt8} (h : c.toNat ≠ 47 ∧ c.toNat ≠ 95 ∧ c.toNat ≠ 45 ∧ c.toNat ≠ 43) : pun c = false := by
  have e : ∀ k : UInt8, c.toNat ≠ k.toNat → (c == k) = false := fun k hk => by rw [beq_eq_false_iff_ne]; intro e; exact hk (by rw [e])
  unfold pun
  rw [e 47 h.1, e 95 h.2.1, e 45 h.2.2.1, e 43 h.2.2.2]; rfl
theorem pun_yes {c : UInt8} (h : c.toNat = 47 ∨ c.toNat = 95 ∨ c.toNat = 45 ∨ c.toNat = 43) : pun c = true := by
  have e : ∀ k : UInt8, c.toNat = k.toNat → c = k := fun k hk => UInt8.toNat_inj.1 hk
  rcases h with h | h | h | h
  · rw [e 47 h]; rfl
  · rw [e 95 h]; rfl
  · rw [e 45 h]; rfl
  · rw [e 43 h]; rfl
end Va
set_option maxRecDepth 8000 in
set_option maxHeartbeats 4000000 in
theorem rzname_any (s : ByteArray) (w : World) (hm : s.size ≤ 9223372036854775807) :
    Calls Tryz.prog 45 #[.string s] w fun e w' => e = .returned (.bool (Va.zn s.data.toList)) ∧ w = w' := by
  have HZ := Lib.hid (Lib.size_eq s)
  go_enter Tryz.func45, Tryz.ntmps45
  go_wp2
  go_loopg [7] s.size (fun g i wx => ∃ j : Nat, j + g = s.size ∧ i = .int .i64 (j : Int) ∧ w = wx ∧ (s.data.toList.take j).all Va.zc = true)
  case atStart => exact ⟨0, by omega, rfl, rfl, rfl⟩
  case round =>
    obtain ⟨j, jg, rfl, rfl, ha⟩ := hrel
    have j1 : j ≤ s.size := by omega
    have HG := Lib.hid jg
    have HJ := Lib.hid ha
    clear jg ha
    by_cases hz : j < s.size
    · have h' : j < s.data.toList.length := by rw [← HZ.out]; exact hz
      go_upto_region 5 with fail
      generalize hcc : s[j] = c
      go_cut [4, 7, 51] from 7 to 52 (fun v4 v7 v wx => v7 = .int .i64 (j : Int) ∧ v = .bool (!Va.zc c) ∧ w = wx)
      case first =>
        clear HG HJ HZ hcc
        have hb : (c.toNat : Int) < 256 := by have := UInt8.toNat_lt c; omega
        by_cases x4 : (122 : Int) < c.toNat
        · skip
          have d97 : decide ((97 : Int) ≤ c.toNat) = true := decide_eq_true (by omega)
          have d122 : decide ((c.toNat : Int) ≤ 122) = false := decide_eq_false (by omega)
          have d65 : decide ((65 : Int) ≤ c.toNat) = true := decide_eq_true (by omega)
          have d90 : decide ((c.toNat : Int) ≤ 90) = false := decide_eq_false (by omega)
          have d48 : decide ((48 : Int) ≤ c.toNat) = true := decide_eq_true (by omega)
          have d57 : decide ((c.toNat : Int) ≤ 57) = false := decide_eq_false (by omega)
          have q47 : ((c.toNat : Int) == 47) = false := by rw [beq_eq_false_iff_ne]; omega
          have q95 : ((c.toNat : Int) == 95) = false := by rw [beq_eq_false_iff_ne]; omega
          have q45 : ((c.toNat : Int) == 45) = false := by rw [beq_eq_false_iff_ne]; omega
          have q43 : ((c.toNat : Int) == 43) = false := by rw [beq_eq_false_iff_ne]; omega
          have HF := Lib.hid (Va.zc_no (c := c) (Va.pun_no (by omega)) (by omega) (by omega) (by omega))
          go_wp2
          go_meet
          case rel => exact ⟨rfl, by rw [HF.out] <;> rfl, rfl⟩
        · skip
          by_cases x5 : (97 : Int) ≤ c.toNat
          · skip
            have d97 : decide ((97 : Int) ≤ c.toNat) = true := decide_eq_true (by omega)
            have d122 : decide ((c.toNat : Int) ≤ 122) = true := decide_eq_true (by omega)
            have d65 : decide ((65 : Int) ≤ c.toNat) = true := decide_eq_true (by omega)
            have d90 : decide ((c.toNat : Int) ≤ 90) = false := decide_eq_false (by omega)
            have d48 : decide ((48 : Int) ≤ c.toNat) = true := decide_eq_true (by omega)
            have d57 : decide ((c.toNat : Int) ≤ 57) = false := decide_eq_false (by omega)
            have q47 : ((c.toNat : Int) == 47) = false := by rw [beq_eq_false_iff_ne]; omega
            have q95 : ((c.toNat : Int) == 95) = false := by rw [beq_eq_false_iff_ne]; omega
            have q45 : ((c.toNat : Int) == 45) = false := by rw [beq_eq_false_iff_ne]; omega
            have q43 : ((c.toNat : Int) == 43) = false := by rw [beq_eq_false_iff_ne]; omega
            have HF := Lib.hid (Va.zc_yes (c := c) (by omega))
            go_wp2
            go_meet
            case rel => exact ⟨rfl, by rw [HF.out] <;> rfl, rfl⟩
          · skip
            by_cases x6 : (90 : Int) < c.toNat
            · skip
              by_cases x7 : (c.toNat : Int) = 95
              · skip
                have d97 : decide ((97 : Int) ≤ c.toNat) = false := decide_eq_false (by omega)
                have d122 : decide ((c.toNat : Int) ≤ 122) = true := decide_eq_true (by omega)
                have d65 : decide ((65 : Int) ≤ c.toNat) = true := decide_eq_true (by omega)
                have d90 : decide ((c.toNat : Int) ≤ 90) = false := decide_eq_false (by omega)
                have d48 : decide ((48 : Int) ≤ c.toNat) = true := decide_eq_true (by omega)
                have d57 : decide ((c.toNat : Int) ≤ 57) = false := decide_eq_false (by omega)
                have q47 : ((c.toNat : Int) == 47) = false := by rw [beq_eq_false_iff_ne]; omega
                have q95 : ((c.toNat : Int) == 95) = true := by rw [beq_iff_eq]; omega
                have HF := Lib.hid (Va.zc_pun (Va.pun_yes (c := c) (by omega)))
                go_wp2
                go_meet
                case rel => exact ⟨rfl, by rw [HF.out] <;> rfl, rfl⟩
              · skip
                have d97 : decide ((97 : Int) ≤ c.toNat) = false := decide_eq_false (by omega)
                have d122 : decide ((c.toNat : Int) ≤ 122) = true := decide_eq_true (by omega)
                have d65 : decide ((65 : Int) ≤ c.toNat) = true := decide_eq_true (by omega)
                have d90 : decide ((c.toNat : Int) ≤ 90) = false := decide_eq_false (by omega)
                have d48 : decide ((48 : Int) ≤ c.toNat) = true := decide_eq_true (by omega)
                have d57 : decide ((c.toNat : Int) ≤ 57) = false := decide_eq_false (by omega)
                have q47 : ((c.toNat : Int) == 47) = false := by rw [beq_eq_false_iff_ne]; omega
                have q95 : ((c.toNat : Int) == 95) = false := by rw [beq_eq_false_iff_ne]; omega
                have q45 : ((c.toNat : Int) == 45) = false := by rw [beq_eq_false_iff_ne]; omega
                have q43 : ((c.toNat : Int) == 43) = false := by rw [beq_eq_false_iff_ne]; omega
                have HF := Lib.hid (Va.zc_no (c := c) (Va.pun_no (by omega)) (by omega) (by omega) (by omega))
                go_wp2
                go_meet
                case rel => exact ⟨rfl, by rw [HF.out] <;> rfl, rfl⟩
            · skip
              by_cases x7 : (65 : Int) ≤ c.toNat
              · skip
                have d97 : decide ((97 : Int) ≤ c.toNat) = false := decide_eq_false (by omega)
                have d122 : decide ((c.toNat : Int) ≤ 122) = true := decide_eq_true (by omega)
                have d65 : decide ((65 : Int) ≤ c.toNat) = true := decide_eq_true (by omega)
                have d90 : decide ((c.toNat : Int) ≤ 90) = true := decide_eq_true (by omega)
                have d48 : decide ((48 : Int) ≤ c.toNat) = true := decide_eq_true (by omega)
                have d57 : decide ((c.toNat : Int) ≤ 57) = false := decide_eq_false (by omega)
                have q47 : ((c.toNat : Int) == 47) = false := by rw [beq_eq_false_iff_ne]; omega
                have q95 : ((c.toNat : Int) == 95) = false := by rw [beq_eq_false_iff_ne]; omega
                have q45 : ((c.toNat : Int) == 45) = false := by rw [beq_eq_false_iff_ne]; omega
                have q43 : ((c.toNat : Int) == 43) = false := by rw [beq_eq_false_iff_ne]; omega
                have HF := Lib.hid (Va.zc_yes (c := c) (by omega))
                go_wp2
                go_meet
                case rel => exact ⟨rfl, by rw [HF.out] <;> rfl, rfl⟩
              · skip
                by_cases x8 : (57 : Int) < c.toNat
                · skip
                  have d97 : decide ((97 : Int) ≤ c.toNat) = false := decide_eq_false (by omega)
                  have d122 : decide ((c.toNat : Int) ≤ 122) = true := decide_eq_true (by omega)
                  have d65 : decide ((65 : Int) ≤ c.toNat) = false := decide_eq_false (by omega)
                  have d90 : decide ((c.toNat : Int) ≤ 90) = true := decide_eq_true (by omega)
                  have d48 : decide ((48 : Int) ≤ c.toNat) = true := decide_eq_true (by omega)
                  have d57 : decide ((c.toNat : Int) ≤ 57) = false := decide_eq_false (by omega)
                  have q47 : ((c.toNat : Int) == 47) = false := by rw [beq_eq_false_iff_ne]; omega
                  have q95 : ((c.toNat : Int) == 95) = false := by rw [beq_eq_false_iff_ne]; omega
                  have q45 : ((c.toNat : Int) == 45) = false := by rw [beq_eq_false_iff_ne]; omega
                  have q43 : ((c.toNat : Int) == 43) = false := by rw [beq_eq_false_iff_ne]; omega
                  have HF := Lib.hid (Va.zc_no (c := c) (Va.pun_no (by omega)) (by omega) (by omega) (by omega))
                  go_wp2
                  go_meet
                  case rel => exact ⟨rfl, by rw [HF.out] <;> rfl, rfl⟩
                · skip
                  by_cases x9 : (48 : Int) ≤ c.toNat
                  · skip
                    have d97 : decide ((97 : Int) ≤ c.toNat) = false := decide_eq_false (by omega)
                    have d122 : decide ((c.toNat : Int) ≤ 122) = true := decide_eq_true (by omega)
                    have d65 : decide ((65 : Int) ≤ c.toNat) = false := decide_eq_false (by omega)
                    have d90 : decide ((c.toNat : Int) ≤ 90) = true := decide_eq_true (by omega)
                    have d48 : decide ((48 : Int) ≤ c.toNat) = true := decide_eq_true (by omega)
                    have d57 : decide ((c.toNat : Int) ≤ 57) = true := decide_eq_true (by omega)
                    have q47 : ((c.toNat : Int) == 47) = false := by rw [beq_eq_false_iff_ne]; omega
                    have q95 : ((c.toNat : Int) == 95) = false := by rw [beq_eq_false_iff_ne]; omega
                    have q45 : ((c.toNat : Int) == 45) = false := by rw [beq_eq_false_iff_ne]; omega
                    have q43 : ((c.toNat : Int) == 43) = false := by rw [beq_eq_false_iff_ne]; omega
                    have HF := Lib.hid (Va.zc_yes (c := c) (by omega))
                    go_wp2
                    go_meet
                    case rel => exact ⟨rfl, by rw [HF.out] <;> rfl, rfl⟩
                  · skip
                    by_cases x10 : (c.toNat : Int) = 47
                    · skip
                      have d97 : decide ((97 : Int) ≤ c.toNat) = false := decide_eq_false (by omega)
                      have d122 : decide ((c.toNat : Int) ≤ 122) = true := decide_eq_true (by omega)
                      have d65 : decide ((65 : Int) ≤ c.toNat) = false := decide_eq_false (by omega)
                      have d90 : decide ((c.toNat : Int) ≤ 90) = true := decide_eq_true (by omega)
                      have d48 : decide ((48 : Int) ≤ c.toNat) = false := decide_eq_false (by omega)
                      have d57 : decide ((c.toNat : Int) ≤ 57) = true := decide_eq_true (by omega)
                      have q47 : ((c.toNat : Int) == 47) = true := by rw [beq_iff_eq]; omega
                      have HF := Lib.hid (Va.zc_pun (Va.pun_yes (c := c) (by omega)))
                      go_wp2
                      go_meet
                      case rel => exact ⟨rfl, by rw [HF.out] <;> rfl, rfl⟩
                    · skip
                      by_cases x11 : (c.toNat : Int) = 45
                      · skip
                        have d97 : decide ((97 : Int) ≤ c.toNat) = false := decide_eq_false (by omega)
                        have d122 : decide ((c.toNat : Int) ≤ 122) = true := decide_eq_true (by omega)
                        have d65 : decide ((65 : Int) ≤ c.toNat) = false := decide_eq_false (by omega)
                        have d90 : decide ((c.toNat : Int) ≤ 90) = true := decide_eq_true (by omega)
                        have d48 : decide ((48 : Int) ≤ c.toNat) = false := decide_eq_false (by omega)
                        have d57 : decide ((c.toNat : Int) ≤ 57) = true := decide_eq_true (by omega)
                        have q47 : ((c.toNat : Int) == 47) = false := by rw [beq_eq_false_iff_ne]; omega
                        have q95 : ((c.toNat : Int) == 95) = false := by rw [beq_eq_false_iff_ne]; omega
                        have q45 : ((c.toNat : Int) == 45) = true := by rw [beq_iff_eq]; omega
                        have HF := Lib.hid (Va.zc_pun (Va.pun_yes (c := c) (by omega)))
                        go_wp2
                        go_meet
                        case rel => exact ⟨rfl, by rw [HF.out] <;> rfl, rfl⟩
                      · skip
                        by_cases x12 : (c.toNat : Int) = 43
                        · skip
                          have d97 : decide ((97 : Int) ≤ c.toNat) = false := decide_eq_false (by omega)
                          have d122 : decide ((c.toNat : Int) ≤ 122) = true := decide_eq_true (by omega)
                          have d65 : decide ((65 : Int) ≤ c.toNat) = false := decide_eq_false (by omega)
                          have d90 : decide ((c.toNat : Int) ≤ 90) = true := decide_eq_true (by omega)
                          have d48 : decide ((48 : Int) ≤ c.toNat) = false := decide_eq_false (by omega)
                          have d57 : decide ((c.toNat : Int) ≤ 57) = true := decide_eq_true (by omega)
                          have q47 : ((c.toNat : Int) == 47) = false := by rw [beq_eq_false_iff_ne]; omega
                          have q95 : ((c.toNat : Int) == 95) = false := by rw [beq_eq_false_iff_ne]; omega
                          have q45 : ((c.toNat : Int) == 45) = false := by rw [beq_eq_false_iff_ne]; omega
                          have q43 : ((c.toNat : Int) == 43) = true := by rw [beq_iff_eq]; omega
                          have HF := Lib.hid (Va.zc_pun (Va.pun_yes (c := c) (by omega)))
                          go_wp2
                          go_meet
                          case rel => exact ⟨rfl, by rw [HF.out] <;> rfl, rfl⟩
                        · skip
                          have d97 : decide ((97 : Int) ≤ c.toNat) = false := decide_eq_false (by omega)
                          have d122 : decide ((c.toNat : Int) ≤ 122) = true := decide_eq_true (by omega)
                          have d65 : decide ((65 : Int) ≤ c.toNat) = false := decide_eq_false (by omega)
                          have d90 : decide ((c.toNat : Int) ≤ 90) = true := decide_eq_true (by omega)
                          have d48 : decide ((48 : Int) ≤ c.toNat) = false := decide_eq_false (by omega)
                          have d57 : decide ((c.toNat : Int) ≤ 57) = true := decide_eq_true (by omega)
                          have q47 : ((c.toNat : Int) == 47) = false := by rw [beq_eq_false_iff_ne]; omega
                          have q95 : ((c.toNat : Int) == 95) = false := by rw [beq_eq_false_iff_ne]; omega
                          have q45 : ((c.toNat : Int) == 45) = false := by rw [beq_eq_false_iff_ne]; omega
                          have q43 : ((c.toNat : Int) == 43) = false := by rw [beq_eq_false_iff_ne]; omega
                          have HF := Lib.hid (Va.zc_no (c := c) (Va.pun_no (by omega)) (by omega) (by omega) (by omega))
                          go_wp2
                          go_meet
                          case rel => exact ⟨rfl, by rw [HF.out] <;> rfl, rfl⟩
      case rest =>
        obtain ⟨rfl, rfl, rfl⟩ := hcut
        rcases hd : Va.zc c
        · have hf : Va.zn s.data.toList = false := by
            rw [Bool.eq_false_iff]; intro h
            have := List.all_eq_true.1 (Va.zn_iff.1 h).2.2 s[j] (List.getElem_mem h')
            rw [hcc, hd] at this; cases this
          have HF := Lib.hid hf
          clear hf hcc
          go_wp2
          go_ret
          exact ⟨by rw [HF.out] <;> rfl, rfl⟩
        · have hx : (s.data.toList.take (j + 1)).all Va.zc = true := by
            rw [List.take_succ_eq_append_getElem h', List.all_append, HJ.out]
            have eb : s.data.toList[j] = s[j] := rfl
            rw [eb, hcc]; simp [hd]
          have HX := Lib.hid hx
          clear hx hcc
          go_wp2
          go_roundg (s.size - (j + 1))
          case measure => have := HG.out; omega
          case rel => exact ⟨j + 1, by omega, by go_num, rfl, HX.out⟩
    · have e : s.data.toList.take j = s.data.toList := List.take_of_length_le (by rw [← HZ.out]; omega)
      have hj := HJ.out
      rw [e] at hj
      have hE : Va.zn s.data.toList = (decide (0 < s.size) && decide ((s.size : Int) ≤ 60)) := by
        rw [Bool.eq_iff_iff, Va.zn_iff, Bool.and_eq_true, decide_eq_true_eq, decide_eq_true_eq, ← HZ.out]
        exact ⟨fun h => ⟨by rcases Nat.eq_zero_or_pos s.size with h0 | h0; exact absurd (List.eq_nil_of_length_eq_zero (by rw [← HZ.out]; exact h0)) h.1; exact h0, by omega⟩, fun h => ⟨Va.ne_of_size (by omega), by omega, hj⟩⟩
      have HE := Lib.hid hE
      clear hj e hE
      rcases h1 : decide (0 < s.size)
      · go_wp2
        go_ret
        exact ⟨by rw [HE.out, h1] <;> rfl, rfl⟩
      · rcases h2 : decide ((s.size : Int) ≤ 60)
        · go_wp2
          go_ret
          exact ⟨by rw [HE.out, h1, h2] <;> rfl, rfl⟩
        · go_wp2
          go_ret
          exact ⟨by rw [HE.out, h1, h2] <;> rfl, rfl⟩
end Go.Proofs.YtmbmkldcedkbmaaGreat
namespace Go.Proofs.YtmbmkldcedkbmaaGreat
theorem Clk.read_day' {l : List UInt8} (h : Clk.dayB l = true) : Cal.dayB (Cal.num (Clk.vY l) (Clk.vM l) (Clk.vD l)) = true := by
  simp only [Clk.dayB, Bool.and_eq_true, decide_eq_true_eq] at h
  exact Cal.dayB_iff.2 (Cal.num_bd h.2)
namespace Va
open Txt

def rd (s z : List UInt8) (date : Bool) : Option (Int × Int × List UInt8) :=
  if z ≠ [] ∧ (date = true ∨ zn z = false) then none
  else if date = true then (if Clk.dayB s = true then some (0, 86400 * Cal.num (Clk.vY s) (Clk.vM s) (Clk.vD s), []) else none)
  else if z ≠ [] then (if Clk.parB s = true then some (3, Clk.parV s, z) else none)
  else if s.getLast? = some 90 then (if Clk.parB s.dropLast = true then some (2, Clk.parV s.dropLast, []) else none)
  else (if Clk.parB s = true then some (1, Clk.parV s, []) else none)
def rdV : Option (Int × Int × List UInt8) → Value
  | some (k, a, z) => .tuple #[.agg #[.int .i64 k, .int .i64 a, .string ⟨z.toArray⟩], .int .i64 0]
  | none => .tuple #[.agg #[.int .i64 0, .int .i64 0, .string ⟨#[]⟩], .int .i64 7]
theorem rd_zone {s z : List UInt8} {date : Bool} (hz : z ≠ []) (h : date = true ∨ zn z = false) : rd s z date = none := if_pos ⟨hz, h⟩
theorem rd_date {s : List UInt8} : rd s [] true = if Clk.dayB s = true then some (0, 86400 * Cal.num (Clk.vY s) (Clk.vM s) (Clk.vD s), []) else none := by
  unfold rd
  rw [if_neg (fun h => h.1 rfl), if_pos rfl]
theorem rd_in {s z : List UInt8} (hz : z ≠ []) (h : zn z = true) : rd s z false = if Clk.parB s = true then some (3, Clk.parV s, z) else none := by
  unfold rd
  rw [if_neg (by rintro ⟨_, h1 | h1⟩; cases h1; rw [h] at h1; cases h1), if_neg (by decide), if_pos hz]
theorem rd_Z {s : List UInt8} (h : s.getLast? = some 90) : rd s [] false = if Clk.parB s.dropLast = true then some (2, Clk.parV s.dropLast, []) else none := by
  unfold rd
  rw [if_neg (fun h => h.1 rfl), if_neg (by decide), if_neg (fun h => h rfl), if_pos h]
theorem rd_L {s : List UInt8} (h : ¬ s.getLast? = some 90) : rd s [] false = if Clk.parB s = true then some (1, Clk.parV s, []) else none := by
  unfold rd
  rw [if_neg (fun h => h.1 rfl), if_neg (by decide), if_neg (fun h => h rfl), if_neg h]
theorem parV_lo {l : List UInt8} (h : Clk.parB l = true) : 0 ≤ Clk.parV l ∧ Clk.parV l ≤ 315537983999 := by
  simp only [Clk.parB, Bool.and_eq_true] at h
  obtain ⟨⟨_, ho⟩, ht⟩ := h
  have hn := Cal.dayB_iff.1 (Cal.dayB_iff.2 (Cal.num_bd ho))
  have := Clk.timB_iff.1 ht
  unfold Clk.parV
  omega
/- one byte behind -/
theorem hs1 (l : List UInt8) (c : UInt8) : Lib.hasSuffix l [c] = (l.getLast? == some c) := by
  unfold Lib.hasSuffix
  rcases List.eq_nil_or_concat l with h | ⟨a, b, h⟩
  · subst h; rfl
  · subst h
    rw [Bool.eq_iff_iff]
    simp only [List.isSuffixOf_iff_suffix, List.concat_eq_append, List.getLast?_append, List.getLast?_singleton, beq_iff_eq]
    constructor
    · intro h
      obtain ⟨t, ht⟩ := h
      have := congrArg List.getLast? ht
      simp at this
      simp [this]
    · intro h
      have : b = c := by simpa using h
      subst this
      exact ⟨a, rfl⟩
theorem ts1 (l : List UInt8) (c : UInt8) : Lib.trimSuffix l [c] = if l.getLast? = some c then l.dropLast else l := by
  unfold Lib.trimSuffix
  rw [hs1]
  by_cases h : l.getLast? = some c
  · rw [if_pos h, if_pos (by rw [h]; simp), List.dropLast_eq_take]; rfl
  · rw [if_neg h, if_neg (by simpa using h)]
/- a day as seconds -/
theorem sec_day {l : List UInt8} (h : l.length = 8) : secV (l ++ [84, 48, 48, 48, 48, 48, 48]) = if Clk.dayB l = true then 86400 * Cal.num (Clk.vY l) (Clk.vM l) (Clk.vD l) else -1 := by
  have t8 : (l ++ [84, 48, 48, 48, 48, 48, 48]).take 8 = l := List.take_left' h
  have t9 : (l ++ [84, 48, 48, 48, 48, 48, 48]).drop 9 = [48, 48, 48, 48, 48, 48] := by
    rw [List.drop_append, h, List.drop_eq_nil_of_le (by omega)]; rfl
  have a8 : (l ++ [84, 48, 48, 48, 48, 48, 48])[8]? = some 84 := by rw [List.getElem?_append_right (by omega), h]; rfl
  have l15 : (l ++ [84, 48, 48, 48, 48, 48, 48]).length = 15 := by rw [List.length_append, h]; rfl
  have z1 : Clk.vY [48, 48, 48, 48, 48, 48] = 0 := by decide
  have z2 : Clk.vM [48, 48, 48, 48, 48, 48] = 0 := by decide
  have z3 : Clk.vD [48, 48, 48, 48, 48, 48] = 0 := by decide
  have z4 : ([48, 48, 48, 48, 48, 48] : List UInt8).all isD = true := by decide
  have z5 : Clk.timB 0 0 0 = true := by decide
  unfold secV Clk.parB Clk.txtB Clk.parV Clk.dayB
  rw [t8, t9, l15, a8, z1, z2, z3, z4, z5, h]
  rcases l.all isD
  · simp
  · rcases Cal.okB (Clk.vY l) (Clk.vM l) (Clk.vD l)
    · simp
    · simp; omega
theorem day_len {l : List UInt8} (h : l.length ≠ 8) : Clk.dayB l = false := by
  unfold Clk.dayB; simp [h]
end Va
end Go.Proofs.YtmbmkldcedkbmaaGreat
namespace Go.Proofs.YtmbmkldcedkbmaaGreat
open Go.RowKit

def Tab (w : World) : Prop := Lib.TabIs Tryz.prog w "internal/strconv.uint64pow10" .u64 Lib.pow10Tab
theorem Tab.keep {w w' : World} (h : Tab w) (hg : Gr w w') : Tab w' := by
  unfold Tab Lib.TabIs World.var? at h ⊢
  rcases hn : Tryz.prog.globalNamed "internal/strconv.uint64pow10" with _ | g
  · rw [hn] at h; exact h
  · rw [hn] at h
    simp only [Option.bind_some] at h ⊢
    rcases Nat.lt_or_ge g w.heap.size with hlt | hge
    · rw [hg.below.block g hlt]; exact h
    · rw [Array.getElem?_eq_none hge] at h; cases h
theorem Gr.grow (w : World) (k : Nat) (os : Array Obj) : Gr w (Sort.grow (w.drewN k) os) :=
  ⟨rfl, rfl, rfl, by simp [Sort.grow, World.drewN], fun j hj => by simp [Sort.grow, World.drewN, Array.getElem?_append, hj]⟩
theorem cat (a b : List UInt8) : (⟨a.toArray⟩ : ByteArray) ++ ⟨b.toArray⟩ = ⟨(a ++ b).toArray⟩ := by
  ext1
  simp [ByteArray.data_append]
theorem mkstr {a b : ByteArray} (h : a = b) : Ending.returned (.string a) = .returned (.string b) := by rw [h]
namespace Clk
def num8 (y m d : Int) : Nat := (10000 * y + 100 * m + d).toNat
end Clk
end Go.Proofs.YtmbmkldcedkbmaaGreat
namespace Go.Proofs.YtmbmkldcedkbmaaGreat
open Go.RowKit

namespace Clk
def dateTxt (n : Int) : List UInt8 := Txt.dig (num8 (Cal.yr n) (Cal.mon n) (Cal.dom n)) 8
def timeTxt (a : Int) : List UInt8 := Txt.dig (num8 (a % 86400 / 3600) (a % 3600 / 60) (a % 60)) 6
def secTxt (a : Int) : List UInt8 := dateTxt (a / 86400) ++ [84] ++ timeTxt a
theorem dateTxt_length (n : Int) : (dateTxt n).length = 8 := Txt.dig_length _ _
theorem timeTxt_length (n : Int) : (timeTxt n).length = 6 := Txt.dig_length _ _
theorem date_bd {n : Int} (h : Cal.dayB n = true) : 1 ≤ Cal.yr n ∧ Cal.yr n ≤ 9999 ∧ 1 ≤ Cal.mon n ∧ Cal.mon n ≤ 12 ∧ 1 ≤ Cal.dom n ∧ Cal.dom n ≤ 31 := by
  obtain ⟨n1, n2⟩ := Cal.dayB_iff.1 h
  have yb := Cal.yr_bd n1 n2
  have ok := (Cal.date_spec h).1
  obtain ⟨m1, m2⟩ := Cal.okB_month ok
  obtain ⟨y1, y2, d1, d2⟩ := Cal.okB_iff.1 ok
  have hd := (Cal.dim_bd (Cal.yr n) (Cal.mon n)).2
  exact ⟨yb.1, yb.2, m1, m2, d1, by omega⟩
theorem num8_lt {y m d : Int} {k : Nat} (y1 : y ≤ k) (m1 : m < 100) (d1 : d < 100) : num8 y m d < 10000 * (k + 1) := by unfold num8; omega
end Clk

theorem time_bd (a : Int) : 0 ≤ a % 86400 / 3600 ∧ a % 86400 / 3600 ≤ 23 ∧ 0 ≤ a % 3600 / 60 ∧ a % 3600 / 60 < 60 ∧ 0 ≤ a % 60 ∧ a % 60 < 60 := by omega
end Go.Proofs.YtmbmkldcedkbmaaGreat
namespace Go.Proofs.YtmbmkldcedkbmaaGreat
namespace Clk

theorem num8_cast {y m d : Int} (y0 : 0 ≤ y) (m0 : 0 ≤ m) (d0 : 0 ≤ d) : (num8 y m d : Int) = 10000 * y + 100 * m + d := by unfold num8; omega
/- the parts of a number of eight or six digits -/
theorem v_dig {y m d : Int} {k : Nat} (y0 : 0 ≤ y) (m0 : 0 ≤ m) (m1 : m < 100) (d0 : 0 ≤ d) (d1 : d < 100) (hk : num8 y m d < 10 ^ k) :
    vY (Txt.dig (num8 y m d) k) = y ∧ vM (Txt.dig (num8 y m d) k) = m ∧ vD (Txt.dig (num8 y m d) k) = d := by
  have e := num8_cast y0 m0 d0
  unfold vY vM vD
  rw [Txt.val_dig k _ hk, e]
  omega
theorem dig_v {l : List UInt8} (h : l.all Txt.isD = true) : Txt.dig (num8 (vY l) (vM l) (vD l)) l.length = l := by
  have e : num8 (vY l) (vM l) (vD l) = Txt.val l 0 := by unfold num8 vY vM vD; omega
  rw [e, Txt.dig_val0 l h]
theorem v_nonneg (l : List UInt8) : 0 ≤ vY l ∧ 0 ≤ vM l ∧ vM l < 100 ∧ 0 ≤ vD l ∧ vD l < 100 := by unfold vY vM vD; omega

theorem date_lt {n : Int} (h : Cal.dayB n = true) : num8 (Cal.yr n) (Cal.mon n) (Cal.dom n) < 10 ^ 8 := by
  obtain ⟨y0, y1, m0, m1, d0, d1⟩ := date_bd h
  exact num8_lt (k := 9999) y1 (by omega) (by omega)
theorem time_lt (a : Int) : num8 (a % 86400 / 3600) (a % 3600 / 60) (a % 60) < 10 ^ 6 := by
  obtain ⟨h0, h1, i0, i1, s0, s1⟩ := time_bd a
  exact Nat.lt_of_lt_of_le (num8_lt (k := 23) h1 (by omega) (by omega)) (by decide)
theorem date_v {n : Int} (h : Cal.dayB n = true) : vY (dateTxt n) = Cal.yr n ∧ vM (dateTxt n) = Cal.mon n ∧ vD (dateTxt n) = Cal.dom n := by
  obtain ⟨y0, y1, m0, m1, d0, d1⟩ := date_bd h
  exact v_dig (by omega) (by omega) (by omega) (by omega) (by omega) (date_lt h)
theorem time_v (a : Int) : vY (timeTxt a) = a % 86400 / 3600 ∧ vM (timeTxt a) = a % 3600 / 60 ∧ vD (timeTxt a) = a % 60 := by
  obtain ⟨h0, h1, i0, i1, s0, s1⟩ := time_bd a
  exact v_dig (by omega) (by omega) (by omega) (by omega) (by omega) (time_lt a)

theorem sec_take (a : Int) : (secTxt a).take 8 = dateTxt (a / 86400) := by
  rw [secTxt, List.append_assoc, List.take_left' (dateTxt_length _)]
theorem sec_drop (a : Int) : (secTxt a).drop 9 = timeTxt a := by
  rw [secTxt, List.drop_left' (by rw [List.length_append, dateTxt_length]; rfl)]
theorem sec_length (a : Int) : (secTxt a).length = 15 := by
  rw [secTxt, List.length_append, List.length_append, dateTxt_length, timeTxt_length]; rfl
theorem sec_at (a : Int) : (secTxt a)[8]? = some 84 := by
  rw [secTxt, List.append_assoc, List.getElem?_append_right (by rw [dateTxt_length]; exact Nat.le_refl _), dateTxt_length]; rfl

theorem back_day {n : Int} (h : Cal.dayB n = true) : dayB (dateTxt n) = true ∧ Cal.num (vY (dateTxt n)) (vM (dateTxt n)) (vD (dateTxt n)) = n := by
  obtain ⟨e1, e2, e3⟩ := date_v h
  obtain ⟨ho, hn⟩ := Cal.date_spec h
  rw [e1, e2, e3]
  refine ⟨?_, hn⟩
  unfold dayB
  rw [e1, e2, e3, ho, dateTxt_length, dateTxt, Txt.dig_isD]; rfl
theorem back_sec {a : Int} (h : okB a = true) : parB (secTxt a) = true ∧ parV (secTxt a) = a := by
  have hd := okB_day h
  obtain ⟨e1, e2, e3⟩ := date_v hd
  obtain ⟨f1, f2, f3⟩ := time_v a
  obtain ⟨ho, hn⟩ := Cal.date_spec hd
  obtain ⟨h0, h1, i0, i1, s0, s1⟩ := time_bd a
  have ht : timB (a % 86400 / 3600) (a % 3600 / 60) (a % 60) = true := timB_iff.2 (by omega)
  unfold parB txtB parV
  rw [sec_take, sec_drop, sec_length, sec_at, e1, e2, e3, f1, f2, f3, ho, hn, ht, dateTxt, timeTxt, Txt.dig_isD, Txt.dig_isD]
  refine ⟨rfl, by omega⟩
theorem read_day {l : List UInt8} (h : dayB l = true) : Cal.dayB (Cal.num (vY l) (vM l) (vD l)) = true ∧ dateTxt (Cal.num (vY l) (vM l) (vD l)) = l := by
  simp only [dayB, Bool.and_eq_true, decide_eq_true_eq] at h
  obtain ⟨⟨ha, hl⟩, ho⟩ := h
  obtain ⟨e1, e2, e3⟩ := Cal.date_unique ho rfl
  refine ⟨Cal.dayB_iff.2 (Cal.num_bd ho), ?_⟩
  rw [dateTxt, e1, e2, e3, ← hl]
  exact dig_v ha
theorem read_sec {l : List UInt8} (h : parB l = true) : okB (parV l) = true ∧ secTxt (parV l) = l := by
  simp only [parB, txtB, Bool.and_eq_true, decide_eq_true_eq] at h
  obtain ⟨⟨⟨⟨⟨ha, hb⟩, hl⟩, h8⟩, ho⟩, ht⟩ := h
  have h8' : dayB (l.take 8) = true := by
    unfold dayB
    rw [ha, ho, List.length_take, hl]; rfl
  obtain ⟨hd, hx⟩ := read_day h8'
  obtain ⟨n1, n2⟩ := Cal.dayB_iff.1 hd
  obtain ⟨t1, t2, t3, t4, t5, t6⟩ := timB_iff.1 ht
  have l6 : (l.drop 9).length = 6 := by rw [List.length_drop, hl]
  have ev : parV l = Cal.num (vY (l.take 8)) (vM (l.take 8)) (vD (l.take 8)) * 86400 + (vY (l.drop 9) * 3600 + vM (l.drop 9) * 60 + vD (l.drop 9)) := rfl
  generalize Cal.num (vY (l.take 8)) (vM (l.take 8)) (vD (l.take 8)) = n at *
  have a1 : parV l / 86400 = n := by omega
  have a2 : parV l % 86400 / 3600 = vY (l.drop 9) := by omega
  have a3 : parV l % 3600 / 60 = vM (l.drop 9) := by omega
  have a4 : parV l % 60 = vD (l.drop 9) := by omega
  refine ⟨okB_iff.2 (by omega), ?_⟩
  rw [secTxt, a1, hx, timeTxt, a2, a3, a4]
  have e6 := dig_v hb
  rw [l6] at e6
  rw [e6]
  have h9 : l.drop 8 = 84 :: l.drop 9 := by
    have hlt : 8 < l.length := by omega
    rw [List.getElem?_eq_getElem hlt] at h8
    rw [List.drop_eq_getElem_cons hlt, Option.some.inj h8]
  rw [List.append_assoc]
  show l.take 8 ++ 84 :: l.drop 9 = l
  rw [← h9, List.take_append_drop]
end Clk
end Go.Proofs.YtmbmkldcedkbmaaGreat
namespace Go.Proofs.YtmbmkldcedkbmaaGreat
namespace Va
open Txt

def rt (k a : Int) (z : List UInt8) : Bool := Clk.okB a && (if k = 0 then z.isEmpty && decide (a % 86400 = 0) else if k = 1 ∨ k = 2 then z.isEmpty else if k = 3 then zn z else false)
def txt (k a : Int) : List UInt8 := if k = 0 then Clk.dateTxt (a / 86400) else if k = 2 then Clk.secTxt a ++ [90] else Clk.secTxt a
theorem rt_ok {k a : Int} {z : List UInt8} (h : rt k a z = true) : Clk.okB a = true := by
  unfold rt at h
  rw [Bool.and_eq_true] at h
  exact h.1
theorem rt_no {k a : Int} {z : List UInt8} (h : Clk.okB a = false) : rt k a z = false := by unfold rt; rw [h]; rfl
theorem rt0 {a : Int} {z : List UInt8} (h : Clk.okB a = true) : rt 0 a z = (z.isEmpty && decide (a % 86400 = 0)) := by unfold rt; rw [h, if_pos rfl]; rfl
theorem rt1 {a : Int} {z : List UInt8} (h : Clk.okB a = true) : rt 1 a z = z.isEmpty := by unfold rt; rw [h, if_neg (by decide), if_pos (.inl rfl)]; rfl
theorem rt2 {a : Int} {z : List UInt8} (h : Clk.okB a = true) : rt 2 a z = z.isEmpty := by unfold rt; rw [h, if_neg (by decide), if_pos (.inr rfl)]; rfl
theorem rt3 {a : Int} {z : List UInt8} (h : Clk.okB a = true) : rt 3 a z = zn z := by unfold rt; rw [h, if_neg (by decide), if_neg (by decide), if_pos rfl]; rfl
theorem rt_else {k a : Int} {z : List UInt8} (h0 : k ≠ 0) (h1 : k ≠ 1) (h2 : k ≠ 2) (h3 : k ≠ 3) : rt k a z = false := by
  unfold rt
  rw [if_neg h0, if_neg (fun h => h.elim h1 h2), if_neg h3, Bool.and_false]
theorem rt_kind {k a : Int} {z : List UInt8} (h : rt k a z = true) : k = 0 ∨ k = 1 ∨ k = 2 ∨ k = 3 := by
  by_cases h0 : k = 0
  · exact .inl h0
  by_cases h1 : k = 1
  · exact .inr (.inl h1)
  by_cases h2 : k = 2
  · exact .inr (.inr (.inl h2))
  by_cases h3 : k = 3
  · exact .inr (.inr (.inr h3))
  rw [rt_else h0 h1 h2 h3] at h; cases h
theorem sec_last (a : Int) : ¬ (Clk.secTxt a).getLast? = some 90 := by
  intro h
  have hm : (90 : UInt8) ∈ Clk.timeTxt a := by
    unfold Clk.secTxt at h
    rw [List.getLast?_append] at h
    rcases hl : (Clk.timeTxt a).getLast? with _ | b
    · have := List.getLast?_eq_none_iff.1 hl
      have h6 := Clk.timeTxt_length a
      rw [this] at h6; cases h6
    · rw [hl] at h
      have : b = 90 := by simpa using h
      subst this
      exact List.mem_of_getLast? hl
  have := List.all_eq_true.1 (dig_isD 6 (Clk.num8 (a % 86400 / 3600) (a % 3600 / 60) (a % 60))) 90 hm
  cases this
theorem isE {z : List UInt8} (h : z.isEmpty = true) : z = [] := by cases z <;> simp_all
theorem rd_txt {k a : Int} {z : List UInt8} (h : rt k a z = true) : rd (txt k a) z (decide (k = 0)) = some (k, a, z) := by
  have ho := rt_ok h
  obtain ⟨p1, p2⟩ := Clk.back_sec ho
  rcases rt_kind h with rfl | rfl | rfl | rfl
  · rw [rt0 ho, Bool.and_eq_true, decide_eq_true_eq] at h
    obtain rfl := isE h.1
    obtain ⟨q1, q2⟩ := Clk.back_day (Clk.okB_day ho)
    have e : txt 0 a = Clk.dateTxt (a / 86400) := if_pos rfl
    rw [show decide ((0 : Int) = 0) = true from rfl, rd_date, e, if_pos q1, q2]
    have : 86400 * (a / 86400) = a := by omega
    rw [this]
  · rw [rt1 ho] at h
    obtain rfl := isE h
    have e : txt 1 a = Clk.secTxt a := by unfold txt; rw [if_neg (by decide), if_neg (by decide)]
    rw [show decide ((1 : Int) = 0) = false from rfl, e, rd_L (sec_last a), if_pos p1, p2]
  · rw [rt2 ho] at h
    obtain rfl := isE h
    have e : txt 2 a = Clk.secTxt a ++ [90] := by unfold txt; rw [if_neg (by decide), if_pos rfl]
    rw [show decide ((2 : Int) = 0) = false from rfl, e, rd_Z (by simp), List.dropLast_concat, if_pos p1, p2]
  · rw [rt3 ho] at h
    have e : txt 3 a = Clk.secTxt a := by unfold txt; rw [if_neg (by decide), if_neg (by decide)]
    rw [show decide ((3 : Int) = 0) = false from rfl, e, rd_in (zn_iff.1 h).1 h, if_pos p1, p2]
theorem txt_len (k a : Int) : (txt k a).length ≤ 16 := by
  unfold txt
  split
  · rw [Clk.dateTxt_length]; omega
  · split
    · rw [List.length_append, Clk.sec_length]; simp
    · rw [Clk.sec_length]; omega
end Va
end Go.Proofs.YtmbmkldcedkbmaaGreat
