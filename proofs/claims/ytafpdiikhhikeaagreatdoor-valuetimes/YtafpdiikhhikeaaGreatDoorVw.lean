/- Times that are right, and their texts: plain mathematics. -/
import Derived.Test.YtafpdiikhhikeaaGreatDoorVz
import Derived.Test.YtafpdiikhhikeaaGreatDoorClkTxt
namespace Go.Proofs.YtafpdiikhhikeaaGreatDoor
namespace Va
open Txt

def rt (k a : Int) (z : List UInt8) : Bool := Clk.okB a && (if k = 0 then z.isEmpty && decide (a % 86400 = 0) else if k = 1 ∨ k = 2 then z.isEmpty else if k = 3 then zn z else false)
def txt (k a : Int) : List UInt8 := if k = 0 then Clk.dateTxt (a / 86400) else if k = 2 then Clk.secTxt a ++ [90] else Clk.secTxt a
theorem rt_ok {k a : Int} {z : List UInt8} (h : rt k a z = true) : Clk.okB a = true := by
  unfold rt at h
  rw [Bool.and_eq_true] at h
  exact h.1
theorem rt_no {k a : Int} {z : List UInt8} (h : Clk.okB a = false) : rt k a z = false := by unfold rt; rw [h]; rfl
theorem rt0 {a : Int} {z : List UInt8} (h : Clk.okB a = true) : rt 0 a z = (z.isEmpty && decide (a % 86400 = 0)) := by unfold rt; rw [h, if_pos rfl]; rfl
theorem rt1 {a : Int} {z : List UInt8} (h : Clk.okB a = true) : rt 1 a z = z.isEmpty := by unfold rt; rw [h, if_neg (by decide), if_pos (.inl rfl)]; rfl
theorem rt2 {a : Int} {z : List UInt8} (h : Clk.okB a = true) : rt 2 a z = z.isEmpty := by unfold rt; rw [h, if_neg (by decide), if_pos (.inr rfl)]; rfl
theorem rt3 {a : Int} {z : List UInt8} (h : Clk.okB a = true) : rt 3 a z = zn z := by unfold rt; rw [h, if_neg (by decide), if_neg (by decide), if_pos rfl]; rfl
theorem rt_else {k a : Int} {z : List UInt8} (h0 : k ≠ 0) (h1 : k ≠ 1) (h2 : k ≠ 2) (h3 : k ≠ 3) : rt k a z = false := by
  unfold rt
  rw [if_neg h0, if_neg (fun h => h.elim h1 h2), if_neg h3, Bool.and_false]
theorem rt_kind {k a : Int} {z : List UInt8} (h : rt k a z = true) : k = 0 ∨ k = 1 ∨ k = 2 ∨ k = 3 := by
  by_cases h0 : k = 0
  · exact .inl h0
  by_cases h1 : k = 1
  · exact .inr (.inl h1)
  by_cases h2 : k = 2
  · exact .inr (.inr (.inl h2))
  by_cases h3 : k = 3
  · exact .inr (.inr (.inr h3))
  rw [rt_else h0 h1 h2 h3] at h; cases h
theorem sec_last (a : Int) : ¬ (Clk.secTxt a).getLast? = some 90 := by
  intro h
  have hm : (90 : UInt8) ∈ Clk.timeTxt a := by
    unfold Clk.secTxt at h
    rw [List.getLast?_append] at h
    rcases hl : (Clk.timeTxt a).getLast? with _ | b
    · have := List.getLast?_eq_none_iff.1 hl
      have h6 := Clk.timeTxt_length a
      rw [this] at h6; cases h6
    · rw [hl] at h
      have : b = 90 := by simpa using h
      subst this
      exact List.mem_of_getLast? hl
  have := List.all_eq_true.1 (dig_isD 6 (Clk.num8 (a % 86400 / 3600) (a % 3600 / 60) (a % 60))) 90 hm
  cases this
theorem isE {z : List UInt8} (h : z.isEmpty = true) : z = [] := by cases z <;> simp_all
theorem rd_txt {k a : Int} {z : List UInt8} (h : rt k a z = true) : rd (txt k a) z (decide (k = 0)) = some (k, a, z) := by
  have ho := rt_ok h
  obtain ⟨p1, p2⟩ := Clk.back_sec ho
  rcases rt_kind h with rfl | rfl | rfl | rfl
  · rw [rt0 ho, Bool.and_eq_true, decide_eq_true_eq] at h
    obtain rfl := isE h.1
    obtain ⟨q1, q2⟩ := Clk.back_day (Clk.okB_day ho)
    have e : txt 0 a = Clk.dateTxt (a / 86400) := if_pos rfl
    rw [show decide ((0 : Int) = 0) = true from rfl, rd_date, e, if_pos q1, q2]
    have : 86400 * (a / 86400) = a := by omega
    rw [this]
  · rw [rt1 ho] at h
    obtain rfl := isE h
    have e : txt 1 a = Clk.secTxt a := by unfold txt; rw [if_neg (by decide), if_neg (by decide)]
    rw [show decide ((1 : Int) = 0) = false from rfl, e, rd_L (sec_last a), if_pos p1, p2]
  · rw [rt2 ho] at h
    obtain rfl := isE h
    have e : txt 2 a = Clk.secTxt a ++ [90] := by unfold txt; rw [if_neg (by decide), if_pos rfl]
    rw [show decide ((2 : Int) = 0) = false from rfl, e, rd_Z (by simp), List.dropLast_concat, if_pos p1, p2]
  · rw [rt3 ho] at h
    have e : txt 3 a = Clk.secTxt a := by unfold txt; rw [if_neg (by decide), if_neg (by decide)]
    rw [show decide ((3 : Int) = 0) = false from rfl, e, rd_in (zn_iff.1 h).1 h, if_pos p1, p2]
theorem txt_len (k a : Int) : (txt k a).length ≤ 16 := by
  unfold txt
  split
  · rw [Clk.dateTxt_length]; omega
  · split
    · rw [List.length_append, Clk.sec_length]; simp
    · rw [Clk.sec_length]; omega
end Va
end Go.Proofs.YtafpdiikhhikeaaGreatDoor
