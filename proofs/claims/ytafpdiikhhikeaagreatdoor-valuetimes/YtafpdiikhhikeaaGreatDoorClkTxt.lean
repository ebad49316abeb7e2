/- What is written is read as it was, and what is read is written so: plain mathematics. -/
import Derived.Test.YtafpdiikhhikeaaGreatDoorClkFmt
import Derived.Test.YtafpdiikhhikeaaGreatDoorClkParseD
namespace Go.Proofs.YtafpdiikhhikeaaGreatDoor
namespace Clk

theorem num8_cast {y m d : Int} (y0 : 0 ≤ y) (m0 : 0 ≤ m) (d0 : 0 ≤ d) : (num8 y m d : Int) = 10000 * y + 100 * m + d := by unfold num8; omega
/- the parts of a number of eight or six digits -/
theorem v_dig {y m d : Int} {k : Nat} (y0 : 0 ≤ y) (m0 : 0 ≤ m) (m1 : m < 100) (d0 : 0 ≤ d) (d1 : d < 100) (hk : num8 y m d < 10 ^ k) :
    vY (Txt.dig (num8 y m d) k) = y ∧ vM (Txt.dig (num8 y m d) k) = m ∧ vD (Txt.dig (num8 y m d) k) = d := by
  have e := num8_cast y0 m0 d0
  unfold vY vM vD
  rw [Txt.val_dig k _ hk, e]
  omega
theorem dig_v {l : List UInt8} (h : l.all Txt.isD = true) : Txt.dig (num8 (vY l) (vM l) (vD l)) l.length = l := by
  have e : num8 (vY l) (vM l) (vD l) = Txt.val l 0 := by unfold num8 vY vM vD; omega
  rw [e, Txt.dig_val0 l h]
theorem v_nonneg (l : List UInt8) : 0 ≤ vY l ∧ 0 ≤ vM l ∧ vM l < 100 ∧ 0 ≤ vD l ∧ vD l < 100 := by unfold vY vM vD; omega

theorem date_lt {n : Int} (h : Cal.dayB n = true) : num8 (Cal.yr n) (Cal.mon n) (Cal.dom n) < 10 ^ 8 := by
  obtain ⟨y0, y1, m0, m1, d0, d1⟩ := date_bd h
  exact num8_lt (k := 9999) y1 (by omega) (by omega)
theorem time_lt (a : Int) : num8 (a % 86400 / 3600) (a % 3600 / 60) (a % 60) < 10 ^ 6 := by
  obtain ⟨h0, h1, i0, i1, s0, s1⟩ := time_bd a
  exact Nat.lt_of_lt_of_le (num8_lt (k := 23) h1 (by omega) (by omega)) (by decide)
theorem date_v {n : Int} (h : Cal.dayB n = true) : vY (dateTxt n) = Cal.yr n ∧ vM (dateTxt n) = Cal.mon n ∧ vD (dateTxt n) = Cal.dom n := by
  obtain ⟨y0, y1, m0, m1, d0, d1⟩ := date_bd h
  exact v_dig (by omega) (by omega) (by omega) (by omega) (by omega) (date_lt h)
theorem time_v (a : Int) : vY (timeTxt a) = a % 86400 / 3600 ∧ vM (timeTxt a) = a % 3600 / 60 ∧ vD (timeTxt a) = a % 60 := by
  obtain ⟨h0, h1, i0, i1, s0, s1⟩ := time_bd a
  exact v_dig (by omega) (by omega) (by omega) (by omega) (by omega) (time_lt a)

theorem sec_take (a : Int) : (secTxt a).take 8 = dateTxt (a / 86400) := by
  rw [secTxt, List.append_assoc, List.take_left' (dateTxt_length _)]
theorem sec_drop (a : Int) : (secTxt a).drop 9 = timeTxt a := by
  rw [secTxt, List.drop_left' (by rw [List.length_append, dateTxt_length]; rfl)]
theorem sec_length (a : Int) : (secTxt a).length = 15 := by
  rw [secTxt, List.length_append, List.length_append, dateTxt_length, timeTxt_length]; rfl
theorem sec_at (a : Int) : (secTxt a)[8]? = some 84 := by
  rw [secTxt, List.append_assoc, List.getElem?_append_right (by rw [dateTxt_length]; exact Nat.le_refl _), dateTxt_length]; rfl

theorem back_day {n : Int} (h : Cal.dayB n = true) : dayB (dateTxt n) = true ∧ Cal.num (vY (dateTxt n)) (vM (dateTxt n)) (vD (dateTxt n)) = n := by
  obtain ⟨e1, e2, e3⟩ := date_v h
  obtain ⟨ho, hn⟩ := Cal.date_spec h
  rw [e1, e2, e3]
  refine ⟨?_, hn⟩
  unfold dayB
  rw [e1, e2, e3, ho, dateTxt_length, dateTxt, Txt.dig_isD]; rfl
theorem back_sec {a : Int} (h : okB a = true) : parB (secTxt a) = true ∧ parV (secTxt a) = a := by
  have hd := okB_day h
  obtain ⟨e1, e2, e3⟩ := date_v hd
  obtain ⟨f1, f2, f3⟩ := time_v a
  obtain ⟨ho, hn⟩ := Cal.date_spec hd
  obtain ⟨h0, h1, i0, i1, s0, s1⟩ := time_bd a
  have ht : timB (a % 86400 / 3600) (a % 3600 / 60) (a % 60) = true := timB_iff.2 (by omega)
  unfold parB txtB parV
  rw [sec_take, sec_drop, sec_length, sec_at, e1, e2, e3, f1, f2, f3, ho, hn, ht, dateTxt, timeTxt, Txt.dig_isD, Txt.dig_isD]
  refine ⟨rfl, by omega⟩
theorem read_day {l : List UInt8} (h : dayB l = true) : Cal.dayB (Cal.num (vY l) (vM l) (vD l)) = true ∧ dateTxt (Cal.num (vY l) (vM l) (vD l)) = l := by
  simp only [dayB, Bool.and_eq_true, decide_eq_true_eq] at h
  obtain ⟨⟨ha, hl⟩, ho⟩ := h
  obtain ⟨e1, e2, e3⟩ := Cal.date_unique ho rfl
  refine ⟨Cal.dayB_iff.2 (Cal.num_bd ho), ?_⟩
  rw [dateTxt, e1, e2, e3, ← hl]
  exact dig_v ha
theorem read_sec {l : List UInt8} (h : parB l = true) : okB (parV l) = true ∧ secTxt (parV l) = l := by
  simp only [parB, txtB, Bool.and_eq_true, decide_eq_true_eq] at h
  obtain ⟨⟨⟨⟨⟨ha, hb⟩, hl⟩, h8⟩, ho⟩, ht⟩ := h
  have h8' : dayB (l.take 8) = true := by
    unfold dayB
    rw [ha, ho, List.length_take, hl]; rfl
  obtain ⟨hd, hx⟩ := read_day h8'
  obtain ⟨n1, n2⟩ := Cal.dayB_iff.1 hd
  obtain ⟨t1, t2, t3, t4, t5, t6⟩ := timB_iff.1 ht
  have l6 : (l.drop 9).length = 6 := by rw [List.length_drop, hl]
  have ev : parV l = Cal.num (vY (l.take 8)) (vM (l.take 8)) (vD (l.take 8)) * 86400 + (vY (l.drop 9) * 3600 + vM (l.drop 9) * 60 + vD (l.drop 9)) := rfl
  generalize Cal.num (vY (l.take 8)) (vM (l.take 8)) (vD (l.take 8)) = n at *
  have a1 : parV l / 86400 = n := by omega
  have a2 : parV l % 86400 / 3600 = vY (l.drop 9) := by omega
  have a3 : parV l % 3600 / 60 = vM (l.drop 9) := by omega
  have a4 : parV l % 60 = vD (l.drop 9) := by omega
  refine ⟨okB_iff.2 (by omega), ?_⟩
  rw [secTxt, a1, hx, timeTxt, a2, a3, a4]
  have e6 := dig_v hb
  rw [l6] at e6
  rw [e6]
  have h9 : l.drop 8 = 84 :: l.drop 9 := by
    have hlt : 8 < l.length := by omega
    rw [List.getElem?_eq_getElem hlt] at h8
    rw [List.drop_eq_getElem_cons hlt, Option.some.inj h8]
  rw [List.append_assoc]
  show l.take 8 ++ 84 :: l.drop 9 = l
  rw [← h9, List.take_append_drop]
end Clk
end Go.Proofs.YtafpdiikhhikeaaGreatDoor
