/- What clock.Parse and clock.ParseDate return. -/
import Derived.Test.YtafpdiikhhikeaaGreatDoorClkRead
import Derived.Test.YtafpdiikhhikeaaGreatDoorClkOf
namespace Go.Proofs.YtafpdiikhhikeaaGreatDoor
open Go.RowKit

namespace Clk
/- the number that a text's digits make, and its parts -/
def vY (l : List UInt8) : Int := (Txt.val l 0 : Int) / 10000
def vM (l : List UInt8) : Int := (Txt.val l 0 : Int) / 100 % 100
def vD (l : List UInt8) : Int := (Txt.val l 0 : Int) % 100
def txtB (l : List UInt8) : Bool := (l.take 8).all Txt.isD && (l.drop 9).all Txt.isD && decide (l.length = 15) && decide (l[8]? = some 84)
def parB (l : List UInt8) : Bool := txtB l && Cal.okB (vY (l.take 8)) (vM (l.take 8)) (vD (l.take 8)) && timB (vY (l.drop 9)) (vM (l.drop 9)) (vD (l.drop 9))
def parV (l : List UInt8) : Int := Cal.num (vY (l.take 8)) (vM (l.take 8)) (vD (l.take 8)) * 86400 + (vY (l.drop 9) * 3600 + vM (l.drop 9) * 60 + vD (l.drop 9))
def dayB (l : List UInt8) : Bool := l.all Txt.isD && decide (l.length = 8) && Cal.okB (vY l) (vM l) (vD l)
end Clk
theorem ext8 (s : ByteArray) : (s.extract 0 8).data.toList = s.data.toList.take 8 := by rw [Lib.extract_data]; simp
theorem ext9 (s : ByteArray) (h : s.size = 15) : (s.extract 9 15).data.toList = s.data.toList.drop 9 := by
  rw [Lib.extract_data]; refine List.take_of_length_le ?_
  rw [List.length_drop, ← Lib.size_eq, h]; decide
theorem sz8 (s : ByteArray) : (s.extract 0 8).size ≤ 8 := by rw [Lib.size_eq, ext8, List.length_take]; omega
theorem sz9 (s : ByteArray) (h : s.size = 15) : (s.extract 9 15).size ≤ 8 := by rw [Lib.size_eq, ext9 s h, List.length_drop, ← Lib.size_eq, h]; decide
theorem at8 (s : ByteArray) (h : 8 < s.size) : s.data.toList[8]? = some s[8] := by
  rw [List.getElem?_eq_getElem (by rw [← Lib.size_eq]; exact h)]; rfl

theorem rd8_yes (s : ByteArray) (w : World) (hd : (s.data.toList.take 8).all Txt.isD = true) :
    Calls Tryz.prog 33 #[.string (s.extract 0 8)] w fun e w' => e = .returned (.tuple #[.int .i64 (Clk.vY (s.data.toList.take 8)), .int .i64 (Clk.vM (s.data.toList.take 8)), .int .i64 (Clk.vD (s.data.toList.take 8)), .bool true]) ∧ w = w' := by
  have := read_yes (s.extract 0 8) w (sz8 s) (by rw [ext8]; exact hd)
  rw [ext8] at this; exact this
theorem rd8_no (s : ByteArray) (w : World) (hd : (s.data.toList.take 8).all Txt.isD = false) :
    Calls Tryz.prog 33 #[.string (s.extract 0 8)] w fun e w' => e = .returned (.tuple #[.int .i64 0, .int .i64 0, .int .i64 0, .bool false]) ∧ w = w' :=
  read_no (s.extract 0 8) w (sz8 s) (by rw [ext8]; exact hd)
theorem rd9_yes (s : ByteArray) (w : World) (h : s.size = 15) (hd : (s.data.toList.drop 9).all Txt.isD = true) :
    Calls Tryz.prog 33 #[.string (s.extract 9 15)] w fun e w' => e = .returned (.tuple #[.int .i64 (Clk.vY (s.data.toList.drop 9)), .int .i64 (Clk.vM (s.data.toList.drop 9)), .int .i64 (Clk.vD (s.data.toList.drop 9)), .bool true]) ∧ w = w' := by
  have := read_yes (s.extract 9 15) w (sz9 s h) (by rw [ext9 s h]; exact hd)
  rw [ext9 s h] at this; exact this
theorem rd9_no (s : ByteArray) (w : World) (h : s.size = 15) (hd : (s.data.toList.drop 9).all Txt.isD = false) :
    Calls Tryz.prog 33 #[.string (s.extract 9 15)] w fun e w' => e = .returned (.tuple #[.int .i64 0, .int .i64 0, .int .i64 0, .bool false]) ∧ w = w' :=
  read_no (s.extract 9 15) w (sz9 s h) (by rw [ext9 s h]; exact hd)

set_option maxHeartbeats 1000000 in
theorem parse_len (s : ByteArray) (w : World) (h : s.size ≠ 15) :
    Calls Tryz.prog 21 #[.string s] w fun e w' => e = .returned (.tuple #[.int .i64 0, .int .i64 7]) ∧ Gr w w' := by
  have h1 : ((s.size : Int) == 15) = false := by simp; omega
  go_enter Tryz.func21, Tryz.ntmps21
  go_wp2
  go_ret2
  exact ⟨rfl, Gr.refl _⟩
set_option maxHeartbeats 1000000 in
theorem parse_T (s : ByteArray) (w : World) (h : s.size = 15) (h8 : s[8] ≠ 84) :
    Calls Tryz.prog 21 #[.string s] w fun e w' => e = .returned (.tuple #[.int .i64 0, .int .i64 7]) ∧ Gr w w' := by
  have e8 : ((s[8].toNat : Int) != 84) = true := by
    have : s[8].toNat ≠ 84 := fun e => h8 (UInt8.toNat_inj.1 e)
    simp; omega
  go_enter Tryz.func21, Tryz.ntmps21
  go_wp2
  go_ret2
  exact ⟨rfl, Gr.refl _⟩
set_option maxHeartbeats 1000000 in
theorem parse_d (s : ByteArray) (w : World) (h : s.size = 15) (h8 : s[8] = 84) (ha : (s.data.toList.take 8).all Txt.isD = false) :
    Calls Tryz.prog 21 #[.string s] w fun e w' => e = .returned (.tuple #[.int .i64 0, .int .i64 7]) ∧ Gr w w' := by
  have e8 : ((s[8].toNat : Int) != 84) = false := by rw [h8]; rfl
  have HA := Lib.hid ha
  clear ha
  rcases hb : (s.data.toList.drop 9).all Txt.isD
  · have HB := Lib.hid hb; clear hb
    go_enter Tryz.func21, Tryz.ntmps21
    go_wp2_with fail
    refine (rd8_no _ _ HA.out).mono ?_
    rintro e w' ⟨rfl, rfl⟩
    go_wp2_with fail
    refine (rd9_no _ _ h HB.out).mono ?_
    rintro e w' ⟨rfl, rfl⟩
    go_wp2
    go_ret2
    exact ⟨rfl, Gr.refl _⟩
  · have HB := Lib.hid hb; clear hb
    go_enter Tryz.func21, Tryz.ntmps21
    go_wp2_with fail
    refine (rd8_no _ _ HA.out).mono ?_
    rintro e w' ⟨rfl, rfl⟩
    go_wp2_with fail
    refine (rd9_yes _ _ h HB.out).mono ?_
    rintro e w' ⟨rfl, rfl⟩
    go_wp2
    go_ret2
    exact ⟨rfl, Gr.refl _⟩
set_option maxHeartbeats 1000000 in
theorem parse_t (s : ByteArray) (w : World) (h : s.size = 15) (h8 : s[8] = 84) (ha : (s.data.toList.take 8).all Txt.isD = true) (hb : (s.data.toList.drop 9).all Txt.isD = false) :
    Calls Tryz.prog 21 #[.string s] w fun e w' => e = .returned (.tuple #[.int .i64 0, .int .i64 7]) ∧ Gr w w' := by
  have e8 : ((s[8].toNat : Int) != 84) = false := by rw [h8]; rfl
  have HA := Lib.hid ha
  have HB := Lib.hid hb
  clear ha hb
  go_enter Tryz.func21, Tryz.ntmps21
  go_wp2_with fail
  refine (rd8_yes _ _ HA.out).mono ?_
  rintro e w' ⟨rfl, rfl⟩
  go_wp2_with fail
  refine (rd9_no _ _ h HB.out).mono ?_
  rintro e w' ⟨rfl, rfl⟩
  go_wp2
  go_ret2
  exact ⟨rfl, Gr.refl _⟩
set_option maxHeartbeats 1000000 in
theorem parse_of (s : ByteArray) (w : World) (v er : Int) (h : s.size = 15) (h8 : s[8] = 84) (ha : (s.data.toList.take 8).all Txt.isD = true) (hb : (s.data.toList.drop 9).all Txt.isD = true)
    (hc : ∀ w, Calls Tryz.prog 34 #[.agg #[.int .i64 (Clk.vY (s.data.toList.take 8)), .int .i64 (Clk.vM (s.data.toList.take 8)), .int .i64 (Clk.vD (s.data.toList.take 8))], .int .i64 (Clk.vY (s.data.toList.drop 9)), .int .i64 (Clk.vM (s.data.toList.drop 9)), .int .i64 (Clk.vD (s.data.toList.drop 9))] w fun e w' => e = .returned (.tuple #[.int .i64 v, .int .i64 er]) ∧ Gr w w')
    (he : er = 0 ∨ (er = 2 ∧ v = 0)) :
    Calls Tryz.prog 21 #[.string s] w fun e w' => e = .returned (.tuple #[.int .i64 v, .int .i64 (if er = 0 then 0 else 7)]) ∧ Gr w w' := by
  have e8 : ((s[8].toNat : Int) != 84) = false := by rw [h8]; rfl
  have HA := Lib.hid ha
  have HB := Lib.hid hb
  have HC := Lib.hid hc
  clear ha hb hc
  rcases he with rfl | ⟨rfl, rfl⟩
  · rw [if_pos rfl]
    go_enter Tryz.func21, Tryz.ntmps21
    go_wp2_with fail
    refine (rd8_yes _ _ HA.out).mono ?_
    rintro e w' ⟨rfl, rfl⟩
    go_wp2_with fail
    refine (rd9_yes _ _ h HB.out).mono ?_
    rintro e w' ⟨rfl, rfl⟩
    go_wp2_with fail
    refine (HC.out _).mono ?_
    rintro e w1 ⟨rfl, hb⟩
    go_wp2
    go_ret2
    exact ⟨rfl, hb⟩
  · rw [if_neg (by decide)]
    go_enter Tryz.func21, Tryz.ntmps21
    go_wp2_with fail
    refine (rd8_yes _ _ HA.out).mono ?_
    rintro e w' ⟨rfl, rfl⟩
    go_wp2_with fail
    refine (rd9_yes _ _ h HB.out).mono ?_
    rintro e w' ⟨rfl, rfl⟩
    go_wp2_with fail
    refine (HC.out _).mono ?_
    rintro e w1 ⟨rfl, hb⟩
    go_wp2
    go_ret2
    exact ⟨rfl, hb⟩
theorem parse_yes (s : ByteArray) (w : World) (h : Clk.parB s.data.toList = true) :
    Calls Tryz.prog 21 #[.string s] w fun e w' => e = .returned (.tuple #[.int .i64 (Clk.parV s.data.toList), .int .i64 0]) ∧ Gr w w' := by
  simp only [Clk.parB, Clk.txtB, Bool.and_eq_true, decide_eq_true_eq] at h
  obtain ⟨⟨⟨⟨⟨ha, hb⟩, hl⟩, h8⟩, hd⟩, ht⟩ := h
  rw [← Lib.size_eq] at hl
  rw [at8 s (by omega)] at h8
  have := parse_of s w (Clk.parV s.data.toList) 0 hl (Option.some.inj h8) ha hb (fun w => cof_yes _ _ _ _ _ _ w hd ht) (.inl rfl)
  rw [if_pos rfl] at this
  exact this
theorem parse_no (s : ByteArray) (w : World) (h : Clk.parB s.data.toList = false) :
    Calls Tryz.prog 21 #[.string s] w fun e w' => e = .returned (.tuple #[.int .i64 0, .int .i64 7]) ∧ Gr w w' := by
  by_cases hl : s.size = 15
  · by_cases h8 : s[8] = 84
    · rcases ha : (s.data.toList.take 8).all Txt.isD
      · exact parse_d s w hl h8 ha
      · rcases hb : (s.data.toList.drop 9).all Txt.isD
        · exact parse_t s w hl h8 ha hb
        · have hx : Clk.txtB s.data.toList = true := by
            simp only [Clk.txtB, Bool.and_eq_true, decide_eq_true_eq]
            exact ⟨⟨⟨ha, hb⟩, by rw [← Lib.size_eq]; exact hl⟩, by rw [at8 s (by omega), h8]⟩
          have hn : Cal.okB (Clk.vY (s.data.toList.take 8)) (Clk.vM (s.data.toList.take 8)) (Clk.vD (s.data.toList.take 8)) = false ∨ Clk.timB (Clk.vY (s.data.toList.drop 9)) (Clk.vM (s.data.toList.drop 9)) (Clk.vD (s.data.toList.drop 9)) = false := by
            rw [Clk.parB, hx, Bool.true_and, Bool.and_eq_false_iff] at h; exact h
          have := parse_of s w 0 2 hl h8 ha hb (fun w => cof_no _ _ _ _ _ _ w hn) (.inr ⟨rfl, rfl⟩)
          rw [if_neg (by decide)] at this
          exact this
    · exact parse_T s w hl h8
  · exact parse_len s w hl
end Go.Proofs.YtafpdiikhhikeaaGreatDoor
