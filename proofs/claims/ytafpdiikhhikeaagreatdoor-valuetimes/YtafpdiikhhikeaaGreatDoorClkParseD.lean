/- What clock.ParseDate returns. -/
import Derived.Test.YtafpdiikhhikeaaGreatDoorClkParse
namespace Go.Proofs.YtafpdiikhhikeaaGreatDoor
open Go.RowKit

set_option maxHeartbeats 1000000 in
theorem parsed_len (s : ByteArray) (w : World) (h : s.size ≠ 8) :
    Calls Tryz.prog 30 #[.string s] w fun e w' => e = .returned (.tuple #[.int .i64 0, .int .i64 7]) ∧ Gr w w' := by
  have h1 : ((s.size : Int) == 8) = false := by simp; omega
  go_enter Tryz.func30, Tryz.ntmps30
  go_wp2
  go_ret2
  exact ⟨rfl, Gr.refl _⟩
set_option maxHeartbeats 1000000 in
theorem parsed_d (s : ByteArray) (w : World) (h : s.size = 8) (ha : s.data.toList.all Txt.isD = false) :
    Calls Tryz.prog 30 #[.string s] w fun e w' => e = .returned (.tuple #[.int .i64 0, .int .i64 7]) ∧ Gr w w' := by
  have HA := Lib.hid ha
  clear ha
  go_enter Tryz.func30, Tryz.ntmps30
  go_wp2_with fail
  refine (read_no _ _ (by omega) HA.out).mono ?_
  rintro e w' ⟨rfl, rfl⟩
  go_wp2
  go_ret2
  exact ⟨rfl, Gr.refl _⟩
theorem read8_yes (s : ByteArray) (w : World) (h : s.size = 8) (hd : s.data.toList.all Txt.isD = true) :
    Calls Tryz.prog 33 #[.string s] w fun e w' => e = .returned (.tuple #[.int .i64 (Clk.vY s.data.toList), .int .i64 (Clk.vM s.data.toList), .int .i64 (Clk.vD s.data.toList), .bool true]) ∧ w = w' :=
  read_yes s w (by omega) hd
set_option maxHeartbeats 1000000 in
theorem parsed_of (s : ByteArray) (w : World) (v er : Int) (h : s.size = 8) (ha : s.data.toList.all Txt.isD = true)
    (hc : ∀ w, Calls Tryz.prog 48 #[.agg #[.int .i64 (Clk.vY s.data.toList), .int .i64 (Clk.vM s.data.toList), .int .i64 (Clk.vD s.data.toList)]] w fun e w' => e = .returned (.tuple #[.int .i64 v, .int .i64 er]) ∧ Gr w w')
    (he : er = 0 ∨ (er = 2 ∧ v = 0)) :
    Calls Tryz.prog 30 #[.string s] w fun e w' => e = .returned (.tuple #[.int .i64 v, .int .i64 (if er = 0 then 0 else 7)]) ∧ Gr w w' := by
  have HA := Lib.hid ha
  have HC := Lib.hid hc
  clear ha hc
  rcases he with rfl | ⟨rfl, rfl⟩
  · rw [if_pos rfl]
    go_enter Tryz.func30, Tryz.ntmps30
    go_wp2_with fail
    refine (read8_yes _ _ h HA.out).mono ?_
    rintro e w' ⟨rfl, rfl⟩
    go_wp2_with fail
    refine (HC.out _).mono ?_
    rintro e w1 ⟨rfl, hb⟩
    go_wp2
    go_ret2
    exact ⟨rfl, hb⟩
  · rw [if_neg (by decide)]
    go_enter Tryz.func30, Tryz.ntmps30
    go_wp2_with fail
    refine (read8_yes _ _ h HA.out).mono ?_
    rintro e w' ⟨rfl, rfl⟩
    go_wp2_with fail
    refine (HC.out _).mono ?_
    rintro e w1 ⟨rfl, hb⟩
    go_wp2
    go_ret2
    exact ⟨rfl, hb⟩
theorem parsed_yes (s : ByteArray) (w : World) (h : Clk.dayB s.data.toList = true) :
    Calls Tryz.prog 30 #[.string s] w fun e w' => e = .returned (.tuple #[.int .i64 (Cal.num (Clk.vY s.data.toList) (Clk.vM s.data.toList) (Clk.vD s.data.toList)), .int .i64 0]) ∧ Gr w w' := by
  simp only [Clk.dayB, Bool.and_eq_true, decide_eq_true_eq] at h
  obtain ⟨⟨ha, hl⟩, hd⟩ := h
  rw [← Lib.size_eq] at hl
  have := parsed_of s w _ 0 hl ha (fun w => day_yes _ _ _ w hd) (.inl rfl)
  rw [if_pos rfl] at this
  exact this
theorem parsed_no (s : ByteArray) (w : World) (h : Clk.dayB s.data.toList = false) :
    Calls Tryz.prog 30 #[.string s] w fun e w' => e = .returned (.tuple #[.int .i64 0, .int .i64 7]) ∧ Gr w w' := by
  by_cases hl : s.size = 8
  · rcases ha : s.data.toList.all Txt.isD
    · exact parsed_d s w hl ha
    · have hn : Cal.okB (Clk.vY s.data.toList) (Clk.vM s.data.toList) (Clk.vD s.data.toList) = false := by
        rw [Clk.dayB, ha, Bool.true_and, ← Lib.size_eq, decide_eq_true hl, Bool.true_and] at h; exact h
      have := parsed_of s w 0 2 hl ha (fun w => day_no _ _ _ w hn) (.inr ⟨rfl, rfl⟩)
      rw [if_neg (by decide)] at this
      exact this
  · exact parsed_len s w hl
end Go.Proofs.YtafpdiikhhikeaaGreatDoor
