/- What clock.Of and clock.Parts return. -/
import Derived.Test.YtafpdiikhhikeaaGreatDoorClk
namespace Go.Proofs.YtafpdiikhhikeaaGreatDoor
open Go.RowKit

set_option maxHeartbeats 1000000 in
theorem cof_yes (y m d hh mm ss : Int) (w : World) (h : Cal.okB y m d = true) (ht : Clk.timB hh mm ss = true) :
    Calls Tryz.prog 34 #[.agg #[.int .i64 y, .int .i64 m, .int .i64 d], .int .i64 hh, .int .i64 mm, .int .i64 ss] w fun e w' => e = .returned (.tuple #[.int .i64 (Cal.num y m d * 86400 + (hh * 3600 + mm * 60 + ss)), .int .i64 0]) ∧ Gr w w' := by
  obtain ⟨h1, h2, m1, m2, s1, s2⟩ := Clk.timB_iff.1 ht
  have hn := Cal.dayB_iff.2 (Cal.num_bd h)
  have HN := Lib.hid hn
  have hs : Clk.secB (hh * 3600 + mm * 60 + ss) = true := Clk.secB_iff.2 ⟨by omega, by omega⟩
  have HS := Lib.hid hs
  have H := Lib.hid h; clear h ht hn hs
  have b1 : decide (hh < 0) = false := by simp; omega
  have b2 : decide (23 < hh) = false := by simp; omega
  have b3 : decide (mm < 0) = false := by simp; omega
  have b4 : decide (59 < mm) = false := by simp; omega
  have b5 : decide (ss < 0) = false := by simp; omega
  have b6 : decide (59 < ss) = false := by simp; omega
  go_enter Tryz.func34, Tryz.ntmps34
  go_wp2_with fail
  refine (day_yes _ _ _ _ H.out).mono ?_
  rintro e w1 ⟨rfl, hb⟩
  go_wp2_with fail
  refine (cat_yes _ _ _ HN.out HS.out).mono ?_
  rintro e w' ⟨rfl, rfl⟩
  go_wp2
  go_ret2
  exact ⟨rfl, ((Gr.refl _).alloc _ _).trans hb⟩
set_option maxHeartbeats 1000000 in
theorem cof_date (y m d hh mm ss : Int) (w : World) (h : Cal.okB y m d = false) (ht : Clk.timB hh mm ss = true) :
    Calls Tryz.prog 34 #[.agg #[.int .i64 y, .int .i64 m, .int .i64 d], .int .i64 hh, .int .i64 mm, .int .i64 ss] w fun e w' => e = .returned (.tuple #[.int .i64 0, .int .i64 2]) ∧ Gr w w' := by
  obtain ⟨h1, h2, m1, m2, s1, s2⟩ := Clk.timB_iff.1 ht
  have H := Lib.hid h; clear h ht
  have b1 : decide (hh < 0) = false := by simp; omega
  have b2 : decide (23 < hh) = false := by simp; omega
  have b3 : decide (mm < 0) = false := by simp; omega
  have b4 : decide (59 < mm) = false := by simp; omega
  have b5 : decide (ss < 0) = false := by simp; omega
  have b6 : decide (59 < ss) = false := by simp; omega
  go_enter Tryz.func34, Tryz.ntmps34
  go_wp2_with fail
  refine (day_no _ _ _ _ H.out).mono ?_
  rintro e w1 ⟨rfl, hb⟩
  go_wp2
  go_ret2
  exact ⟨rfl, ((Gr.refl _).alloc _ _).trans hb⟩
set_option maxHeartbeats 1000000 in
theorem cof_time (y m d hh mm ss : Int) (w : World) (ht : Clk.timB hh mm ss = false) :
    Calls Tryz.prog 34 #[.agg #[.int .i64 y, .int .i64 m, .int .i64 d], .int .i64 hh, .int .i64 mm, .int .i64 ss] w fun e w' => e = .returned (.tuple #[.int .i64 0, .int .i64 2]) ∧ Gr w w' := by
  have hn : ¬ (0 ≤ hh ∧ hh ≤ 23 ∧ 0 ≤ mm ∧ mm ≤ 59 ∧ 0 ≤ ss ∧ ss ≤ 59) := by rw [← Clk.timB_iff, ht]; simp
  clear ht
  rcases b1 : decide (hh < 0)
  · rcases b2 : decide (23 < hh)
    · rcases b3 : decide (mm < 0)
      · rcases b4 : decide (59 < mm)
        · rcases b5 : decide (ss < 0)
          · have b6 : decide (59 < ss) = true := by simp at b1 b2 b3 b4 b5 ⊢; omega
            clear hn
            go_enter Tryz.func34, Tryz.ntmps34
            go_wp2
            go_ret2
            exact ⟨rfl, (Gr.refl _).alloc _ _⟩
          · clear hn
            go_enter Tryz.func34, Tryz.ntmps34
            go_wp2
            go_ret2
            exact ⟨rfl, (Gr.refl _).alloc _ _⟩
        · clear hn
          go_enter Tryz.func34, Tryz.ntmps34
          go_wp2
          go_ret2
          exact ⟨rfl, (Gr.refl _).alloc _ _⟩
      · clear hn
        go_enter Tryz.func34, Tryz.ntmps34
        go_wp2
        go_ret2
        exact ⟨rfl, (Gr.refl _).alloc _ _⟩
    · clear hn
      go_enter Tryz.func34, Tryz.ntmps34
      go_wp2
      go_ret2
      exact ⟨rfl, (Gr.refl _).alloc _ _⟩
  · clear hn
    go_enter Tryz.func34, Tryz.ntmps34
    go_wp2
    go_ret2
    exact ⟨rfl, (Gr.refl _).alloc _ _⟩
theorem cof_no (y m d hh mm ss : Int) (w : World) (h : Cal.okB y m d = false ∨ Clk.timB hh mm ss = false) :
    Calls Tryz.prog 34 #[.agg #[.int .i64 y, .int .i64 m, .int .i64 d], .int .i64 hh, .int .i64 mm, .int .i64 ss] w fun e w' => e = .returned (.tuple #[.int .i64 0, .int .i64 2]) ∧ Gr w w' := by
  rcases ht : Clk.timB hh mm ss
  · exact cof_time _ _ _ _ _ _ _ ht
  · rcases h with h | h
    · exact cof_date _ _ _ _ _ _ _ h ht
    · simp [h] at ht
/- two boxes of three cells each -/
structure Box2 (w : World) (b c : Nat) (x0 x1 x2 y0 y1 y2 : Value) : Prop where
  b0 : w.cell? ⟨b, 0, none⟩ = some x0
  b1 : w.cell? ⟨b, 1, none⟩ = some x1
  b2 : w.cell? ⟨b, 2, none⟩ = some x2
  c0 : w.cell? ⟨c, 0, none⟩ = some y0
  c1 : w.cell? ⟨c, 1, none⟩ = some y1
  c2 : w.cell? ⟨c, 2, none⟩ = some y2
theorem Box2.set {w : World} {b c : Nat} {x0 x1 x2 y0 y1 y2 : Value} (h : Box2 w b c x0 x1 x2 y0 y1 y2) (hbc : b ≠ c) (p q r s t u : Value) :
    Box2 ((((((w.setCell ⟨b, 0, none⟩ p).setCell ⟨b, 1, none⟩ q).setCell ⟨b, 2, none⟩ r).setCell ⟨c, 0, none⟩ s).setCell ⟨c, 1, none⟩ t).setCell ⟨c, 2, none⟩ u) b c p q r s t u := by
  have hcb : c ≠ b := fun e => hbc e.symm
  obtain ⟨k0, k1, k2⟩ := box_set3 h.b0 h.b1 h.b2 p q r
  have j0 : (((w.setCell ⟨b, 0, none⟩ p).setCell ⟨b, 1, none⟩ q).setCell ⟨b, 2, none⟩ r).cell? ⟨c, 0, none⟩ = some y0 := by
    rw [World.cell?_setCell_other (h := by simp), World.cell?_setCell_other (h := by simp), World.cell?_setCell_other (h := by simp)]; exact h.c0
  have j1 : (((w.setCell ⟨b, 0, none⟩ p).setCell ⟨b, 1, none⟩ q).setCell ⟨b, 2, none⟩ r).cell? ⟨c, 1, none⟩ = some y1 := by
    rw [World.cell?_setCell_other (h := by simp), World.cell?_setCell_other (h := by simp), World.cell?_setCell_other (h := by simp)]; exact h.c1
  have j2 : (((w.setCell ⟨b, 0, none⟩ p).setCell ⟨b, 1, none⟩ q).setCell ⟨b, 2, none⟩ r).cell? ⟨c, 2, none⟩ = some y2 := by
    rw [World.cell?_setCell_other (h := by simp), World.cell?_setCell_other (h := by simp), World.cell?_setCell_other (h := by simp)]; exact h.c2
  obtain ⟨i0, i1, i2⟩ := box_set3 j0 j1 j2 s t u
  refine ⟨?_, ?_, ?_, i0, i1, i2⟩
  · rw [World.cell?_setCell_other (h := by simp), World.cell?_setCell_other (h := by simp), World.cell?_setCell_other (h := by simp)]; exact k0
  · rw [World.cell?_setCell_other (h := by simp), World.cell?_setCell_other (h := by simp), World.cell?_setCell_other (h := by simp)]; exact k1
  · rw [World.cell?_setCell_other (h := by simp), World.cell?_setCell_other (h := by simp), World.cell?_setCell_other (h := by simp)]; exact k2
set_option maxHeartbeats 1000000 in
theorem cparts_yes (a : Int) (w : World) (h : Clk.okB a = true) :
    Calls Tryz.prog 27 #[.int .i64 a] w fun e w' => e = .returned (.tuple #[.agg #[.int .i64 (Cal.yr (a / 86400)), .int .i64 (Cal.mon (a / 86400)), .int .i64 (Cal.dom (a / 86400))], .agg #[.int .i64 (a % 86400 / 3600), .int .i64 (a % 3600 / 60), .int .i64 (a % 60)], .int .i64 0]) ∧ Gr w w' := by
  have hn := Clk.okB_day h
  have HN := Lib.hid hn
  have s1 : 0 ≤ a % 86400 := by omega
  have s2 : a % 86400 < 86400 := by omega
  have H := Lib.hid h; clear h hn
  go_enter Tryz.func27, Tryz.ntmps27
  go_wp2_with fail
  refine (cday_yes _ _ H.out).mono ?_
  rintro e w' ⟨rfl, rfl⟩
  go_wp2_with fail
  refine (date_yes _ _ HN.out).mono ?_
  rintro e w1 ⟨rfl, hb⟩
  go_wp2_with fail
  have hb2 := (Gr.alloc (Gr.refl w1) #[.int .i64 (Cal.yr (a / 86400)), .int .i64 (Cal.mon (a / 86400)), .int .i64 (Cal.dom (a / 86400))] 45)
  obtain ⟨l0, l1, l2⟩ := box_now w1 (.int .i64 (Cal.yr (a / 86400))) (.int .i64 (Cal.mon (a / 86400))) (.int .i64 (Cal.dom (a / 86400))) 45
  generalize w1.alloc (.cells #[.int .i64 (Cal.yr (a / 86400)), .int .i64 (Cal.mon (a / 86400)), .int .i64 (Cal.dom (a / 86400))] 45) = w2 at *
  have hg := hb.trans hb2
  have hg' := ((Gr.refl _).alloc _ _).trans hg
  obtain ⟨x0, x1, x2⟩ := box3 hg'
  have f0 := box_free hg' 0
  have f1 := box_free hg' 1
  have f2 := box_free hg' 2
  have hz : ∀ o, (w.alloc o).heap.size = w.heap.size + 1 := fun o => by simp
  obtain ⟨y0, y1, y2⟩ := box3 hg
  have g0 := box_free hg 0
  have g1 := box_free hg 1
  have g2 := box_free hg 2
  rw [hz] at y0 y1 y2 g0 g1 g2
  have bx : Box2 w2 w.heap.size (w.heap.size + 1) _ _ _ _ _ _ := ⟨x0, x1, x2, y0, y1, y2⟩
  have BX := Lib.hid bx
  clear bx
  refine (csec_yes _ _ H.out).mono ?_
  rintro e w' ⟨rfl, rfl⟩
  go_wp2
  have hB := BX.out.set (by omega) (.int .i64 (Cal.yr (a / 86400))) (.int .i64 (Cal.mon (a / 86400))) (.int .i64 (Cal.dom (a / 86400))) (.int .i64 (a % 86400 / 3600)) (.int .i64 (a % 3600 / 60)) (.int .i64 (a % 60))
  have hw : Gr w ((((((w2.setCell ⟨w.heap.size, 0, none⟩ (.int .i64 (Cal.yr (a / 86400)))).setCell ⟨w.heap.size, 1, none⟩ (.int .i64 (Cal.mon (a / 86400)))).setCell ⟨w.heap.size, 2, none⟩ (.int .i64 (Cal.dom (a / 86400)))).setCell ⟨w.heap.size + 1, 0, none⟩ (.int .i64 (a % 86400 / 3600))).setCell ⟨w.heap.size + 1, 1, none⟩ (.int .i64 (a % 3600 / 60))).setCell ⟨w.heap.size + 1, 2, none⟩ (.int .i64 (a % 60))) :=
    ((((((((Gr.refl w).alloc _ _).trans hg').setCell (Nat.le_refl _) _).setCell (Nat.le_refl _) _).setCell (Nat.le_refl _) _).setCell (Nat.le_succ _) _).setCell (Nat.le_succ _) _).setCell (Nat.le_succ _) _
  clear BX
  generalize World.setCell _ _ _ = W at *
  exact bodyPost_ret (v := .tuple #[.agg #[.int .i64 (Cal.yr (a / 86400)), .int .i64 (Cal.mon (a / 86400)), .int .i64 (Cal.dom (a / 86400))], .agg #[.int .i64 (a % 86400 / 3600), .int .i64 (a % 3600 / 60), .int .i64 (a % 60)], .int .i64 0]) (by simp [results, Tryz.results27, go_sem, hB.b0, hB.b1, hB.b2, hB.c0, hB.c1, hB.c2]) rfl ⟨rfl, hw⟩
set_option maxHeartbeats 1000000 in
theorem cparts_no (a : Int) (w : World) (h : Clk.okB a = false) :
    Calls Tryz.prog 27 #[.int .i64 a] w fun e w' => e = .returned (.tuple #[.agg #[.int .i64 0, .int .i64 0, .int .i64 0], .agg #[.int .i64 0, .int .i64 0, .int .i64 0], .int .i64 2]) ∧ Gr w w' := by
  have H := Lib.hid h; clear h
  go_enter Tryz.func27, Tryz.ntmps27
  go_wp2_with fail
  refine (cday_no _ _ H.out).mono ?_
  rintro e w' ⟨rfl, rfl⟩
  go_wp2_with fail
  refine (date_no _ _ rfl).mono ?_
  rintro e w1 ⟨rfl, hb⟩
  have hb2 := hb.trans (Gr.alloc (Gr.refl w1) #[.int .i64 0, .int .i64 0, .int .i64 0] 45)
  have hz : ∀ o, (w.alloc o).heap.size = w.heap.size + 1 := fun o => by simp
  have hb2' := ((Gr.refl _).alloc _ _).trans hb2
  obtain ⟨x0, x1, x2⟩ := box3 hb2'
  have f0 := box_free hb2' 0
  have f1 := box_free hb2' 1
  have f2 := box_free hb2' 2
  obtain ⟨y0, y1, y2⟩ := box3 hb2
  have g0 := box_free hb2 0
  have g1 := box_free hb2 1
  have g2 := box_free hb2 2
  rw [hz] at y0 y1 y2 g0 g1 g2
  have bx : Box2 _ w.heap.size (w.heap.size + 1) _ _ _ _ _ _ := ⟨x0, x1, x2, y0, y1, y2⟩
  have BX := Lib.hid bx
  clear bx
  go_wp2
  have hB := BX.out.set (by omega) (.int .i64 0) (.int .i64 0) (.int .i64 0) (.int .i64 0) (.int .i64 0) (.int .i64 0)
  have hw := ((((((((Gr.refl w).alloc _ _).trans hb2').setCell (a := ⟨w.heap.size, 0, none⟩) (Nat.le_refl _) (.int .i64 0)).setCell (a := ⟨w.heap.size, 1, none⟩) (Nat.le_refl _) (.int .i64 0)).setCell (a := ⟨w.heap.size, 2, none⟩) (Nat.le_refl _) (.int .i64 0)).setCell (a := ⟨w.heap.size + 1, 0, none⟩) (Nat.le_succ _) (.int .i64 0)).setCell (a := ⟨w.heap.size + 1, 1, none⟩) (Nat.le_succ _) (.int .i64 0)).setCell (a := ⟨w.heap.size + 1, 2, none⟩) (Nat.le_succ _) (.int .i64 0)
  clear BX
  generalize World.setCell _ _ _ = W at *
  exact bodyPost_ret (v := .tuple #[.agg #[.int .i64 0, .int .i64 0, .int .i64 0], .agg #[.int .i64 0, .int .i64 0, .int .i64 0], .int .i64 2]) (by simp [results, Tryz.results27, go_sem, hB.b0, hB.b1, hB.b2, hB.c0, hB.c1, hB.c2]) rfl ⟨rfl, hw⟩
end Go.Proofs.YtafpdiikhhikeaaGreatDoor
