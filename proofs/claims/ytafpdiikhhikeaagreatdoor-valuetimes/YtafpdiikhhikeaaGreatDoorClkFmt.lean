/- What clock.Format and clock.FormatDate return. -/
import Derived.Test.YtafpdiikhhikeaaGreatDoorClkDig
import Derived.Test.YtafpdiikhhikeaaGreatDoorClkOf
import Derived.Deep.RegionHeld3
namespace Go.Proofs.YtafpdiikhhikeaaGreatDoor
open Go.RowKit

namespace Clk
def dateTxt (n : Int) : List UInt8 := Txt.dig (num8 (Cal.yr n) (Cal.mon n) (Cal.dom n)) 8
def timeTxt (a : Int) : List UInt8 := Txt.dig (num8 (a % 86400 / 3600) (a % 3600 / 60) (a % 60)) 6
def secTxt (a : Int) : List UInt8 := dateTxt (a / 86400) ++ [84] ++ timeTxt a
theorem dateTxt_length (n : Int) : (dateTxt n).length = 8 := Txt.dig_length _ _
theorem timeTxt_length (n : Int) : (timeTxt n).length = 6 := Txt.dig_length _ _
theorem date_bd {n : Int} (h : Cal.dayB n = true) : 1 ≤ Cal.yr n ∧ Cal.yr n ≤ 9999 ∧ 1 ≤ Cal.mon n ∧ Cal.mon n ≤ 12 ∧ 1 ≤ Cal.dom n ∧ Cal.dom n ≤ 31 := by
  obtain ⟨n1, n2⟩ := Cal.dayB_iff.1 h
  have yb := Cal.yr_bd n1 n2
  have ok := (Cal.date_spec h).1
  obtain ⟨m1, m2⟩ := Cal.okB_month ok
  obtain ⟨y1, y2, d1, d2⟩ := Cal.okB_iff.1 ok
  have hd := (Cal.dim_bd (Cal.yr n) (Cal.mon n)).2
  exact ⟨yb.1, yb.2, m1, m2, d1, by omega⟩
theorem num8_lt {y m d : Int} {k : Nat} (y1 : y ≤ k) (m1 : m < 100) (d1 : d < 100) : num8 y m d < 10000 * (k + 1) := by unfold num8; omega
end Clk

set_option maxHeartbeats 1000000 in
theorem written_any (y m d : Int) (w : World) (ht : Tab w) (y0 : 0 ≤ y) (y1 : y ≤ 9999) (m0 : 0 ≤ m) (m1 : m < 100) (d0 : 0 ≤ d) (d1 : d < 100) :
    Calls Tryz.prog 26 #[.agg #[.int .i64 y, .int .i64 m, .int .i64 d]] w fun e w' => e = .returned (.string ⟨(Txt.dig (Clk.num8 y m d) 8).toArray⟩) ∧ Gr w w' := by
  have ht' := ht.keep ((Gr.refl w).alloc #[.int .i64 y, .int .i64 m, .int .i64 d] 45)
  have hk := Clk.num8_lt (k := 9999) y1 m1 d1
  go_enter Tryz.func26, Tryz.ntmps26
  go_wp2_with fail
  refine (digits_any _ _ _ 7 _ ht' y0 y1 m0 m1 d0 d1 hk (by omega)).mono ?_
  rintro e w1 ⟨rfl, hb⟩
  go_wp2
  go_ret
  exact ⟨rfl, ((Gr.refl w).alloc _ _).trans hb⟩
theorem time_bd (a : Int) : 0 ≤ a % 86400 / 3600 ∧ a % 86400 / 3600 ≤ 23 ∧ 0 ≤ a % 3600 / 60 ∧ a % 3600 / 60 < 60 ∧ 0 ≤ a % 60 ∧ a % 60 < 60 := by omega
set_option maxRecDepth 8000 in
set_option maxHeartbeats 1000000 in
theorem format_yes (a : Int) (w : World) (ht : Tab w) (h : Clk.okB a = true) :
    Calls Tryz.prog 13 #[.int .i64 a] w fun e w' => e = .returned (.tuple #[.string ⟨(Clk.secTxt a).toArray⟩, .int .i64 0]) ∧ Gr w w' := by
  obtain ⟨y0, y1, m0, m1, d0, d1⟩ := Clk.date_bd (Clk.okB_day h)
  obtain ⟨h0, h1, i0, i1, s0, s1⟩ := time_bd a
  have hk : Clk.num8 (a % 86400 / 3600) (a % 3600 / 60) (a % 60) < 10 ^ (5 + 1) := Nat.lt_of_lt_of_le (Clk.num8_lt (k := 23) h1 (m := a % 3600 / 60) (d := a % 60) (by omega) (by omega)) (by decide)
  have l8 := Txt.dig_length 8 (Clk.num8 (Cal.yr (a / 86400)) (Cal.mon (a / 86400)) (Cal.dom (a / 86400)))
  have l6 := Txt.dig_length 6 (Clk.num8 (a % 86400 / 3600) (a % 3600 / 60) (a % 60))
  have H := Lib.hid h; clear h
  go_enter Tryz.func13, Tryz.ntmps13
  go_wp2_with fail
  refine (cparts_yes _ _ H.out).mono ?_
  rintro e w1 ⟨rfl, hb⟩
  go_wp2_with fail
  have q1 := Gr.alloc (Gr.refl (w1.alloc (.cells #[.int .i64 (Cal.yr (a / 86400)), .int .i64 (Cal.mon (a / 86400)), .int .i64 (Cal.dom (a / 86400))] 45))) #[.int .i64 (a % 86400 / 3600), .int .i64 (a % 3600 / 60), .int .i64 (a % 60)] 49
  obtain ⟨c0, c1, c2⟩ := box3 q1
  obtain ⟨p0, p1, p2⟩ := box3 (Gr.refl ((w1.alloc (.cells #[.int .i64 (Cal.yr (a / 86400)), .int .i64 (Cal.mon (a / 86400)), .int .i64 (Cal.dom (a / 86400))] 45)).alloc (.cells #[.int .i64 (a % 86400 / 3600), .int .i64 (a % 3600 / 60), .int .i64 (a % 60)] 49)))
  have hz : ∀ o, (w1.alloc o).heap.size = w1.heap.size + 1 := fun o => by simp
  have hz2 : ∀ o p, ((w1.alloc o).alloc p).heap.size = w1.heap.size + 2 := fun o p => by simp
  rw [hz] at p0 p1 p2
  have hw2 := hz2 (.cells #[.int .i64 (Cal.yr (a / 86400)), .int .i64 (Cal.mon (a / 86400)), .int .i64 (Cal.dom (a / 86400))] 45) (.cells #[.int .i64 (a % 86400 / 3600), .int .i64 (a % 3600 / 60), .int .i64 (a % 60)] 49)
  have g2 := hb.trans (((Gr.refl w1).alloc _ _).trans q1)
  clear q1 hz hz2 hb
  generalize (w1.alloc (.cells #[.int .i64 (Cal.yr (a / 86400)), .int .i64 (Cal.mon (a / 86400)), .int .i64 (Cal.dom (a / 86400))] 45)).alloc (.cells #[.int .i64 (a % 86400 / 3600), .int .i64 (a % 3600 / 60), .int .i64 (a % 60)] 49) = w2 at *
  have t2 := ht.keep g2
  go_region_held3 (fun w' => w'.cell? ⟨w1.heap.size, 0, none⟩ = some (.int .i64 (Cal.yr (a / 86400))) ∧ w'.cell? ⟨w1.heap.size, 1, none⟩ = some (.int .i64 (Cal.mon (a / 86400))) ∧ w'.cell? ⟨w1.heap.size, 2, none⟩ = some (.int .i64 (Cal.dom (a / 86400))) ∧ w'.cell? ⟨w1.heap.size + 1, 0, none⟩ = some (.int .i64 (a % 86400 / 3600)) ∧ w'.cell? ⟨w1.heap.size + 1, 1, none⟩ = some (.int .i64 (a % 3600 / 60)) ∧ w'.cell? ⟨w1.heap.size + 1, 2, none⟩ = some (.int .i64 (a % 60)))
    (first | exact ⟨c0, c1, c2, p0, p1, p2⟩ | exact ⟨e0, e1, e2, r0, r1, r2⟩ | exact ⟨f0, f1, f2, u0, u1, u2⟩)
    (first | (go_at_call 26; refine (written_any _ _ _ _ (by exact t2) (by omega) y1 (by omega) (by omega) (by omega) (by omega)).mono ?_; rintro e w3 ⟨rfl, hb3⟩; have e0 := hb3.keeps (b := w1.heap.size) (show _ < w2.heap.size by omega) c0; have e1 := hb3.keeps (b := w1.heap.size) (show _ < w2.heap.size by omega) c1; have e2 := hb3.keeps (b := w1.heap.size) (show _ < w2.heap.size by omega) c2; have r0 := hb3.keeps (b := w1.heap.size + 1) (show _ < w2.heap.size by omega) p0; have r1 := hb3.keeps (b := w1.heap.size + 1) (show _ < w2.heap.size by omega) p1; have r2 := hb3.keeps (b := w1.heap.size + 1) (show _ < w2.heap.size by omega) p2; have t3 := Tab.keep (w' := w3) (by exact t2) hb3; have z3 : w2.heap.size ≤ w3.heap.size := hb3.lt) | (go_at_call 28; refine (digits_any _ _ _ 5 _ (by exact t3) h0 (by omega) i0 (by omega) s0 (by omega) hk (by omega)).mono ?_; rintro e w4 ⟨rfl, hb4⟩; have f0 := hb4.keeps (b := w1.heap.size) (show _ < w3.heap.size by omega) e0; have f1 := hb4.keeps (b := w1.heap.size) (show _ < w3.heap.size by omega) e1; have f2 := hb4.keeps (b := w1.heap.size) (show _ < w3.heap.size by omega) e2; have u0 := hb4.keeps (b := w1.heap.size + 1) (show _ < w3.heap.size by omega) r0; have u1 := hb4.keeps (b := w1.heap.size + 1) (show _ < w3.heap.size by omega) r1; have u2 := hb4.keeps (b := w1.heap.size + 1) (show _ < w3.heap.size by omega) r2))
  go_wp2
  go_ret2
  refine ⟨?_, (g2.drew.trans hb3).trans hb4⟩
  rw [Clk.secTxt, ← cat, ← cat]
  rfl
set_option maxHeartbeats 1000000 in
theorem format_no (a : Int) (w : World) (h : Clk.okB a = false) :
    Calls Tryz.prog 13 #[.int .i64 a] w fun e w' => e = .returned (.tuple #[.string ⟨#[]⟩, .int .i64 2]) ∧ Gr w w' := by
  have H := Lib.hid h; clear h
  go_enter Tryz.func13, Tryz.ntmps13
  go_wp2_with fail
  refine (cparts_no _ _ H.out).mono ?_
  rintro e w1 ⟨rfl, hb⟩
  go_wp2
  go_ret2
  exact ⟨rfl, (hb.alloc _ _).alloc _ _⟩
set_option maxHeartbeats 1000000 in
theorem formatDate_yes (n : Int) (w : World) (ht : Tab w) (h : Cal.dayB n = true) :
    Calls Tryz.prog 11 #[.int .i64 n] w fun e w' => e = .returned (.tuple #[.string ⟨(Clk.dateTxt n).toArray⟩, .int .i64 0]) ∧ Gr w w' := by
  obtain ⟨y0, y1, m0, m1, d0, d1⟩ := Clk.date_bd h
  have H := Lib.hid h; clear h
  go_enter Tryz.func11, Tryz.ntmps11
  go_wp2_with fail
  refine (date_yes _ _ H.out).mono ?_
  rintro e w1 ⟨rfl, hb⟩
  go_wp2_with fail
  have t1 := ht.keep (hb.alloc #[.int .i64 (Cal.yr n), .int .i64 (Cal.mon n), .int .i64 (Cal.dom n)] 45)
  refine (written_any _ _ _ _ (by exact t1) (by omega) y1 (by omega) (by omega) (by omega) (by omega)).mono ?_
  rintro e w2 ⟨rfl, hb2⟩
  go_wp2
  go_ret2
  exact ⟨rfl, (hb.alloc _ _).trans hb2⟩
set_option maxHeartbeats 1000000 in
theorem formatDate_no (n : Int) (w : World) (h : Cal.dayB n = false) :
    Calls Tryz.prog 11 #[.int .i64 n] w fun e w' => e = .returned (.tuple #[.string ⟨#[]⟩, .int .i64 2]) ∧ Gr w w' := by
  have H := Lib.hid h; clear h
  go_enter Tryz.func11, Tryz.ntmps11
  go_wp2_with fail
  refine (date_no _ _ H.out).mono ?_
  rintro e w1 ⟨rfl, hb⟩
  go_wp2
  go_ret2
  exact ⟨rfl, hb.alloc _ _⟩
end Go.Proofs.YtafpdiikhhikeaaGreatDoor
