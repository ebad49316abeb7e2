/- What iso.ISO and iso.FromISO return. -/
import Derived.Test.YtcgcdolafooffaaIsoFn
import Derived.Deep.RegionHeld3
namespace Go.Proofs.Ytcgcdolafooffaa.Iso
open Go.RowKit

theorem mon_eq (n : Int) : wn 1 n = mon n := by unfold wn mon dby yr; rw [show n - 1 - (w1 (wy 1 n) 1 - 1) = n - w1 (wy 1 n) 1 by omega]
theorem since1 (n : Int) : (n - 1) % 7 + 1 = dom n := by have := dby_mod (yr n); unfold dom; omega
set_option maxHeartbeats 1000000 in
theorem date_no (n : Int) (w : World) (h : Cal.dayB n = false) :
    Calls Try.prog 9 #[.int .i64 n] w fun e w' => e = .returned (.tuple #[.agg #[.int .i64 0, .int .i64 0, .int .i64 0], .int .i64 2]) ∧ Gr w w' := by
  have H := Lib.hid h; clear h
  go_enter Try.func9, Try.ntmps9
  go_wp2_with fail
  refine (week_no _ _ _ H.out).mono ?_
  rintro e w1 ⟨rfl, hb⟩
  obtain ⟨c0, c1, c2⟩ := box3 hb
  have f0 := box_free hb 0
  have f1 := box_free hb 1
  have f2 := box_free hb 2
  go_wp2
  obtain ⟨c0, c1, c2⟩ := box_set3 c0 c1 c2 (.int .i64 0) (.int .i64 0) (.int .i64 0)
  have hg := gr_set3 hb (.int .i64 0) (.int .i64 0) (.int .i64 0)
  generalize World.setCell _ _ _ = W at *
  exact bodyPost_ret (v := .tuple #[.agg #[.int .i64 0, .int .i64 0, .int .i64 0], .int .i64 2]) (by simp [results, Try.results9, go_sem, c0, c1, c2]) rfl ⟨rfl, hg⟩
set_option maxHeartbeats 1000000 in
theorem date_yes (n : Int) (w : World) (h : Cal.dayB n = true) :
    Calls Try.prog 9 #[.int .i64 n] w fun e w' => e = .returned (.tuple #[.agg #[.int .i64 (yr n), .int .i64 (mon n), .int .i64 (dom n)], .int .i64 0]) ∧ Gr w w' := by
  have HM := Lib.hid (mon_eq n)
  have HY : Hid (wy 1 n = yr n) := rfl
  have HD := Lib.hid (since1 n)
  have b1 : 0 ≤ (n - 1) % 7 := by omega
  have b2 : (n - 1) % 7 ≤ 6 := by omega
  have H := Lib.hid h; clear h
  go_enter Try.func9, Try.ntmps9
  go_wp2_with fail
  refine (week_yes _ _ _ H.out (by decide)).mono ?_
  rintro e w1 ⟨rfl, hb⟩
  obtain ⟨c0, c1, c2⟩ := box3 hb
  have f0 := box_free hb 0
  have f1 := box_free hb 1
  have f2 := box_free hb 2
  rw [HM.out, HY.out]
  go_wp2_with fail
  refine (since_any _ _ _ (by omega) (by omega)).mono ?_
  rintro e w' ⟨rfl, rfl⟩
  go_wp2
  rw [HD.out]
  obtain ⟨c0, c1, c2⟩ := box_set3 c0 c1 c2 (.int .i64 (yr n)) (.int .i64 (mon n)) (.int .i64 (dom n))
  have hg := gr_set3 hb (.int .i64 (yr n)) (.int .i64 (mon n)) (.int .i64 (dom n))
  generalize World.setCell _ _ _ = W at *
  exact bodyPost_ret (v := .tuple #[.agg #[.int .i64 (yr n), .int .i64 (mon n), .int .i64 (dom n)], .int .i64 0]) (by simp [results, Try.results9, go_sem, c0, c1, c2]) rfl ⟨rfl, hg⟩

end Go.Proofs.Ytcgcdolafooffaa.Iso
