/- The texts RcAgr, RcFmN, RcFm, one behind the other. -/
import Derived.Test.YtmbmkldcedkbmaaGreatZRcAgrA
import Derived.Test.YtmbmkldcedkbmaaGreatZRcAgrB
import Derived.Test.YtmbmkldcedkbmaaGreatZRcAgrC
import Derived.Test.YtmbmkldcedkbmaaGreatZRcAgrD
import Derived.Test.YtmbmkldcedkbmaaGreatZRcAgrF
import Derived.Test.YtmbmkldcedkbmaaGreatZRcFmM
namespace Go.Proofs.YtmbmkldcedkbmaaGreat
open Go.RowKit

theorem agree_any (V : Rm.Rv) (w : World) (hM : RuM w w.heap.size V) (hn : V.day.n ≤ 40 ∧ V.yday.n ≤ 40 ∧ V.week.n ≤ 40 ∧ V.mday.n ≤ 40 ∧ V.pos.n ≤ 40) :
    Calls Tryz.prog 68 #[.agg V.val] w fun e w' => e = .returned (.bool (Rm.fmX V.r)) ∧ Gr w w' := by
  by_cases h4 : V.r.freq = 4
  · by_cases hw : V.week.n = 0
    · exact agree_a V w hM hn h4 hw
    · exact agree_b V w hM hn h4 hw
  · by_cases hyw : V.yday.n = 0 ∧ V.week.n = 0
    · by_cases h3 : V.r.freq = 3
      · exact agree_c V w hM hn h3 hyw.1 hyw.2
      · by_cases h2 : V.r.freq = 2
        · by_cases hm : V.mday.n = 0
          · exact agree_d V w hM hn h2 hyw.1 hyw.2 hm
          · exact agree_e V w hM hn h2 hyw.1 hyw.2 hm
        · exact agree_f V w hM hn h2 h3 h4 hyw.1 hyw.2
    · exact agree_g V w hM hn h4 hyw
end Go.Proofs.YtmbmkldcedkbmaaGreat
namespace Go.Proofs.YtmbmkldcedkbmaaGreat
open Go.RowKit

set_option maxRecDepth 100000 in
set_option maxHeartbeats 8000000 in
theorem formed_no (V : Rm.Rv) (w : World) (hM : RuM w w.heap.size V) (hno : ((decide (1 ≤ V.r.freq) && decide (V.r.freq ≤ 4)) && (decide (1 ≤ V.r.ivl) && decide (V.r.ivl ≤ 1000)) && (decide (0 ≤ V.r.st) && decide (V.r.st ≤ 6)) && Rm.endB V.r) = false) :
    Calls Tryz.prog 33 #[.agg V.val] w fun e w' => e = .returned (.bool (Rm.fm V.r)) ∧ Gr w w' := by
  have HN := Lib.hid hno
  clear hno
  have hbx := RBx.now w V 27
  have hg0 : Gr w (w.alloc (.cells V.val 27)) := (Gr.refl w).allocO _
  have cE := fun w' => formedEnd_any V w' hM.z
  have HM := Lib.hid hM
  clear hM
  obtain ⟨q, hq⟩ : ∃ q, Rm.fm V.r = q := ⟨_, rfl⟩
  rw [hq]
  rw [Rm.fm_eq] at hq
  have HQ := Lib.hid hq
  clear hq
  obtain ⟨e0, e1, e2, e3, e4, e5, e6, e7, e8, e9, e10, e11, e12, e13, e14, e15, e16⟩ := RBx.now w V 27
  dsimp only [Rm.Rv.val] at *
  rcases hF : (decide (1 ≤ V.r.freq) && decide (V.r.freq ≤ 4))
  · have HQ : Hid (q = false) := Lib.hid (by rw [← HQ.out, hF]; simp)
    have HF := Lib.hid hF
    clear hF HM
    clear cE
    go_enter Tryz.func33, Tryz.ntmps33
    go_upto_region 1 with fail
    go_wp2_with (go_at_call 61; refine (within_any _ _ _ _).mono ?_; rintro e w' ⟨rfl, rfl⟩; first | rw [HF.out])
    go_ret
    exact ⟨ret_bool HQ.out.symm, hg0⟩
  · have HF := Lib.hid hF
    rw [hF] at HQ
    clear hF
    rcases hI : (decide (1 ≤ V.r.ivl) && decide (V.r.ivl ≤ 1000))
    · have HQ : Hid (q = false) := Lib.hid (by rw [← HQ.out, hI]; simp)
      have HI := Lib.hid hI
      clear hI HM
      clear cE
      go_enter Tryz.func33, Tryz.ntmps33
      go_upto_region 1 with fail
      go_wp2_with (go_at_call 61; refine (within_any _ _ _ _).mono ?_; rintro e w' ⟨rfl, rfl⟩; first | rw [HF.out] | rw [HI.out])
      go_ret
      exact ⟨ret_bool HQ.out.symm, hg0⟩
    · have HI := Lib.hid hI
      rw [hI] at HQ
      clear hI
      rcases hS : (decide (0 ≤ V.r.st) && decide (V.r.st ≤ 6))
      · have HQ : Hid (q = false) := Lib.hid (by rw [← HQ.out, hS]; simp)
        have HS := Lib.hid hS
        clear hS HM
        clear cE
        go_enter Tryz.func33, Tryz.ntmps33
        go_upto_region 1 with fail
        go_wp2_with (go_at_call 61; refine (within_any _ _ _ _).mono ?_; rintro e w' ⟨rfl, rfl⟩; first | rw [HF.out] | rw [HI.out] | rw [HS.out])
        go_ret
        exact ⟨ret_bool HQ.out.symm, hg0⟩
      · have HS := Lib.hid hS
        rw [hS] at HQ
        clear hS
        rcases hE : Rm.endB V.r
        · have HQ : Hid (q = false) := Lib.hid (by rw [← HQ.out, hE]; simp)
          rw [hE] at cE
          have HE := Lib.hid hE
          clear hE HM
          go_enter Tryz.func33, Tryz.ntmps33
          go_upto_region 1 with fail
          go_wp2_with (first | (go_at_call 61; refine (within_any _ _ _ _).mono ?_; rintro e w' ⟨rfl, rfl⟩; first | rw [HF.out] | rw [HI.out] | rw [HS.out]) | (go_at_call 62; refine (cE _).mono ?_; rintro e w1 ⟨rfl, hg1⟩; have hg0 := hg0.trans hg1))
          go_ret
          exact ⟨ret_bool HQ.out.symm, hg0⟩
        · exact absurd HN.out (by rw [HF.out, HI.out, HS.out, hE]; decide)
end Go.Proofs.YtmbmkldcedkbmaaGreat
namespace Go.Proofs.YtmbmkldcedkbmaaGreat
open Go.RowKit

theorem formed_any (V : Rm.Rv) (w : World) (hM : RuM w w.heap.size V) :
    Calls Tryz.prog 33 #[.agg V.val] w fun e w' => e = .returned (.bool (Rm.fm V.r)) ∧ Gr w w' := by
  cases h : ((decide (1 ≤ V.r.freq) && decide (V.r.freq ≤ 4)) && (decide (1 ≤ V.r.ivl) && decide (V.r.ivl ≤ 1000)) && (decide (0 ≤ V.r.st) && decide (V.r.st ≤ 6)) && Rm.endB V.r)
  · exact formed_no V w hM h
  · simp only [Bool.and_eq_true, decide_eq_true_eq] at h
    obtain ⟨⟨⟨⟨h1, h2⟩, h3, h4⟩, h5, h6⟩, hE⟩ := h
    refine formed_main V w hM (by rw [decide_eq_true h1, decide_eq_true h2]; rfl) (by rw [decide_eq_true h3, decide_eq_true h4]; rfl) (by rw [decide_eq_true h5, decide_eq_true h6]; rfl) hE (fun hf w' hg => ?_)
    rw [Bool.and_eq_true] at hf
    have hl : ∀ i, i < 8 → (V.sl i).n ≤ 40 := fun i hi => by
      have := Rm.fine_len (Rm.fLs_at V.r hi hf.1)
      rwa [(hM.l i hi).1] at this
    have hd := Rm.fineD_len hf.2
    rw [hM.d.1] at hd
    exact agree_any V w' (hM.gr hg) ⟨hd, hl 4 (by omega), hl 5 (by omega), hl 3 (by omega), hl 7 (by omega)⟩
end Go.Proofs.YtmbmkldcedkbmaaGreat
