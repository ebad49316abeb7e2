/- What recur.Formed returns, where the single fields are right. -/
import Derived.Test.YtmbmkldcedkbmaaGreatZRcForm
import Derived.Test.YtmbmkldcedkbmaaGreatZI
namespace Go.Proofs.YtmbmkldcedkbmaaGreat
open Go.RowKit

namespace Rm
/- the first k lists of numbers -/
def fLs (r : Ru) : Nat → Bool
  | 0 => true
  | k + 1 => fLs r k && fine k (r.ls k)
theorem fLs_mono (r : Ru) {k m : Nat} (h : k ≤ m) (hf : fLs r k = false) : fLs r m = false := by
  obtain ⟨d, rfl⟩ := Nat.exists_eq_add_of_le h
  clear h
  induction d with
  | zero => exact hf
  | succ d ih =>
    show (fLs r (k + d) && _) = false
    rw [ih]
    rfl
theorem endB_fmU (r : Ru) (hc : 0 ≤ r.cnt) (hc' : r.cnt ≤ 1000) : endB r = fmU r := by
  unfold endB fmU
  rw [decide_eq_true hc, decide_eq_true hc']
  split
  · rfl
  · simp only [← Bool.and_assoc, Bool.true_and]
    rfl
theorem endB_cnt (r : Ru) (h : endB r = true) : 0 ≤ r.cnt ∧ r.cnt ≤ 1000 := by
  unfold endB at h
  split at h
  · rw [Bool.and_eq_true, Bool.and_eq_true, decide_eq_true_eq] at h
    omega
  · rw [Bool.and_eq_true, Bool.and_eq_true, decide_eq_true_eq, decide_eq_true_eq] at h
    exact h.1
theorem fmU_cnt (r : Ru) (h : fmU r = true) (hh : r.has = true) : r.cnt = 0 := by
  unfold fmU at h
  rw [if_pos hh, Bool.and_eq_true, Bool.and_eq_true, decide_eq_true_eq] at h
  exact h.1.1
/- the order in which recur.Formed asks -/
theorem fm_eq (r : Ru) : fm r = ((decide (1 ≤ r.freq) && decide (r.freq ≤ 4)) && (decide (1 ≤ r.ivl) && decide (r.ivl ≤ 1000)) && (decide (0 ≤ r.st) && decide (r.st ≤ 6)) && endB r && fLs r 8 && fineD r.day && fmX r) := by
  by_cases hc : 0 ≤ r.cnt ∧ r.cnt ≤ 1000
  · rw [endB_fmU r hc.1 hc.2]
    unfold fm fm1 fmL
    rw [decide_eq_true hc.1, decide_eq_true hc.2]
    simp only [fLs, Ru.ls, Bool.true_and, Bool.and_true]
    generalize fine 0 r.sec = a0
    generalize fine 1 r.min = a1
    generalize fine 2 r.hour = a2
    generalize fine 3 r.mday = a3
    generalize fine 4 r.yday = a4
    generalize fine 5 r.week = a5
    generalize fine 6 r.month = a6
    generalize fine 7 r.pos = a7
    generalize fineD r.day = a8
    ac_rfl
  · have h1 : fm1 r = false := by
      cases h : fm1 r
      · rfl
      · refine absurd ?_ hc
        unfold fm1 at h
        simp only [Bool.and_eq_true, decide_eq_true_eq] at h
        omega
    have h2 : endB r = false := by
      cases h : endB r
      · rfl
      · exact absurd (endB_cnt r h) hc
    unfold fm
    rw [h1, h2]
    simp
theorem fine_len {i : Nat} {l : List Int} (h : fine i l = true) : l.length ≤ 40 := (fine_iff.1 h).1
theorem fineD_len {l : List (Int × Int)} (h : fineD l = true) : l.length ≤ 40 := (fineD_iff.1 h).1
theorem fLs_at (r : Ru) : ∀ {k i : Nat}, i < k → fLs r k = true → fine i (r.ls i) = true
  | k + 1, i, h, hf => by
    have hf' : (fLs r k && fine k (r.ls k)) = true := hf
    rw [Bool.and_eq_true] at hf'
    rcases Nat.lt_or_eq_of_le (Nat.le_of_lt_succ h) with h1 | rfl
    · exact fLs_at r h1 hf'.1
    · exact hf'.2
end Rm
set_option maxRecDepth 100000 in
set_option maxHeartbeats 8000000 in
theorem formed_main (V : Rm.Rv) (w : World) (hM : RuM w w.heap.size V) (hF : (decide (1 ≤ V.r.freq) && decide (V.r.freq ≤ 4)) = true) (hI : (decide (1 ≤ V.r.ivl) && decide (V.r.ivl ≤ 1000)) = true)
    (hS : (decide (0 ≤ V.r.st) && decide (V.r.st ≤ 6)) = true) (hE : Rm.endB V.r = true)
    (cA : (Rm.fLs V.r 8 && Rm.fineD V.r.day) = true → ∀ w', Gr w w' → Calls Tryz.prog 68 #[.agg V.val] w' fun e w'' => e = .returned (.bool (Rm.fmX V.r)) ∧ Gr w' w'') :
    Calls Tryz.prog 33 #[.agg V.val] w fun e w' => e = .returned (.bool (Rm.fm V.r)) ∧ Gr w w' := by
  have hbx := RBx.now w V 27
  have hg0 : Gr w (w.alloc (.cells V.val 27)) := (Gr.refl w).allocO _
  have cE := fun w' => formedEnd_any V w' hM.z
  have HM := Lib.hid hM
  clear hM
  obtain ⟨q, hq⟩ : ∃ q, Rm.fm V.r = q := ⟨_, rfl⟩
  rw [hq]
  rw [Rm.fm_eq, hF, hI, hS, hE] at hq
  rw [hE] at cE
  have HQ := Lib.hid hq
  have HF := Lib.hid hF
  have HI := Lib.hid hI
  have HS := Lib.hid hS
  have HA := Lib.hid cA
  clear hq hF hI hS hE cA
  have HB := Lib.hid hbx
  obtain ⟨e0, e1, e2, e3, e4, e5, e6, e7, e8, e9, e10, e11, e12, e13, e14, e15, e16⟩ := hbx
  dsimp only [Rm.Rv.val] at *
  go_enter Tryz.func33, Tryz.ntmps33
  go_upto_region 1 with fail
  go_upto_region 3 with (first | (go_at_call 61; refine (within_any _ _ _ _).mono ?_; rintro e w' ⟨rfl, rfl⟩; first | rw [HF.out] | rw [HI.out] | rw [HS.out]) | (go_at_call 62; refine (cE _).mono ?_; rintro e w1 ⟨rfl, hg1⟩; have hgw := hg0.trans hg1; have hbx1 := HB.out.gr hg1))
  clear e0 e1 e2 e3 e4 e5 e6 e7 e8 e9 e10 e11 e12 e13 e14 e15 e16 cE hg1
  go_upto_region 4 with (go_at_call 63; refine (numberLists_any _ _).mono ?_; rintro e w2 ⟨rfl, hg2⟩; have hgw := hgw.trans hg2; have hbx1 := hbx1.gr hg2)
  clear hg2
  go_loopg [27] 8 (fun g v wx => ∃ k : Nat, v = .int .i64 (k : Int) ∧ k + g = 8 ∧ Gr w wx ∧ RBx wx w.heap.size V ∧ Hid (Rm.fLs V.r k = true))
  case atStart => exact ⟨0, rfl, rfl, by assumption, by assumption, Lib.hid rfl⟩
  case round =>
    obtain ⟨k, rfl, hkg, hg, hb, HK⟩ := hrel
    have HG := Lib.hid hkg
    clear hkg hgw hbx1
    by_cases hk : k < 8
    · have hix := nl_ix wr w.heap.size k hk
      have hkn : (k : Int) < 8 := by omega
      have hga : Gr wr (wr.alloc (.cells #[.string ⟨(Rm.nmL k).toArray⟩, .pointer (some ⟨w.heap.size, Rm.off k, none⟩), .int .i64 (Rm.lo k), .int .i64 (Rm.hi k)] 99)) := (Gr.refl wr).allocO _
      have cN := fun w' (h : Gr wr w') => nformed_any w.heap.size k V w' hk (hb.gr h) ((HM.out.gr hg).gr h)
      rcases hf : Rm.fine k (V.r.ls k)
      · have HR : Hid (q = false) := Lib.hid (by
          rw [← HQ.out, Rm.fLs_mono V.r (k := k + 1) (by omega) (by show (Rm.fLs V.r k && _) = false; rw [hf, Bool.and_false])]; simp)
        rw [hf] at cN
        clear hf
        go_wp2_with (go_at_call 64; refine (cN _ hga).mono ?_; rintro e w3 ⟨rfl, hg3⟩)
        go_ret
        exact ⟨ret_bool HR.out.symm, (hg.trans hga).trans hg3⟩
      · have HR : Hid (Rm.fLs V.r (k + 1) = true) := Lib.hid (by show (Rm.fLs V.r k && _) = true; rw [hf, HK.out]; rfl)
        rw [hf] at cN
        clear hf
        go_wp2_with (go_at_call 64; refine (cN _ hga).mono ?_; rintro e w3 ⟨rfl, hg3⟩)
        go_roundg (8 - (k + 1))
        case measure => have := HG.out; omega
        case rel => exact ⟨k + 1, by go_num, by omega, (hg.trans hga).trans hg3, (hb.gr hga).gr hg3, HR⟩
    · obtain rfl : k = 8 := by have := HG.out; omega
      have cD := fun w' (h : Gr wr w') => formedD_any V.day.A V.day.n V.day.c V.r.day w' ((HM.out.gr hg).gr h).d
      rw [HK.out] at HQ
      have HB := Lib.hid hb
      rcases hd : Rm.fineD V.r.day
      · have HR : Hid (q = false) := Lib.hid (by rw [← HQ.out, hd]; simp)
        have e11 := hb.c11
        rw [hd] at cD
        clear hd hb
        go_wp2_with (go_at_call 65; refine (cD _ (Gr.refl _)).mono ?_; rintro e w3 ⟨rfl, hg3⟩)
        go_ret
        exact ⟨ret_bool HR.out.symm, hg.trans hg3⟩
      · have HR : Hid (Rm.fmX V.r = q) := Lib.hid (by rw [← HQ.out, hd]; simp)
        have cA := HA.out (by rw [HK.out, hd]; rfl)
        rw [HR.out] at cA
        rw [hd] at cD
        have e11 := hb.c11
        clear hd hb
        go_wp2_with (first | (go_at_call 65; refine (cD _ (Gr.refl _)).mono ?_; rintro e w3 ⟨rfl, hg3⟩; have hgx := hg.trans hg3; obtain ⟨e0, e1, e2, e3, e4, e5, e6, e7, e8, e9, e10, e11, e12, e13, e14, e15, e16⟩ := HB.out.gr hg3) | (go_at_call 68; refine (cA _ hgx).mono ?_; rintro e w4 ⟨rfl, hg4⟩))
        go_ret
        exact ⟨rfl, hgx.trans hg4⟩
end Go.Proofs.YtmbmkldcedkbmaaGreat
