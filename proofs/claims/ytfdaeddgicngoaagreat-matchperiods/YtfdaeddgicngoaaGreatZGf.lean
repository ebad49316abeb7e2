/- The texts MwLaw, MwAll, one behind the other. -/
import Derived.Test.YtfdaeddgicngoaaGreatZMtFits
import Derived.Test.YtfdaeddgicngoaaGreatZGh
import Derived.Test.YtfdaeddgicngoaaGreatZRfForm
import Derived.Test.YtfdaeddgicngoaaGreatZRcFew
import Derived.Test.YtfdaeddgicngoaaGreatZE
namespace Go.Proofs.YtfdaeddgicngoaaGreat
open Go.RowKit

namespace Mc
/- 'FREQ=DAILY', which is what awake asks with -/
def Vaw : Rm.Rv := ⟨⟨1, 1, 0, 0, 0, [], false, 0, [], [], [], [], [], [], [], [], []⟩, ⟨#[]⟩, ⟨none, 0, 0⟩, ⟨none, 0, 0⟩, ⟨none, 0, 0⟩, ⟨none, 0, 0⟩, ⟨none, 0, 0⟩, ⟨none, 0, 0⟩, ⟨none, 0, 0⟩, ⟨none, 0, 0⟩, ⟨none, 0, 0⟩⟩
theorem Vaw_fm : Rm.fm Vaw.r = true := by decide
theorem Vaw_fits : fits Vaw.r 5 6 = true := by kernel_rfl
end Mc
theorem vaw_mem (w : World) : RuM w w.heap.size Mc.Vaw :=
  ⟨rfl, fun i hi => by
    rcases (show i = 0 ∨ i = 1 ∨ i = 2 ∨ i = 3 ∨ i = 4 ∨ i = 5 ∨ i = 6 ∨ i = 7 by omega) with rfl | rfl | rfl | rfl | rfl | rfl | rfl | rfl <;> exact Nums.nil _ _ _, Pr2.nil _ _ _⟩
theorem vaw_n (i : Nat) (hi : i < 8) : (Mc.Vaw.sl i).n ≤ 140737488355328 := by
  rcases (show i = 0 ∨ i = 1 ∨ i = 2 ∨ i = 3 ∨ i = 4 ∨ i = 5 ∨ i = 6 ∨ i = 7 by omega) with rfl | rfl | rfl | rfl | rfl | rfl | rfl | rfl <;> decide
set_option maxRecDepth 100000 in
set_option maxHeartbeats 2000000 in
theorem awake14_any (w : World) : Calls Tryz.prog 6 #[] w fun e w' => e = .returned (.bool true) ∧ Gr w w' := by
  have c := fits_yes Mc.Vaw 5 6 w (vaw_mem w) (by decide) vaw_n Mc.Vaw_fm (by decide) (by decide)
  rw [Mc.Vaw_fits] at c
  go_enter Tryz.func6, Tryz.ntmps6
  go_wp2_with fail
  refine c.mono ?_
  rintro e w1 ⟨rfl, hg⟩
  go_wp2
  go_ret
  exact ⟨rfl, hg⟩
set_option maxRecDepth 100000 in
set_option maxHeartbeats 2000000 in
theorem wrong_any (V : Rm.Rv) (b n : Int) (w : World) (hM : RuM w w.heap.size V) (hz : V.z.size ≤ 9223372036854775807) (hd : V.day.n ≤ 140737488355328) (hn : ∀ i, i < 8 → (V.sl i).n ≤ 140737488355328) :
    Calls Tryz.prog 9 #[.agg V.val, .int .i64 b, .int .i64 n] w fun e w' => e = .returned (.int .i64 (Mc.bad V.r b n)) ∧ Gr w w' := by
  have HX := Lib.hid (RBx.now w V 27)
  have hg : Gr w (w.alloc (.cells V.val 27)) := (Gr.refl w).allocO _
  have cF := fun w' (g : Gr w w') => rformed_any V w' (hM.gr g) hz hd hn
  have c1 := fun w' => in_any b w'
  have c2 := fun w' => in_any n w'
  have HI : Hid (Mc.bad V.r b n = if Rm.fm V.r = false then 10 else if (Cal.dayB b && Cal.dayB n) = true then 0 else 2) := rfl
  obtain ⟨q, hq⟩ : ∃ q, Mc.bad V.r b n = q := ⟨_, rfl⟩
  rw [hq] at HI ⊢
  clear hq hM hz hd hn
  generalize Rm.fm V.r = f at *
  generalize Cal.dayB b = q1 at *
  generalize Cal.dayB n = q2 at *
  go_enter Tryz.func9, Tryz.ntmps9
  go_upto_region 1 with fail
  generalize w.alloc (.cells V.val 27) = W at *
  go_wp2_with (refine wpList_load_rule rfl _ rfl rfl HX.out ?_)
  refine (cF _ hg).mono ?_
  rintro e w1 ⟨rfl, hg1⟩
  have hg := hg.trans hg1
  clear HX hg1 cF
  rcases f
  · have HE : Hid (10 = q) := Lib.hid (by rw [HI.out]; rfl)
    go_wp2
    go_ret
    exact ⟨ret_int HE.out, hg⟩
  rcases q1
  · have HE : Hid (2 = q) := Lib.hid (by rw [HI.out]; rfl)
    go_wp2_with (go_at_call 19; refine (c1 _).mono ?_; rintro e w2 ⟨rfl, rfl⟩)
    go_ret
    exact ⟨ret_int HE.out, hg⟩
  rcases q2
  · have HE : Hid (2 = q) := Lib.hid (by rw [HI.out]; rfl)
    go_wp2_with (go_at_call 19; first | (refine (c1 _).mono ?_; rintro e w2 ⟨rfl, rfl⟩) | (refine (c2 _).mono ?_; rintro e w2 ⟨rfl, rfl⟩))
    go_ret
    exact ⟨ret_int HE.out, hg⟩
  · have HE : Hid (0 = q) := Lib.hid (by rw [HI.out]; rfl)
    go_wp2_with (go_at_call 19; first | (refine (c1 _).mono ?_; rintro e w2 ⟨rfl, rfl⟩) | (refine (c2 _).mono ?_; rintro e w2 ⟨rfl, rfl⟩))
    go_ret
    exact ⟨ret_int HE.out, hg⟩
end Go.Proofs.YtfdaeddgicngoaaGreat
namespace Go.Proofs.YtfdaeddgicngoaaGreat
open Go.RowKit

namespace Mc
theorem bad_cases (r : Rm.Ru) (b n : Int) : bad r b n = 0 ∨ bad r b n = 2 ∨ bad r b n = 10 := by
  unfold bad
  split
  · exact .inr (.inr rfl)
  · split
    · exact .inl rfl
    · exact .inr (.inl rfl)
theorem bad_0 {r : Rm.Ru} {b n : Int} (h : bad r b n = 0) : Rm.fm r = true ∧ Cal.dayB b = true ∧ Cal.dayB n = true := by
  unfold bad at h
  by_cases c : Rm.fm r = false
  · rw [if_pos c] at h; cases h
  · rw [if_neg c] at h
    by_cases d : (Cal.dayB b && Cal.dayB n) = true
    · rw [Bool.and_eq_true] at d
      exact ⟨by simpa using c, d.1, d.2⟩
    · rw [if_neg d] at h; cases h
theorem bad_fm {r : Rm.Ru} {b n : Int} (h : Rm.fm r = false) : bad r b n = 10 := by unfold bad; rw [if_pos h]
theorem bad_day {r : Rm.Ru} {b n : Int} (h : Rm.fm r = true) (d : (Cal.dayB b && Cal.dayB n) = false) : bad r b n = 2 := by
  unfold bad; rw [if_neg (by rw [h]; decide), if_neg (by rw [d]; decide)]
theorem bad_ok {r : Rm.Ru} {b n : Int} (h : Rm.fm r = true) (d : (Cal.dayB b && Cal.dayB n) = true) : bad r b n = 0 := by
  unfold bad; rw [if_neg (by rw [h]; decide), if_pos d]
end Mc
theorem period_all (V : Rm.Rv) (b n : Int) (w : World) (hM : RuM w w.heap.size V) :
    Calls Tryz.prog 11 #[.agg V.val, .int .i64 b, .int .i64 n] w fun e w' => e = .returned (.tuple #[.int .i64 (if Mc.bad V.r b n = 0 then Mc.per V.r b n else 0), .int .i64 (Mc.bad V.r b n)]) ∧ Gr w w' := by
  cases hf : Rm.fm V.r
  · rw [Mc.bad_fm hf, if_neg (by decide)]
    exact period_bad V b n w hM hf
  · cases hd : (Cal.dayB b && Cal.dayB n)
    · rw [Mc.bad_day hf hd, if_neg (by decide)]
      exact period_far V b n w hM hf hd
    · rw [Mc.bad_ok hf hd, if_pos rfl]
      rw [Bool.and_eq_true] at hd
      exact period_yes V b n w hM hf hd.1 hd.2
theorem fits_all (V : Rm.Rv) (b n : Int) (w : World) (hM : RuM w w.heap.size V) (hd : V.day.n ≤ 140737488355328) (hn : ∀ i, i < 8 → (V.sl i).n ≤ 140737488355328) :
    Calls Tryz.prog 8 #[.agg V.val, .int .i64 b, .int .i64 n] w fun e w' => e = .returned (.tuple #[.bool (if Mc.bad V.r b n = 0 then Mc.fits V.r b n else false), .int .i64 (Mc.bad V.r b n)]) ∧ Gr w w' := by
  cases hf : Rm.fm V.r
  · rw [Mc.bad_fm hf, if_neg (by decide)]
    exact fits_no V b n w 10 (.inr rfl) (fun w' g => period_bad V b n w' (hM.gr g) hf)
  · cases hdd : (Cal.dayB b && Cal.dayB n)
    · rw [Mc.bad_day hf hdd, if_neg (by decide)]
      exact fits_no V b n w 2 (.inl rfl) (fun w' g => period_far V b n w' (hM.gr g) hf hdd)
    · rw [Mc.bad_ok hf hdd, if_pos rfl]
      rw [Bool.and_eq_true] at hdd
      exact fits_yes V b n w hM hd hn hf hdd.1 hdd.2
end Go.Proofs.YtfdaeddgicngoaaGreat
