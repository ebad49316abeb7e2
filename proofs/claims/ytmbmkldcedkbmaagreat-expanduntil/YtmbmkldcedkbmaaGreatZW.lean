/- The texts RefLeaf, RefGreg, RefGen, RefDate, RefGreg2, one behind the other. -/
import Derived.Test.YtmbmkldcedkbmaaGreatZB
namespace Go.Proofs.YtmbmkldcedkbmaaGreat
open Go.RowKit

theorem mul_le_self {q b : Int} (hq : q ≤ 0) (hb : 1 ≤ b) : q * b ≤ q := by
  have h := Int.mul_nonneg (a := -q) (b := b - 1) (by omega) (by omega)
  have e : -q * (b - 1) = -(q * b) + q := by rw [Int.mul_sub, Int.neg_mul]; omega
  omega
theorem tdiv_facts (a : Int) {b : Int} (hb : 1 ≤ b) :
    (a.tdiv b * b ≤ a ∧ a.tdiv b = a / b ∧ (a ≤ a.tdiv b * b ∨ 0 ≤ a.tdiv b * b)) ∨ (a < a.tdiv b * b ∧ a.tdiv b - 1 = a / b ∧ a.tdiv b * b ≤ a.tdiv b ∧ a.tdiv b ≤ 0) := by
  have e := Int.tmod_add_tdiv_mul a b
  have f := Int.emod_add_mul_ediv a b
  have g0 := Int.emod_nonneg a (b := b) (by omega)
  have g1 := Int.emod_lt_of_pos a (b := b) (by omega)
  rcases tmod_cases a (k := b) (by omega) with ⟨h, m⟩ | ⟨h, z, m⟩ | ⟨h, z, m⟩
  · left
    have h1 : a.tdiv b = a / b := Int.tdiv_eq_ediv_of_nonneg h
    have h2 : 0 ≤ a.tdiv b * b := by rw [h1]; exact Int.mul_nonneg (Int.ediv_nonneg h (by omega)) (by omega)
    omega
  · left
    have : a.tdiv b = a / b := by
      have hd : b ∣ a := Int.dvd_of_emod_eq_zero z
      obtain ⟨c, rfl⟩ := hd
      rw [Int.mul_tdiv_cancel_left _ (by omega), Int.mul_ediv_cancel_left _ (by omega)]
    omega
  · right
    have k : a.tdiv b - 1 = a / b := by
      have e1 : b * (a / b) = (a.tdiv b - 1) * b := by rw [Int.sub_mul]; omega
      have e2 : b * (a / b) = b * (a.tdiv b - 1) := by rw [e1, Int.mul_comm]
      exact (Int.eq_of_mul_eq_mul_left (by omega) e2).symm
    have neg : a / b < 0 := Int.ediv_neg_of_neg_of_pos h (by omega)
    exact ⟨by omega, k, mul_le_self (by omega) hb, by omega⟩
theorem ediv_le_abs (a : Int) {b : Int} (hb : 1 ≤ b) : (0 ≤ a → a / b ≤ a) ∧ (a ≤ 0 → a ≤ a / b) ∧ (0 ≤ a → 0 ≤ a / b) ∧ (a ≤ 0 → a / b ≤ 0) := by
  refine ⟨fun h => Int.ediv_le_self _ h, fun h => ?_, fun h => Int.ediv_nonneg h (by omega), fun h => ?_⟩
  · have f := Int.emod_add_mul_ediv a b
    have g0 := Int.emod_nonneg a (b := b) (by omega)
    have g1 := Int.emod_lt_of_pos a (b := b) (by omega)
    by_cases z : a / b ≤ 0
    · have := mul_le_self (q := a / b + 1) (b := b)
      by_cases z2 : a / b ≤ -1
      · have := mul_le_self (q := a / b + 1) (b := b) (by omega) hb
        rw [Int.add_mul, Int.mul_comm] at this
        omega
      · omega
    · omega
  · by_cases z : a = 0
    · subst z; simp
    · have := Int.ediv_neg_of_neg_of_pos (a := a) (b := b) (by omega) (by omega); omega

set_option maxHeartbeats 400000 in
theorem floor_any (a b : Int) (w : World) (a1 : -9223372036854775808 ≤ a) (a2 : a ≤ 9223372036854775807) (hb : 1 ≤ b) :
    Calls Tryz.prog 48 #[.int .i64 a, .int .i64 b] w fun e w' => e = .returned (.int .i64 (a / b)) ∧ w = w' := by
  have l := ediv_le_abs a hb
  have t := tdiv_facts a hb
  have t1 : -9223372036854775808 ≤ a.tdiv b * b := by omega
  have t2 : a.tdiv b * b ≤ 9223372036854775807 := by omega
  have t3 : a < a.tdiv b * b → -9223372036854775807 ≤ a.tdiv b := by omega
  have t4 : a.tdiv b ≤ 9223372036854775807 := by omega
  have T := Lib.hid t; clear t l
  go_enter Tryz.func48, Tryz.ntmps48
  go_wp2
  all_goals go_ret
  · exact ⟨ret_int (by have := T.out; omega), rfl⟩
  · exact ⟨ret_int (by have := T.out; omega), rfl⟩

theorem mod_wrap {a b : Int} (hb : 1 ≤ b) (hb2 : b ≤ 1000000000) : wrap64 (a - wrap64 (b * (a / b))) = a % b := by
  have f := Int.emod_add_mul_ediv a b
  have g0 := Int.emod_nonneg a (b := b) (by omega)
  have g1 := Int.emod_lt_of_pos a (b := b) (by omega)
  generalize b * (a / b) = x at *
  unfold wrap64; omega
set_option maxHeartbeats 400000 in
theorem mod_any (a b : Int) (w : World) (a1 : -9223372036854775808 ≤ a) (a2 : a ≤ 9223372036854775807) (hb : 1 ≤ b) (hb2 : b ≤ 1000000000) :
    Calls Tryz.prog 49 #[.int .i64 a, .int .i64 b] w fun e w' => e = .returned (.int .i64 (a % b)) ∧ w = w' := by
  have HM := Lib.hid (mod_wrap (a := a) hb hb2)
  have A := Lib.hid (And.intro a1 a2)
  clear a1 a2
  go_enter Tryz.func49, Tryz.ntmps49
  go_wp2_with (go_at_call 48; refine (floor_any _ _ _ A.out.1 A.out.2 (by omega)).mono ?_; rintro e w' ⟨rfl, rfl⟩)
  go_ret
  exact ⟨ret_int HM.out, rfl⟩

theorem reflp (y : Int) : (Cal.lpB y = true) ↔ (y % 4 = 0 ∧ y % 400 ≠ 100 ∧ y % 400 ≠ 200 ∧ y % 400 ≠ 300) := by
  rw [Cal.lpB_iff]; omega
theorem reflp_f {y : Int} (h : ¬ (y % 4 = 0 ∧ y % 400 ≠ 100 ∧ y % 400 ≠ 200 ∧ y % 400 ≠ 300)) : Cal.lpB y = false := by
  rw [← reflp] at h; simpa using h
set_option maxHeartbeats 1000000 in
theorem refleap_any (y : Int) (w : World) (a1 : -9223372036854775808 ≤ y) (a2 : y ≤ 9223372036854775807) :
    Calls Tryz.prog 118 #[.int .i64 y] w fun e w' => e = .returned (.bool (Cal.lpB y)) ∧ w = w' := by
  go_enter Tryz.func118, Tryz.ntmps118
  go_wp2_with (go_at_call 49; refine (mod_any _ _ _ (by omega) (by omega) (by omega) (by omega)).mono ?_; rintro e w' ⟨rfl, rfl⟩)
  all_goals go_ret
  all_goals refine ⟨ret_bool ?_, rfl⟩
  · exact (reflp_f (by omega)).symm
  · exact (reflp_f (by omega)).symm
  · rw [Bool.eq_iff_iff, reflp]; simp; omega
  · exact (reflp_f (by omega)).symm

set_option maxHeartbeats 1000000 in
theorem next_any (c y : Int) (w : World) (h : (c == 5) = false) (y1 : -40000 ≤ y) (y2 : y ≤ 40000) :
    Calls Tryz.prog 92 #[.int .i64 c, .int .i64 y] w fun e w' => e = .returned (.int .i64 (y + 1)) ∧ w = w' := by
  go_enter Tryz.func92, Tryz.ntmps92
  go_wp2
  go_ret
  exact ⟨rfl, rfl⟩
set_option maxHeartbeats 1000000 in
theorem months12_any (c y : Int) (w : World) (h2 : (c == 2) = false) (h3 : (c == 3) = false) (h6 : (c == 6) = false) :
    Calls Tryz.prog 89 #[.int .i64 c, .int .i64 y] w fun e w' => e = .returned (.int .i64 12) ∧ w = w' := by
  go_enter Tryz.func89, Tryz.ntmps89
  go_wp2
  go_ret
  exact ⟨rfl, rfl⟩
set_option maxHeartbeats 1000000 in
theorem least0_any (w : World) :
    Calls Tryz.prog 116 #[.int .i64 0] w fun e w' => e = .returned (.int .i64 1) ∧ w = w' := by
  go_enter Tryz.func116, Tryz.ntmps116
  go_wp2
  go_ret
  exact ⟨rfl, rfl⟩
end Go.Proofs.YtmbmkldcedkbmaaGreat
namespace Go.Proofs.YtmbmkldcedkbmaaGreat
open Go.RowKit

theorem greg_le {y m d : Int} (h : m ≤ 2) : 365 * (y - 1) + (y - 1) / 4 - (y - 1) / 100 + (y - 1) / 400 + (367 * m - 362) / 12 + d = Cal.num y m d := by
  unfold Cal.num Cal.cum Cal.dby; rw [if_pos h]; omega
theorem greg_gt {y m d : Int} (h : 2 < m) : 365 * (y - 1) + (y - 1) / 4 - (y - 1) / 100 + (y - 1) / 400 + (367 * m - 362) / 12 + d - (2 - Cal.lp y) = Cal.num y m d := by
  unfold Cal.num Cal.cum Cal.dby; rw [if_neg (by omega)]; omega
set_option maxHeartbeats 1000000 in
theorem greg_any (y m d : Int) (w : World) (y1 : -40000 ≤ y) (y2 : y ≤ 40000) (m1 : 1 ≤ m) (m2 : m ≤ 13) (d1 : -100000000 ≤ d) (d2 : d ≤ 100000000) :
    Calls Tryz.prog 82 #[.int .i64 y, .int .i64 m, .int .i64 d] w fun e w' => e = .returned (.int .i64 (Cal.num y m d)) ∧ w = w' := by
  by_cases hm : m ≤ 2
  · have hd : decide (2 < m) = false := by simp; omega
    have HF := Lib.hid (greg_le (y := y) (d := d) hm)
    go_enter Tryz.func82, Tryz.ntmps82
    go_wp2_with (go_at_call 48; refine (floor_any _ _ _ (by omega) (by omega) (by omega)).mono ?_; rintro e w' ⟨rfl, rfl⟩)
    go_ret
    exact ⟨ret_int HF.out, rfl⟩
  · have hm' : 2 < m := by omega
    have hd : decide (2 < m) = true := by simp; omega
    have HF := Lib.hid (greg_gt (y := y) (d := d) hm')
    cases hl : Cal.lpB y
    · have HL := Lib.hid hl; clear hl
      go_enter Tryz.func82, Tryz.ntmps82
      go_wp2_with (first | (go_at_call 48; refine (floor_any _ _ _ (by omega) (by omega) (by omega)).mono ?_; rintro e w' ⟨rfl, rfl⟩) | (go_at_call 118; refine (refleap_any _ _ (by omega) (by omega)).mono ?_; rintro e w' ⟨rfl, rfl⟩; rw [HL.out]))
      go_ret
      exact ⟨ret_int (by rw [← HF.out, Cal.lp_f HL.out]; omega), rfl⟩
    · have HL := Lib.hid hl; clear hl
      go_enter Tryz.func82, Tryz.ntmps82
      go_wp2_with (first | (go_at_call 48; refine (floor_any _ _ _ (by omega) (by omega) (by omega)).mono ?_; rintro e w' ⟨rfl, rfl⟩) | (go_at_call 118; refine (refleap_any _ _ (by omega) (by omega)).mono ?_; rintro e w' ⟨rfl, rfl⟩; rw [HL.out]))
      go_ret
      exact ⟨ret_int (by rw [← HF.out, Cal.lp_t HL.out]; omega), rfl⟩

set_option maxHeartbeats 1000000 in
theorem fixed0_any (y m d : Int) (w : World) (y1 : -40000 ≤ y) (y2 : y ≤ 40000) (m1 : 1 ≤ m) (m2 : m ≤ 13) (d1 : -100000000 ≤ d) (d2 : d ≤ 100000000) :
    Calls Tryz.prog 50 #[.int .i64 0, .int .i64 y, .int .i64 m, .int .i64 d] w fun e w' => e = .returned (.int .i64 (Cal.num y m d)) ∧ w = w' := by
  go_enter Tryz.func50, Tryz.ntmps50
  go_wp2_with (go_at_call 82; refine (greg_any _ _ _ _ y1 y2 m1 m2 d1 d2).mono ?_; rintro e w' ⟨rfl, rfl⟩)
  go_ret
  exact ⟨rfl, rfl⟩
set_option maxHeartbeats 1000000 in
theorem begins0_any (y : Int) (w : World) (y1 : -40000 ≤ y) (y2 : y ≤ 40000) :
    Calls Tryz.prog 91 #[.int .i64 0, .int .i64 y] w fun e w' => e = .returned (.int .i64 (Cal.dby y + 1)) ∧ w = w' := by
  have HE : Hid (Cal.num y 1 1 = Cal.dby y + 1) := by show _ = _; unfold Cal.num; rw [Cal.cum_1]; omega
  go_enter Tryz.func91, Tryz.ntmps91
  go_wp2_with (go_at_call 50; refine (fixed0_any _ _ _ _ y1 y2 (by omega) (by omega) (by omega) (by omega)).mono ?_; rintro e w' ⟨rfl, rfl⟩)
  go_ret
  exact ⟨ret_int HE.out, rfl⟩
end Go.Proofs.YtmbmkldcedkbmaaGreat
namespace Go.Proofs.YtmbmkldcedkbmaaGreat
open Go.RowKit

/- One call that computes an integer and leaves the world alone. -/
def Gives (f : FuncId) (args : Array Value) (r : Int) : Prop := ∀ w : World, Calls Tryz.prog f args w fun e w' => e = .returned (.int .i64 r) ∧ w = w'
theorem Gives.on {f : FuncId} {args : Array Value} {r : Int} (h : Gives f args r) (w : World) : Calls Tryz.prog f args w fun e w' => e = .returned (.int .i64 r) ∧ w = w' := h w

/- The reference's length of a month, out of the beginnings of months. -/
def lenOf (B : Int → Int) (F : Int → Int → Int) (M : Int → Int) (y m : Int) : Int :=
  if m < 1 ∨ M y < m then 0 else if m < M y then F y (m + 1) - F y m else B (y + 1) - F y m

set_option maxHeartbeats 1000000 in
theorem reflength_gen (c y m : Int) (B : Int → Int) (F : Int → Int → Int) (M : Int → Int) (w : World)
    (h2 : (c == 2) = false) (h3 : (c == 3) = false) (h5 : (c == 5) = false) (y1 : -40000 ≤ y) (y2 : y < 40000) (mb : 1 ≤ M y ∧ M y ≤ 100)
    (hM : Gives 89 #[.int .i64 c, .int .i64 y] (M y))
    (hB : Gives 91 #[.int .i64 c, .int .i64 (y + 1)] (B (y + 1)))
    (hF : ∀ m, 1 ≤ m → m ≤ M y → Gives 50 #[.int .i64 c, .int .i64 y, .int .i64 m, .int .i64 1] (F y m))
    (bb : -100000000 ≤ B (y + 1) ∧ B (y + 1) ≤ 100000000) (fb : ∀ m, 1 ≤ m → m ≤ M y → -100000000 ≤ F y m ∧ F y m ≤ 100000000) :
    Calls Tryz.prog 51 #[.int .i64 c, .int .i64 y, .int .i64 m] w fun e w' => e = .returned (.int .i64 (lenOf B F M y m)) ∧ w = w' := by
  have HF := Lib.hid hF; have HFB := Lib.hid fb; clear hF fb
  by_cases m1 : m < 1
  · have HL : Hid (lenOf B F M y m = 0) := by show _ = _; unfold lenOf; rw [if_pos (Or.inl m1)]
    go_enter Tryz.func51, Tryz.ntmps51
    go_wp2
    go_ret
    exact ⟨ret_int HL.out.symm, rfl⟩
  · have d1 : decide (m < 1) = false := by simp; omega
    by_cases m2 : M y < m
    · have HL : Hid (lenOf B F M y m = 0) := by show _ = _; unfold lenOf; rw [if_pos (Or.inr m2)]
      go_enter Tryz.func51, Tryz.ntmps51
      go_wp2_with (go_at_call 89; refine (hM.on _).mono ?_; rintro e w' ⟨rfl, rfl⟩)
      go_ret
      exact ⟨ret_int HL.out.symm, rfl⟩
    · have d2 : decide (M y < m) = false := by simp; omega
      obtain ⟨f1, f2⟩ := HFB.out m (by omega) (by omega)
      have g1 := HF.out m (by omega) (by omega)
      by_cases m3 : m < M y
      · obtain ⟨f3, f4⟩ := HFB.out (m + 1) (by omega) (by omega)
        have g2 := HF.out (m + 1) (by omega) (by omega)
        have HL : Hid (lenOf B F M y m = F y (m + 1) - F y m) := by show _ = _; unfold lenOf; rw [if_neg (by omega), if_pos m3]
        go_enter Tryz.func51, Tryz.ntmps51
        go_wp2_with (go_at_call 89; refine (hM.on _).mono ?_; rintro e w' ⟨rfl, rfl⟩)
        refine (g2.on _).mono ?_
        rintro e w' ⟨rfl, rfl⟩
        go_wp2_with fail
        refine (g1.on _).mono ?_
        rintro e w' ⟨rfl, rfl⟩
        go_wp2
        go_ret
        exact ⟨ret_int HL.out.symm, rfl⟩
      · have HL : Hid (lenOf B F M y m = B (y + 1) - F y m) := by show _ = _; unfold lenOf; rw [if_neg (by omega), if_neg m3]
        go_enter Tryz.func51, Tryz.ntmps51
        go_wp2_with (go_at_call 89; refine (hM.on _).mono ?_; rintro e w' ⟨rfl, rfl⟩)
        refine (next_any _ _ _ h5 (by omega) (by omega)).mono ?_
        rintro e w' ⟨rfl, rfl⟩
        go_wp2_with fail
        refine (hB.on _).mono ?_
        rintro e w' ⟨rfl, rfl⟩
        go_wp2_with fail
        refine (g1.on _).mono ?_
        rintro e w' ⟨rfl, rfl⟩
        go_wp2
        go_ret
        exact ⟨ret_int HL.out.symm, rfl⟩

def okc (lo hi : Int) (L : Int → Int → Int) (y m d : Int) : Bool := decide (lo ≤ y ∧ y ≤ hi ∧ 1 ≤ d ∧ d ≤ L y m)
theorem okc_iff {lo hi : Int} {L : Int → Int → Int} {y m d : Int} : okc lo hi L y m d = true ↔ (lo ≤ y ∧ y ≤ hi ∧ 1 ≤ d ∧ d ≤ L y m) := by unfold okc; simp
theorem okc_no {lo hi : Int} {L : Int → Int → Int} {y m d : Int} (h : okc lo hi L y m d = false) : ¬ (lo ≤ y ∧ y ≤ hi ∧ 1 ≤ d ∧ d ≤ L y m) := by
  rw [← okc_iff]; simp [h]

end Go.Proofs.YtmbmkldcedkbmaaGreat
namespace Go.Proofs.YtmbmkldcedkbmaaGreat
open Go.RowKit

set_option maxHeartbeats 2000000 in
theorem refdate_no (c n : Int) (w : World) (h : Cal.dayB n = false) :
    Calls Tryz.prog 81 #[.int .i64 c, .int .i64 n] w fun e w' => e = .returned (.tuple #[.agg #[.int .i64 0, .int .i64 0, .int .i64 0], .int .i64 2]) ∧ Gr w w' := by
  have H := Lib.hid h; clear h
  go_enter Tryz.func81, Tryz.ntmps81
  go_wp2_with fail
  refine (in_any _ _).mono ?_
  rintro e w' ⟨rfl, rfl⟩
  rw [H.out]
  go_wp2
  exact bodyPost_ret (v := .tuple #[.agg #[.int .i64 0, .int .i64 0, .int .i64 0], .int .i64 2]) (by simp [results, Tryz.results81, go_sem]) rfl ⟨rfl, (Gr.refl _).alloc _ _⟩

set_option maxHeartbeats 2000000 in
theorem refdate_yes (c n lo : Int) (B : Int → Int) (F : Int → Int → Int) (M : Int → Int) (Y Mo : Int) (w : World)
    (h3 : (c == 3) = false) (h5 : (c == 5) = false) (h : Cal.dayB n = true) (lo1 : -1000 ≤ lo) (lo2 : lo ≤ 5000)
    (hlo : Gives 116 #[.int .i64 c] lo)
    (hB : ∀ y, lo ≤ y → y ≤ 15000 → Gives 91 #[.int .i64 c, .int .i64 y] (B y))
    (hM : Gives 89 #[.int .i64 c, .int .i64 Y] (M Y)) (mb : 1 ≤ M Y ∧ M Y ≤ 100)
    (hF : ∀ m, 1 ≤ m → m ≤ M Y → Gives 50 #[.int .i64 c, .int .i64 Y, .int .i64 m, .int .i64 1] (F Y m))
    (fb : ∀ m, 1 ≤ m → m ≤ M Y → -100000000 ≤ F Y m ∧ F Y m ≤ 100000000)
    (b1 : B lo ≤ n) (b2 : n < B 15000)
    (uy : ∀ y, B y ≤ n → n < B (y + 1) → y = Y)
    (f1 : F Y 1 ≤ n)
    (um : ∀ m, 1 ≤ m → m ≤ M Y → F Y m ≤ n → (m < M Y → n < F Y (m + 1)) → m = Mo) :
    Calls Tryz.prog 81 #[.int .i64 c, .int .i64 n] w fun e w' => e = .returned (.tuple #[.agg #[.int .i64 Y, .int .i64 Mo, .int .i64 (n - F Y Mo + 1)], .int .i64 0]) ∧ Gr w w' := by
  obtain ⟨n1, n2⟩ := Cal.dayB_iff.1 h
  have H := Lib.hid h
  have HB := Lib.hid hB; have HF := Lib.hid hF; have HFB := Lib.hid fb; have HUY := Lib.hid uy; have HUM := Lib.hid um
  clear h hB hF fb uy um
  go_enter Tryz.func81, Tryz.ntmps81
  go_wp2_with fail
  refine (in_any _ _).mono ?_
  rintro e w' ⟨rfl, rfl⟩
  rw [H.out]
  go_wp2_with fail
  refine (hlo.on _).mono ?_
  rintro e w' ⟨rfl, rfl⟩
  go_wp2
  go_loop [6, 7] (fun s t => ∃ a b : Int, lo ≤ a ∧ a < b ∧ b ≤ 15000 ∧ B a ≤ n ∧ n < B b ∧ s = .int .i64 a ∧ t = .int .i64 b) (fun s t => (intOf t - intOf s).toNat)
  case atStart => exact ⟨lo, 15000, by omega, by omega, by omega, b1, b2, rfl, rfl⟩
  case round =>
    obtain ⟨a, b, a1, ab, b15, ba, bb, rfl, rfl⟩ := hrel
    by_cases hlt : a + 1 < b
    · have q1 : a < (a + b) / 2 := by omega
      have q2 : (a + b) / 2 < b := by omega
      have g := HB.out ((a + b) / 2) (by omega) (by omega)
      by_cases hq : B ((a + b) / 2) ≤ n
      · go_wp2_with (first | (go_at_call 92; refine (next_any _ _ _ h5 (by omega) (by omega)).mono ?_; rintro e w' ⟨rfl, rfl⟩) | (go_at_call 48; refine (floor_any _ _ _ (by omega) (by omega) (by omega)).mono ?_; rintro e w' ⟨rfl, rfl⟩) | (go_at_call 91; refine (g.on _).mono ?_; rintro e w' ⟨rfl, rfl⟩))
        go_round
        case rel => exact ⟨(a + b) / 2, b, by omega, q2, b15, hq, bb, rfl, rfl⟩
        case measure => simp [intOf]; omega
      · have hq' : n < B ((a + b) / 2) := by omega
        go_wp2_with (first | (go_at_call 92; refine (next_any _ _ _ h5 (by omega) (by omega)).mono ?_; rintro e w' ⟨rfl, rfl⟩) | (go_at_call 48; refine (floor_any _ _ _ (by omega) (by omega) (by omega)).mono ?_; rintro e w' ⟨rfl, rfl⟩) | (go_at_call 91; refine (g.on _).mono ?_; rintro e w' ⟨rfl, rfl⟩))
        go_round
        case rel => exact ⟨a, (a + b) / 2, a1, q1, by omega, ba, hq', rfl, rfl⟩
        case measure => simp [intOf]; omega
    · obtain rfl : b = a + 1 := by omega
      obtain rfl : a = Y := HUY.out a ba bb
      go_wp2_with (go_at_call 92; refine (next_any _ _ _ h5 (by omega) (by omega)).mono ?_; rintro e w' ⟨rfl, rfl⟩)
      go_loop [9] (fun s => ∃ m : Int, 1 ≤ m ∧ m ≤ M a ∧ F a m ≤ n ∧ s = .int .i64 m) (fun s => (M a - intOf s).toNat)
      case atStart => exact ⟨1, by omega, by omega, f1, rfl⟩
      case round =>
        obtain ⟨m, m1, m2, fm, rfl⟩ := hrel
        have gm := HF.out m m1 m2
        obtain ⟨fb1, fb2⟩ := HFB.out m m1 m2
        by_cases hm : m < M a
        · have g := HF.out (m + 1) (by omega) (by omega)
          by_cases hn : F a (m + 1) ≤ n
          · go_wp2_with (first | (go_at_call 89; refine (hM.on _).mono ?_; rintro e w' ⟨rfl, rfl⟩) | (go_at_call 50; refine (g.on _).mono ?_; rintro e w' ⟨rfl, rfl⟩))
            go_round
            case rel => exact ⟨m + 1, by omega, by omega, hn, rfl⟩
            case measure => simp [intOf]; omega
          · have hn' : decide (F a (m + 1) ≤ n) = false := by simp; omega
            obtain rfl : m = Mo := HUM.out m m1 m2 fm (fun _ => by omega)
            go_wp2_with fail
            refine (hM.on _).mono ?_
            rintro e w' ⟨rfl, rfl⟩
            go_wp2_with fail
            refine (g.on _).mono ?_
            rintro e w' ⟨rfl, rfl⟩
            go_wp2_with fail
            refine (gm.on _).mono ?_
            rintro e w' ⟨rfl, rfl⟩
            go_wp2
            exact bodyPost_ret (v := .tuple #[.agg #[.int .i64 a, .int .i64 m, .int .i64 (n - F a m + 1)], .int .i64 0]) (by simp [results, Tryz.results81, go_sem]) rfl ⟨rfl, (Gr.refl _).alloc _ _⟩
        · obtain rfl : m = Mo := HUM.out m m1 m2 fm (fun _ => by omega)
          have hm' : decide (m < M a) = false := by simp; omega
          go_wp2_with fail
          refine (hM.on _).mono ?_
          rintro e w' ⟨rfl, rfl⟩
          go_wp2_with fail
          refine (gm.on _).mono ?_
          rintro e w' ⟨rfl, rfl⟩
          go_wp2
          exact bodyPost_ret (v := .tuple #[.agg #[.int .i64 a, .int .i64 m, .int .i64 (n - F a m + 1)], .int .i64 0]) (by simp [results, Tryz.results81, go_sem]) rfl ⟨rfl, (Gr.refl _).alloc _ _⟩
end Go.Proofs.YtmbmkldcedkbmaaGreat
namespace Go.Proofs.YtmbmkldcedkbmaaGreat
open Go.RowKit

theorem lenOf0 (y m : Int) : lenOf (fun y => Cal.dby y + 1) (fun y m => Cal.num y m 1) (fun _ => 12) y m = Cal.dim y m := by
  unfold lenOf
  by_cases h : m < 1 ∨ 12 < m
  · rw [if_pos h, Cal.dim_out y h]
  · rw [if_neg h]
    have s := Cal.cum_succ y (m := m) (by omega) (by omega)
    by_cases h2 : m < 12
    · rw [if_pos h2]; simp only [Cal.num]; omega
    · rw [if_neg h2]
      obtain rfl : m = 12 := by omega
      have e : Cal.cum y (12 + 1) = Cal.cum y 13 := rfl
      have c := Cal.cum_13 y
      have d := Cal.dby_succ y
      simp only [Cal.num]; omega
theorem num_bdw {y m d : Int} (y1 : -40000 ≤ y) (y2 : y ≤ 40000) (m1 : 1 ≤ m) (m2 : m ≤ 13) (d1 : 0 ≤ d) (d2 : d ≤ 1000) : -100000000 ≤ Cal.num y m d ∧ Cal.num y m d ≤ 100000000 := by
  have := Cal.dby_bdw y1 y2
  have := Cal.cum_bd y m1 m2
  unfold Cal.num; omega
theorem reflength0 (y m : Int) (y1 : -39999 ≤ y) (y2 : y < 39999) : Gives 51 #[.int .i64 0, .int .i64 y, .int .i64 m] (Cal.dim y m) := by
  intro w
  rw [← lenOf0]
  refine reflength_gen 0 y m (fun y => Cal.dby y + 1) (fun y m => Cal.num y m 1) (fun _ => 12) w rfl rfl rfl (by omega) (by omega) ⟨by decide, by decide⟩ (fun w => months12_any 0 y w rfl rfl rfl)
    (fun w => begins0_any _ w (by omega) (by omega)) (fun k k1 k2 w => fixed0_any _ _ _ w (by omega) (by omega) k1 (by omega) (by omega) (by omega)) ?_ (fun k k1 k2 => num_bdw (by omega) (by omega) k1 (by omega) (by omega) (by omega))
  have := Cal.dby_bdw (a := y + 1) (by omega) (by omega)
  omega
theorem okc0 (y m d : Int) : okc 1 9999 Cal.dim y m d = Cal.okB y m d := rfl
theorem refdate0_yes (n : Int) (w : World) (h : Cal.dayB n = true) :
    Calls Tryz.prog 81 #[.int .i64 0, .int .i64 n] w fun e w' => e = .returned (.tuple #[.agg #[.int .i64 (Cal.yr n), .int .i64 (Cal.mon n), .int .i64 (Cal.dom n)], .int .i64 0]) ∧ Gr w w' := by
  obtain ⟨n1, n2⟩ := Cal.dayB_iff.1 h
  have yb := Cal.yr_bd n1 n2
  have y1 := Cal.yr_lo n
  have y2 := Cal.yr_hi n
  have c1 := Cal.cum_1 (Cal.yr n)
  have c13 := Cal.cum_13 (Cal.yr n)
  have es := Cal.dby_succ (Cal.yr n)
  have e : n - Cal.num (Cal.yr n) (Cal.mon n) 1 + 1 = Cal.dom n := by unfold Cal.num Cal.dom; omega
  have k := refdate_yes 0 n 1 (fun y => Cal.dby y + 1) (fun y m => Cal.num y m 1) (fun _ => 12) (Cal.yr n) (Cal.mon n) w rfl rfl h (by omega) (by omega) least0_any
    (fun y a b w => begins0_any _ w (by omega) (by omega)) (fun w => months12_any 0 _ w rfl rfl rfl) ⟨by decide, by decide⟩
    (fun k k1 k2 w => fixed0_any _ _ _ w (by omega) (by omega) k1 (by omega) (by omega) (by omega)) (fun k k1 k2 => num_bdw (by omega) (by omega) k1 (by omega) (by omega) (by omega))
    (by have := Cal.dby_1; simp; omega) (by have := Cal.dby_mono (a := 10000) (b := 15000) (by omega); have := Cal.dby_10000; simp; omega)
    (fun y a b => (Cal.yr_unique (by omega) (by omega)).symm)
    (by simp only [Cal.num]; omega)
    (fun m a b c d => by
      simp only [Cal.num] at b c d
      refine (Cal.mo_unique a b (by omega) ?_).symm
      by_cases hm : m < 12
      · have := d hm; omega
      · obtain rfl : m = 12 := by omega
        have e : Cal.cum (Cal.yr n) (12 + 1) = Cal.cum (Cal.yr n) 13 := rfl
        omega)
  simp only [e] at k
  exact k
end Go.Proofs.YtmbmkldcedkbmaaGreat
