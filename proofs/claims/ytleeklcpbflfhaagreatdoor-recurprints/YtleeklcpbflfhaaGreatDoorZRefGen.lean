/- What the reference's Length, Day and Date return for a calendar whose years follow each other by one, out of what its Months, begins and Fixed return. -/
import Derived.Test.YtleeklcpbflfhaaGreatDoorZRefLeaf
import Derived.Test.YtleeklcpbflfhaaGreatDoorZB
namespace Go.Proofs.YtleeklcpbflfhaaGreatDoor
open Go.RowKit

/- One call that computes an integer and leaves the world alone. -/
def Gives (f : FuncId) (args : Array Value) (r : Int) : Prop := ∀ w : World, Calls Tryz.prog f args w fun e w' => e = .returned (.int .i64 r) ∧ w = w'
theorem Gives.on {f : FuncId} {args : Array Value} {r : Int} (h : Gives f args r) (w : World) : Calls Tryz.prog f args w fun e w' => e = .returned (.int .i64 r) ∧ w = w' := h w

/- The reference's length of a month, out of the beginnings of months. -/
def lenOf (B : Int → Int) (F : Int → Int → Int) (M : Int → Int) (y m : Int) : Int :=
  if m < 1 ∨ M y < m then 0 else if m < M y then F y (m + 1) - F y m else B (y + 1) - F y m

set_option maxHeartbeats 1000000 in
theorem reflength_gen (c y m : Int) (B : Int → Int) (F : Int → Int → Int) (M : Int → Int) (w : World)
    (h2 : (c == 2) = false) (h3 : (c == 3) = false) (h5 : (c == 5) = false) (y1 : -40000 ≤ y) (y2 : y < 40000) (mb : 1 ≤ M y ∧ M y ≤ 100)
    (hM : Gives 124 #[.int .i64 c, .int .i64 y] (M y))
    (hB : Gives 122 #[.int .i64 c, .int .i64 (y + 1)] (B (y + 1)))
    (hF : ∀ m, 1 ≤ m → m ≤ M y → Gives 125 #[.int .i64 c, .int .i64 y, .int .i64 m, .int .i64 1] (F y m))
    (bb : -100000000 ≤ B (y + 1) ∧ B (y + 1) ≤ 100000000) (fb : ∀ m, 1 ≤ m → m ≤ M y → -100000000 ≤ F y m ∧ F y m ≤ 100000000) :
    Calls Tryz.prog 185 #[.int .i64 c, .int .i64 y, .int .i64 m] w fun e w' => e = .returned (.int .i64 (lenOf B F M y m)) ∧ w = w' := by
  have HF := Lib.hid hF; have HFB := Lib.hid fb; clear hF fb
  by_cases m1 : m < 1
  · have HL : Hid (lenOf B F M y m = 0) := by show _ = _; unfold lenOf; rw [if_pos (Or.inl m1)]
    go_enter Tryz.func185, Tryz.ntmps185
    go_wp2
    go_ret
    exact ⟨ret_int HL.out.symm, rfl⟩
  · have d1 : decide (m < 1) = false := by simp; omega
    by_cases m2 : M y < m
    · have HL : Hid (lenOf B F M y m = 0) := by show _ = _; unfold lenOf; rw [if_pos (Or.inr m2)]
      go_enter Tryz.func185, Tryz.ntmps185
      go_wp2_with (go_at_call 124; refine (hM.on _).mono ?_; rintro e w' ⟨rfl, rfl⟩)
      go_ret
      exact ⟨ret_int HL.out.symm, rfl⟩
    · have d2 : decide (M y < m) = false := by simp; omega
      obtain ⟨f1, f2⟩ := HFB.out m (by omega) (by omega)
      have g1 := HF.out m (by omega) (by omega)
      by_cases m3 : m < M y
      · obtain ⟨f3, f4⟩ := HFB.out (m + 1) (by omega) (by omega)
        have g2 := HF.out (m + 1) (by omega) (by omega)
        have HL : Hid (lenOf B F M y m = F y (m + 1) - F y m) := by show _ = _; unfold lenOf; rw [if_neg (by omega), if_pos m3]
        go_enter Tryz.func185, Tryz.ntmps185
        go_wp2_with (go_at_call 124; refine (hM.on _).mono ?_; rintro e w' ⟨rfl, rfl⟩)
        refine (g2.on _).mono ?_
        rintro e w' ⟨rfl, rfl⟩
        go_wp2_with fail
        refine (g1.on _).mono ?_
        rintro e w' ⟨rfl, rfl⟩
        go_wp2
        go_ret
        exact ⟨ret_int HL.out.symm, rfl⟩
      · have HL : Hid (lenOf B F M y m = B (y + 1) - F y m) := by show _ = _; unfold lenOf; rw [if_neg (by omega), if_neg m3]
        go_enter Tryz.func185, Tryz.ntmps185
        go_wp2_with (go_at_call 124; refine (hM.on _).mono ?_; rintro e w' ⟨rfl, rfl⟩)
        refine (next_any _ _ _ h5 (by omega) (by omega)).mono ?_
        rintro e w' ⟨rfl, rfl⟩
        go_wp2_with fail
        refine (hB.on _).mono ?_
        rintro e w' ⟨rfl, rfl⟩
        go_wp2_with fail
        refine (g1.on _).mono ?_
        rintro e w' ⟨rfl, rfl⟩
        go_wp2
        go_ret
        exact ⟨ret_int HL.out.symm, rfl⟩

def okc (lo hi : Int) (L : Int → Int → Int) (y m d : Int) : Bool := decide (lo ≤ y ∧ y ≤ hi ∧ 1 ≤ d ∧ d ≤ L y m)
theorem okc_iff {lo hi : Int} {L : Int → Int → Int} {y m d : Int} : okc lo hi L y m d = true ↔ (lo ≤ y ∧ y ≤ hi ∧ 1 ≤ d ∧ d ≤ L y m) := by unfold okc; simp
theorem okc_no {lo hi : Int} {L : Int → Int → Int} {y m d : Int} (h : okc lo hi L y m d = false) : ¬ (lo ≤ y ∧ y ≤ hi ∧ 1 ≤ d ∧ d ≤ L y m) := by
  rw [← okc_iff]; simp [h]

set_option maxHeartbeats 2000000 in
theorem refday_no (c lo hi y m d : Int) (L : Int → Int → Int) (w : World) (h5 : (c == 5) = false)
    (hY : ∀ w : World, Calls Tryz.prog 184 #[.int .i64 c] w fun e w' => e = .returned (.tuple #[.int .i64 lo, .int .i64 hi]) ∧ w = w')
    (hL : lo ≤ y → y ≤ hi → Gives 185 #[.int .i64 c, .int .i64 y, .int .i64 m] (L y m))
    (h : okc lo hi L y m d = false) :
    Calls Tryz.prog 144 #[.int .i64 c, .agg #[.int .i64 y, .int .i64 m, .int .i64 d]] w fun e w' => e = .returned (.tuple #[.int .i64 0, .int .i64 2]) ∧ Gr w w' := by
  have h' := okc_no h
  have HY := Lib.hid hY; have HL := Lib.hid hL; clear hY hL h
  by_cases a1 : y < lo
  · go_enter Tryz.func144, Tryz.ntmps144
    go_wp2_with fail
    refine (HY.out _).mono ?_
    rintro e w' ⟨rfl, rfl⟩
    clear h'
    go_wp2
    go_quiet (fail)
    go_wp2
    go_ret2
    exact ⟨rfl, ((Gr.refl _).alloc _ _).drewN _⟩
  · have b1 : decide (y < lo) = false := by simp; omega
    by_cases a2 : hi < y
    · go_enter Tryz.func144, Tryz.ntmps144
      go_wp2_with fail
      refine (HY.out _).mono ?_
      rintro e w' ⟨rfl, rfl⟩
      clear h'
      go_wp2
      go_quiet (fail)
      go_wp2
      go_ret2
      exact ⟨rfl, ((Gr.refl _).alloc _ _).drewN _⟩
    · have b2 : decide (hi < y) = false := by simp; omega
      by_cases a3 : d < 1
      · go_enter Tryz.func144, Tryz.ntmps144
        go_wp2_with fail
        refine (HY.out _).mono ?_
        rintro e w' ⟨rfl, rfl⟩
        clear h'
        go_wp2
        go_quiet (fail)
        go_wp2
        go_ret2
        exact ⟨rfl, ((Gr.refl _).alloc _ _).drewN _⟩
      · have b3 : decide (d < 1) = false := by simp; omega
        have b4 : L y m < d := by omega
        have g := HL.out (by omega) (by omega)
        go_enter Tryz.func144, Tryz.ntmps144
        go_wp2_with fail
        refine (HY.out _).mono ?_
        rintro e w' ⟨rfl, rfl⟩
        clear h'
        go_wp2
        go_quiet ((go_at_call 185; exact qsame (g.on _)))
        go_wp2
        go_ret2
        exact ⟨rfl, ((Gr.refl _).alloc _ _).drewN _⟩

set_option maxHeartbeats 2000000 in
theorem refday_yes (c lo hi y m d g : Int) (L : Int → Int → Int) (w : World) (h5 : (c == 5) = false)
    (hY : ∀ w : World, Calls Tryz.prog 184 #[.int .i64 c] w fun e w' => e = .returned (.tuple #[.int .i64 lo, .int .i64 hi]) ∧ w = w')
    (hL : lo ≤ y → y ≤ hi → Gives 185 #[.int .i64 c, .int .i64 y, .int .i64 m] (L y m))
    (h : okc lo hi L y m d = true)
    (hF : Gives 125 #[.int .i64 c, .int .i64 y, .int .i64 m, .int .i64 d] g) :
    Calls Tryz.prog 144 #[.int .i64 c, .agg #[.int .i64 y, .int .i64 m, .int .i64 d]] w fun e w' => e = .returned (.tuple #[.int .i64 (if Cal.dayB g = true then g else 0), .int .i64 (if Cal.dayB g = true then 0 else 2)]) ∧ Gr w w' := by
  obtain ⟨l1, l2, l3, l4⟩ := okc_iff.1 h
  have hl := hL l1 l2
  have HY := Lib.hid hY; clear hY hL h
  have b1 : decide (y < lo) = false := by simp; omega
  have b2 : decide (hi < y) = false := by simp; omega
  have b3 : decide (d < 1) = false := by simp; omega
  have b4 : decide (L y m < d) = false := by simp; omega
  cases hg : Cal.dayB g
  · have HG := Lib.hid hg; clear hg
    rw [if_neg (by simp), if_neg (by simp)]
    go_enter Tryz.func144, Tryz.ntmps144
    go_wp2_with fail
    refine (HY.out _).mono ?_
    rintro e w' ⟨rfl, rfl⟩
    go_wp2
    go_quiet ((go_at_call 185; exact qsame (hl.on _)))
    go_wp2_with fail
    refine (hF.on _).mono ?_
    rintro e w' ⟨rfl, rfl⟩
    go_wp2_with fail
    refine (in_any _ _).mono ?_
    rintro e w' ⟨rfl, rfl⟩
    rw [HG.out]
    go_wp2
    go_ret2
    exact ⟨rfl, ((Gr.refl _).alloc _ _).drewN _⟩
  · have HG := Lib.hid hg; clear hg
    rw [if_pos rfl, if_pos rfl]
    go_enter Tryz.func144, Tryz.ntmps144
    go_wp2_with fail
    refine (HY.out _).mono ?_
    rintro e w' ⟨rfl, rfl⟩
    go_wp2
    go_quiet ((go_at_call 185; exact qsame (hl.on _)))
    go_wp2_with fail
    refine (hF.on _).mono ?_
    rintro e w' ⟨rfl, rfl⟩
    go_wp2_with fail
    refine (in_any _ _).mono ?_
    rintro e w' ⟨rfl, rfl⟩
    rw [HG.out]
    go_wp2
    go_ret2
    exact ⟨rfl, ((Gr.refl _).alloc _ _).drewN _⟩
end Go.Proofs.YtleeklcpbflfhaaGreatDoor
