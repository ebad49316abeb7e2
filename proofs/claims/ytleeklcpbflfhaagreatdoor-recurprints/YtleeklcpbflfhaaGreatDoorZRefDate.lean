/- What the reference's Date returns for a calendar whose years follow each other by one. -/
import Derived.Test.YtleeklcpbflfhaaGreatDoorZRefGen
namespace Go.Proofs.YtleeklcpbflfhaaGreatDoor
open Go.RowKit

set_option maxHeartbeats 2000000 in
theorem refdate_no (c n : Int) (w : World) (h : Cal.dayB n = false) :
    Calls Tryz.prog 89 #[.int .i64 c, .int .i64 n] w fun e w' => e = .returned (.tuple #[.agg #[.int .i64 0, .int .i64 0, .int .i64 0], .int .i64 2]) ∧ Gr w w' := by
  have H := Lib.hid h; clear h
  go_enter Tryz.func89, Tryz.ntmps89
  go_wp2_with fail
  refine (in_any _ _).mono ?_
  rintro e w' ⟨rfl, rfl⟩
  rw [H.out]
  go_wp2
  exact bodyPost_ret (v := .tuple #[.agg #[.int .i64 0, .int .i64 0, .int .i64 0], .int .i64 2]) (by simp [results, Tryz.results89, go_sem]) rfl ⟨rfl, (Gr.refl _).alloc _ _⟩

set_option maxHeartbeats 2000000 in
theorem refdate_yes (c n lo : Int) (B : Int → Int) (F : Int → Int → Int) (M : Int → Int) (Y Mo : Int) (w : World)
    (h3 : (c == 3) = false) (h5 : (c == 5) = false) (h : Cal.dayB n = true) (lo1 : -1000 ≤ lo) (lo2 : lo ≤ 5000)
    (hlo : Gives 119 #[.int .i64 c] lo)
    (hB : ∀ y, lo ≤ y → y ≤ 15000 → Gives 122 #[.int .i64 c, .int .i64 y] (B y))
    (hM : Gives 124 #[.int .i64 c, .int .i64 Y] (M Y)) (mb : 1 ≤ M Y ∧ M Y ≤ 100)
    (hF : ∀ m, 1 ≤ m → m ≤ M Y → Gives 125 #[.int .i64 c, .int .i64 Y, .int .i64 m, .int .i64 1] (F Y m))
    (fb : ∀ m, 1 ≤ m → m ≤ M Y → -100000000 ≤ F Y m ∧ F Y m ≤ 100000000)
    (b1 : B lo ≤ n) (b2 : n < B 15000)
    (uy : ∀ y, B y ≤ n → n < B (y + 1) → y = Y)
    (f1 : F Y 1 ≤ n)
    (um : ∀ m, 1 ≤ m → m ≤ M Y → F Y m ≤ n → (m < M Y → n < F Y (m + 1)) → m = Mo) :
    Calls Tryz.prog 89 #[.int .i64 c, .int .i64 n] w fun e w' => e = .returned (.tuple #[.agg #[.int .i64 Y, .int .i64 Mo, .int .i64 (n - F Y Mo + 1)], .int .i64 0]) ∧ Gr w w' := by
  obtain ⟨n1, n2⟩ := Cal.dayB_iff.1 h
  have H := Lib.hid h
  have HB := Lib.hid hB; have HF := Lib.hid hF; have HFB := Lib.hid fb; have HUY := Lib.hid uy; have HUM := Lib.hid um
  clear h hB hF fb uy um
  go_enter Tryz.func89, Tryz.ntmps89
  go_wp2_with fail
  refine (in_any _ _).mono ?_
  rintro e w' ⟨rfl, rfl⟩
  rw [H.out]
  go_wp2_with fail
  refine (hlo.on _).mono ?_
  rintro e w' ⟨rfl, rfl⟩
  go_wp2
  go_loop [6, 7] (fun s t => ∃ a b : Int, lo ≤ a ∧ a < b ∧ b ≤ 15000 ∧ B a ≤ n ∧ n < B b ∧ s = .int .i64 a ∧ t = .int .i64 b) (fun s t => (intOf t - intOf s).toNat)
  case atStart => exact ⟨lo, 15000, by omega, by omega, by omega, b1, b2, rfl, rfl⟩
  case round =>
    obtain ⟨a, b, a1, ab, b15, ba, bb, rfl, rfl⟩ := hrel
    by_cases hlt : a + 1 < b
    · have q1 : a < (a + b) / 2 := by omega
      have q2 : (a + b) / 2 < b := by omega
      have g := HB.out ((a + b) / 2) (by omega) (by omega)
      by_cases hq : B ((a + b) / 2) ≤ n
      · go_wp2_with (first | (go_at_call 120; refine (next_any _ _ _ h5 (by omega) (by omega)).mono ?_; rintro e w' ⟨rfl, rfl⟩) | (go_at_call 121; refine (floor_any _ _ _ (by omega) (by omega) (by omega)).mono ?_; rintro e w' ⟨rfl, rfl⟩) | (go_at_call 122; refine (g.on _).mono ?_; rintro e w' ⟨rfl, rfl⟩))
        go_round
        case rel => exact ⟨(a + b) / 2, b, by omega, q2, b15, hq, bb, rfl, rfl⟩
        case measure => simp [intOf]; omega
      · have hq' : n < B ((a + b) / 2) := by omega
        go_wp2_with (first | (go_at_call 120; refine (next_any _ _ _ h5 (by omega) (by omega)).mono ?_; rintro e w' ⟨rfl, rfl⟩) | (go_at_call 121; refine (floor_any _ _ _ (by omega) (by omega) (by omega)).mono ?_; rintro e w' ⟨rfl, rfl⟩) | (go_at_call 122; refine (g.on _).mono ?_; rintro e w' ⟨rfl, rfl⟩))
        go_round
        case rel => exact ⟨a, (a + b) / 2, a1, q1, by omega, ba, hq', rfl, rfl⟩
        case measure => simp [intOf]; omega
    · obtain rfl : b = a + 1 := by omega
      obtain rfl : a = Y := HUY.out a ba bb
      go_wp2_with (go_at_call 120; refine (next_any _ _ _ h5 (by omega) (by omega)).mono ?_; rintro e w' ⟨rfl, rfl⟩)
      go_loop [9] (fun s => ∃ m : Int, 1 ≤ m ∧ m ≤ M a ∧ F a m ≤ n ∧ s = .int .i64 m) (fun s => (M a - intOf s).toNat)
      case atStart => exact ⟨1, by omega, by omega, f1, rfl⟩
      case round =>
        obtain ⟨m, m1, m2, fm, rfl⟩ := hrel
        have gm := HF.out m m1 m2
        obtain ⟨fb1, fb2⟩ := HFB.out m m1 m2
        by_cases hm : m < M a
        · have g := HF.out (m + 1) (by omega) (by omega)
          by_cases hn : F a (m + 1) ≤ n
          · go_wp2_with (first | (go_at_call 124; refine (hM.on _).mono ?_; rintro e w' ⟨rfl, rfl⟩) | (go_at_call 125; refine (g.on _).mono ?_; rintro e w' ⟨rfl, rfl⟩))
            go_round
            case rel => exact ⟨m + 1, by omega, by omega, hn, rfl⟩
            case measure => simp [intOf]; omega
          · have hn' : decide (F a (m + 1) ≤ n) = false := by simp; omega
            obtain rfl : m = Mo := HUM.out m m1 m2 fm (fun _ => by omega)
            go_wp2_with fail
            refine (hM.on _).mono ?_
            rintro e w' ⟨rfl, rfl⟩
            go_wp2_with fail
            refine (g.on _).mono ?_
            rintro e w' ⟨rfl, rfl⟩
            go_wp2_with fail
            refine (gm.on _).mono ?_
            rintro e w' ⟨rfl, rfl⟩
            go_wp2
            exact bodyPost_ret (v := .tuple #[.agg #[.int .i64 a, .int .i64 m, .int .i64 (n - F a m + 1)], .int .i64 0]) (by simp [results, Tryz.results89, go_sem]) rfl ⟨rfl, (Gr.refl _).alloc _ _⟩
        · obtain rfl : m = Mo := HUM.out m m1 m2 fm (fun _ => by omega)
          have hm' : decide (m < M a) = false := by simp; omega
          go_wp2_with fail
          refine (hM.on _).mono ?_
          rintro e w' ⟨rfl, rfl⟩
          go_wp2_with fail
          refine (gm.on _).mono ?_
          rintro e w' ⟨rfl, rfl⟩
          go_wp2
          exact bodyPost_ret (v := .tuple #[.agg #[.int .i64 a, .int .i64 m, .int .i64 (n - F a m + 1)], .int .i64 0]) (by simp [results, Tryz.results89, go_sem]) rfl ⟨rfl, (Gr.refl _).alloc _ _⟩
end Go.Proofs.YtleeklcpbflfhaaGreatDoor
