/- What Few returns. -/
import Derived.Test.YtmbmkldcedkbmaaGreatZH
namespace Go.Proofs.YtmbmkldcedkbmaaGreat
open Go.RowKit

namespace Rm
def sumN (V : Rv) : Nat → Nat
  | 0 => V.day.n
  | k + 1 => sumN V k + (V.sl k).n
theorem sumN_mono (V : Rv) : ∀ k m, k ≤ m → sumN V k ≤ sumN V m := by
  intro k m h
  induction m with
  | zero => obtain rfl : k = 0 := by omega
            exact Nat.le_refl _
  | succ m ih =>
    rcases Nat.lt_or_ge k (m + 1) with h1 | h1
    · exact Nat.le_trans (ih (by omega)) (Nat.le_add_right _ _)
    · obtain rfl : k = m + 1 := by omega
      exact Nat.le_refl _
theorem sumN_at (V : Rv) {i : Nat} (hi : i < 8) (h : sumN V 8 ≤ 500) : (V.sl i).n ≤ 500 := by
  have h1 := sumN_mono V (i + 1) 8 (by omega)
  have h2 : sumN V (i + 1) = sumN V i + (V.sl i).n := rfl
  omega
theorem sumN_day (V : Rv) (h : sumN V 8 ≤ 500) : V.day.n ≤ 500 := by
  have h1 := sumN_mono V 0 8 (by omega)
  have h2 : sumN V 0 = V.day.n := rfl
  omega
theorem sumN_le (V : Rv) (hd : V.day.n ≤ 140737488355328) (hn : ∀ i, i < 8 → (V.sl i).n ≤ 140737488355328) : ∀ k, k ≤ 8 → sumN V k ≤ 140737488355328 * (k + 1)
  | 0, _ => hd
  | k + 1, h => by
    have h1 := sumN_le V hd hn k (by omega)
    have h2 := hn k (by omega)
    show sumN V k + (V.sl k).n ≤ _
    omega
theorem arr8_at (V : Rv) : ∀ k, k < 8 → (arr8 V)[k]? = some (.slice (V.sl k).A (V.sl k).n (V.sl k).c) := by
  intro k hk
  rcases (show k = 0 ∨ k = 1 ∨ k = 2 ∨ k = 3 ∨ k = 4 ∨ k = 5 ∨ k = 6 ∨ k = 7 by omega) with rfl | rfl | rfl | rfl | rfl | rfl | rfl | rfl <;> rfl
end Rm
theorem arr8_cell {w : World} {b : Nat} {V : Rm.Rv} {t : TypeId} {fr : Nat × Nat} (h : w.heap[b]? = some (.cells (Rm.arr8 V) t fr)) {k : Nat} (hk : k < 8) : w.cell? ⟨b, k, none⟩ = some (.slice (V.sl k).A (V.sl k).n (V.sl k).c) := by
  rw [show w.cell? ⟨b, k, none⟩ = (Rm.arr8 V)[k]? by simp [World.cell?, h], Rm.arr8_at V k hk]
set_option maxRecDepth 100000 in
set_option maxHeartbeats 4000000 in
theorem few_any (V : Rm.Rv) (w : World) (hd : V.day.n ≤ 140737488355328) (hn : ∀ i, i < 8 → (V.sl i).n ≤ 140737488355328) :
    Calls Tryz.prog 8 #[.agg V.val] w fun e w' => e = .returned (.bool (decide (Rm.sumN V 8 ≤ 500))) ∧ Gr w w' := by
  have cL := fun w' => reflists_any V w'
  have hg0 : Gr w (w.alloc (.cells V.val 27)) := (Gr.refl w).allocO _
  have HS := Lib.hid (Rm.sumN_le V hd hn)
  have HN := Lib.hid hn
  clear hn
  obtain ⟨e0, e1, e2, e3, e4, e5, e6, e7, e8, e9, e10, e11, e12, e13, e14, e15, e16⟩ := RBx.now w V 27
  dsimp only [Rm.Rv.val] at *
  go_enter Tryz.func8, Tryz.ntmps8
  go_upto_region 1 with fail
  go_upto_region 2 with (first | (go_at_call 18; refine (cL _).mono ?_; rintro e w1 ⟨rfl, hg1⟩) | (refine wpList_store_row rfl 47 (.tmp 3) (.tmp 7) rfl w1.heap.size (Rm.arr8 V) rfl rfl 47 _ (heap_alloc_new _ _) info_arr8 rfl (arr8_one V) ?_; rw [World.setRow_alloc_new]))
  have hgA : Gr w1 (w1.alloc (.cells (Rm.arr8 V) 47)) := (Gr.refl _).allocO _
  have hcA := fun k hk => arr8_cell (k := k) (heap_alloc_new w1 (.cells (Rm.arr8 V) 47)) hk
  have f11 := gr_cell hgA (gr_cell hg1 e11)
  have hgw := (hg0.trans hg1).trans hgA
  have HC := Lib.hid hcA
  clear e0 e1 e2 e3 e4 e5 e6 e7 e8 e9 e10 e11 e12 e13 e14 e15 e16 hg0 hgA hcA
  generalize w1.alloc (.cells (Rm.arr8 V) 47) = W at *
  have hw1 : ∀ k, k < 8 → w1.heap.size < W.heap.size := fun k hk => World.block_lt_of_cell? _ _ (HC.out k hk)
  go_wp2
  go_loopg [4, 11] 8 (fun g v4 v wx => ∃ k : Nat, v = .int .i64 (k : Int) ∧ v4 = .int .i64 (Rm.sumN V k : Int) ∧ k + g = 8 ∧ wx = W)
  case atStart => exact ⟨0, rfl, rfl, rfl, rfl⟩
  case round =>
    obtain ⟨k, rfl, rfl, hkg, rfl⟩ := hrel
    have HG := Lib.hid hkg
    clear hkg
    by_cases hk : k < 8
    · have hkn : (k : Int) < 8 := by omega
      have hc := HC.out k hk
      have hb1 := HS.out k (by omega)
      have hb2 := HN.out k hk
      have HE := Lib.hid (show Rm.sumN V (k + 1) = Rm.sumN V k + (V.sl k).n from rfl)
      generalize (V.sl k).A = A at *
      generalize (V.sl k).n = n at *
      generalize (V.sl k).c = c at *
      generalize Rm.sumN V k = z at *
      have hz : z ≤ 1266637395197952 := by omega
      clear hb1
      go_wp2
      go_roundg (8 - (k + 1))
      case measure => have := HG.out; omega
      case rel => exact ⟨k + 1, by go_num, by rw [HE.out]; go_num, by omega, rfl⟩
    · obtain rfl : k = 8 := by have := HG.out; omega
      go_wp2
      go_ret
      exact ⟨ret_bool (decide_eq_decide.2 (by omega)), hgw⟩
end Go.Proofs.YtmbmkldcedkbmaaGreat
