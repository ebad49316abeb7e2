/- What the small functions of recur.Print return: numberText, startText, weekdayText, untilText. -/
import Derived.Test.YtleeklcpbflfhaaGreatDoorZRpM
import Derived.Test.YtleeklcpbflfhaaGreatDoorZE
import Derived.Test.YtleeklcpbflfhaaGreatDoorZO
import Derived.Test.YtleeklcpbflfhaaGreatDoorZRcLoad
import Derived.Test.YtleeklcpbflfhaaGreatDoorZC
import Derived.Test.YtleeklcpbflfhaaGreatDoorZVaTm
import Derived.Test.YtleeklcpbflfhaaGreatDoorZShelf4
import Derived.BigQuiet
namespace Go.Proofs.YtleeklcpbflfhaaGreatDoor
open Go.RowKit

theorem itoaS_any (n : Int) (w : World) (ht : Tab w) (h0 : -9999 ≤ n) (h1 : n ≤ 9999) :
    Calls Tryz.prog 49 #[.int .i64 n] w fun e w' => e = .returned (.string ⟨(Rm.nt n).toArray⟩) ∧ Gr w w' := by
  refine (Tryz.strconv_Itoa n (by omega) (by omega) w ht).mono ?_
  rintro e w' ⟨rfl, k, os, rfl⟩
  refine ⟨?_, Gr.grow _ _ _⟩
  unfold Lib.itoa Rm.nt Va.de
  by_cases h : n < 0
  · rw [if_pos h, if_pos h, show n.natAbs = (-n).toNat by omega]
  · rw [if_neg h, if_neg h]
theorem numText_any (n k : Int) (w : World) (ht : Tab w) (h0 : -9999 ≤ n) (h1 : n ≤ 9999) :
    Calls Tryz.prog 43 #[.int .i64 n, .int .i64 k] w fun e w' => e = .returned (.string ⟨(if n = k then [] else Rm.nt n).toArray⟩) ∧ Gr w w' := by
  have cI := fun w (ht : Tab w) => itoaS_any n w ht h0 h1
  by_cases h : n = k
  · rw [if_pos h]
    subst h
    go_enter Tryz.func43, Tryz.ntmps43
    go_wp2
    go_ret
    exact ⟨rfl, Gr.refl w⟩
  · rw [if_neg h]
    have hb : (n == k) = false := beq_eq_false_iff_ne.2 h
    clear h h0 h1
    go_enter Tryz.func43, Tryz.ntmps43
    go_wp2_with (go_at_call 49; refine (cI _ ht).mono ?_; rintro e w' ⟨rfl, hg⟩)
    go_ret
    exact ⟨rfl, hg⟩
theorem startText_any (d : Int) (w : World) (hT : TbR w) (h0 : 0 ≤ d) (h1 : d ≤ 6) :
    Calls Tryz.prog 47 #[.int .i64 d] w fun e w' => e = .returned (.string ⟨(if d = 1 then [] else Rm.wd d).toArray⟩) ∧ Gr w w' := by
  by_cases h : d = 1
  · rw [if_pos h]
    subst h
    go_enter Tryz.func47, Tryz.ntmps47
    go_wp2
    go_ret
    exact ⟨rfl, Gr.refl w⟩
  · rw [if_neg h]
    obtain ⟨k, rfl⟩ := Int.eq_ofNat_of_zero_le h0
    have hc : w.cell? ⟨2, k, none⟩ = some (.string ⟨(Rm.wd (k : Int)).toArray⟩) := hT.d k _ (by
      rcases (show k = 0 ∨ k = 1 ∨ k = 2 ∨ k = 3 ∨ k = 4 ∨ k = 5 ∨ k = 6 by omega) with rfl | rfl | rfl | rfl | rfl | rfl | rfl <;> rfl)
    have hb : ((k : Int) == 1) = false := beq_eq_false_iff_ne.2 h
    have hk7 : (k : Int) < 7 := by omega
    generalize Rm.wd (k : Int) = t at *
    clear h h1 hT
    go_enter Tryz.func47, Tryz.ntmps47
    go_wp2
    go_ret
    exact ⟨rfl, Gr.refl w⟩
set_option maxHeartbeats 1000000 in
theorem wdText_any (n d : Int) (w : World) (hP : Tab w) (hT : TbR w) (h : Rm.mayD (n, d) = true) :
    Calls Tryz.prog 46 #[.agg #[.int .i64 n, .int .i64 d]] w fun e w' => e = .returned (.string ⟨(Rm.dt (n, d)).toArray⟩) ∧ Gr w w' := by
  obtain ⟨h0, h1, h2, h3⟩ := Rm.mayD_iff.1 h
  dsimp only at h0 h1 h2 h3
  obtain ⟨k, rfl⟩ := Int.eq_ofNat_of_zero_le h0
  have hc : w.cell? ⟨2, k, none⟩ = some (.string ⟨(Rm.wd (k : Int)).toArray⟩) := hT.d k _ (by
    rcases (show k = 0 ∨ k = 1 ∨ k = 2 ∨ k = 3 ∨ k = 4 ∨ k = 5 ∨ k = 6 by omega) with rfl | rfl | rfl | rfl | rfl | rfl | rfl <;> rfl)
  have hk7 : (k : Int) < 7 := by omega
  have cN := fun w (ht : Tab w) => numText_any n 0 w ht (by omega) (by omega)
  have hz : (ByteArray.mk (if n = 0 then [] else Rm.nt n).toArray).size ≤ 5 := by
    rw [Lib.size_eq]
    show (if n = 0 then [] else Rm.nt n).length ≤ 5
    split
    · simp
    · exact Rm.nt_len (by omega) (by omega)
  have hz2 : (ByteArray.mk (Rm.wd (k : Int)).toArray).size ≤ 2 := by
    rw [Lib.size_eq]
    exact Nat.le_of_eq (Rm.wd_len h0 (by omega))
  have e : ByteArray.mk (Rm.dt (n, (k : Int))).toArray = (ByteArray.mk (if n = 0 then [] else Rm.nt n).toArray) ++ (ByteArray.mk (Rm.wd (k : Int)).toArray) := by
    rw [cat]; rfl
  have hg0 : Gr w (w.alloc (.cells #[.int .i64 n, .int .i64 (k : Int)] 49)) := (Gr.refl w).allocO _
  have hP0 := hP.keep hg0
  have hc0 := gr_cell hg0 hc
  have d0 : (w.alloc (.cells #[.int .i64 n, .int .i64 (k : Int)] 49)).cell? ⟨w.heap.size, 0, none⟩ = some (.int .i64 n) := by simp
  have d1 : (w.alloc (.cells #[.int .i64 n, .int .i64 (k : Int)] 49)).cell? ⟨w.heap.size, 1, none⟩ = some (.int .i64 (k : Int)) := by simp
  rw [e]
  generalize ByteArray.mk (if n = 0 then [] else Rm.nt n).toArray = s1 at *
  generalize ByteArray.mk (Rm.wd (k : Int)).toArray = s2 at *
  clear e h hT h0 h1 h2 h3 hc
  go_enter Tryz.func46, Tryz.ntmps46
  go_upto_region 1 with fail
  generalize w.alloc (.cells #[.int .i64 n, .int .i64 (k : Int)] 49) = W at *
  have u0 := after_cell d0
  have u1 := after_cell d1
  have u2 := after_cell hc0
  refine wp_region_after (by kernel_rfl) (by kernel_rfl) ?_
  repeat (go_big_quiet_step (first | (go_at_call 43; exact qafter (cN _ (hP0.keep (by exact (After.gr _)))))))
  refine wpQuiet_nil ?_
  rintro _ ⟨⟨w6, hg6⟩, rfl⟩
  go_wp2
  go_ret
  exact ⟨rfl, hg0.trans hg6⟩
set_option maxRecDepth 100000 in
set_option maxHeartbeats 1000000 in
theorem untText_any (V : Rm.Rv) (w : World) (hP : Tab w) (hz : V.z.data.toList = V.r.uz) (h : Rm.fmU V.r = true) :
    Calls Tryz.prog 44 #[.agg V.val] w fun e w' => e = .returned (.string ⟨(if V.r.has = false then [] else Va.txt V.r.uk V.r.ua).toArray⟩) ∧ Gr w w' := by
  have hg0 : Gr w (w.alloc (.cells V.val 27)) := (Gr.refl w).allocO _
  have hP0 := hP.keep hg0
  obtain ⟨e0, e1, e2, e3, e4, e5, e6, e7, e8, e9, e10, e11, e12, e13, e14, e15, e16⟩ := RBx.now w V 27
  clear e0 e1 e2 e7 e8 e9 e10 e11 e12 e13 e14 e15 e16
  generalize V.val = vv at *
  rcases hh : V.r.has
  · rw [hh] at e6
    rw [if_pos rfl]
    clear e3 e4 e5 hh h
    go_enter Tryz.func44, Tryz.ntmps44
    go_wp2
    go_ret
    exact ⟨rfl, hg0⟩
  · rw [hh] at e6
    rw [if_neg (by decide)]
    have hr : Va.rt V.r.uk V.r.ua V.z.data.toList = true := by
      unfold Rm.fmU at h
      rw [if_pos hh, Bool.and_eq_true, Bool.and_eq_true] at h
      rw [hz]
      exact h.1.2
    have cT := fun w ht => time_yes V.r.uk V.r.ua V.z w ht hr
    clear hh h hr hz
    generalize V.r.uk = k at *
    generalize V.r.ua = a at *
    generalize V.z = z at *
    go_enter Tryz.func44, Tryz.ntmps44
    go_wp2_with (go_at_call 83; refine (cT _ hP0).mono ?_; rintro e w' ⟨rfl, hg⟩)
    go_ret
    exact ⟨rfl, hg0.trans hg⟩
end Go.Proofs.YtleeklcpbflfhaaGreatDoor
