/- FoldReads: the walk. -/
import Derived.Test.YtbdfkpgcjdhcdaaDoorFdLaw
import Derived.Test.YtbdfkpgcjdhcdaaDoorRefUnf
namespace Go.Proofs.YtbdfkpgcjdhcdaaDoor
open Go.RowKit

set_option maxHeartbeats 2000000 in
set_option maxRecDepth 100000 in
theorem foldreads_any (s : ByteArray) (w : World) (ht : Tab w) (hs : s.size ≤ 140737488355328) :
    Calls Tryd.prog 4 #[.string s] w fun e w' => e = .returned (.bool true) ∧ Gr w w' := by
  by_cases h3 : 30000 < s.size
  · have h3d : decide ((30000 : Int) < (s.size : Int)) = true := by simp; omega
    have h3i : (30000 : Int) < (s.size : Int) := by omega
    clear h3
    go_enter Tryd.func4, Tryd.ntmps4
    go_wp2_with fail
    refine (awake_any _ ht).mono ?_
    rintro e w1 ⟨rfl, hg1⟩
    go_wp2_with fail
    refine (awake_any _ (ht.keep hg1)).mono ?_
    rintro e w2 ⟨rfl, hg2⟩
    go_wp2
    go_ret
    exact ⟨rfl, hg1.trans hg2⟩
  · have h3d : decide ((30000 : Int) < (s.size : Int)) = false := by simp; omega
    have h3i : (s.size : Int) ≤ 30000 := by omega
    have h1m : s.size ≤ 1000000 := by omega
    have hlb : (Fd.unf s.data.toList).1.length ≤ 1000000 := by
      by_cases hl : 20000 < s.data.toList.length
      · rw [Fd.unf_long _ hl]; simp
      · unfold Fd.unf
        rw [if_neg hl]
        split
        · simp
        · split
          · simp
          · have h1 := Fd.sp_len 0 s.data.toList
            have h2 := Fd.gs_count (Fd.sp 0 s.data.toList).2 [] 0
            rw [List.length_map]
            simp only [List.length_nil] at h2
            omega
    clear h3
    go_enter Tryd.func4, Tryd.ntmps4
    go_wp2_with fail
    refine (awake_any _ ht).mono ?_
    rintro e w1 ⟨rfl, hg1⟩
    have cU := unfold_any s w1 (ht.keep hg1) h1m
    have cR := fun w => refunf_any s w h1m
    generalize Fd.unf s.data.toList = U at *
    go_wp2_with fail
    refine cU.mono ?_
    rintro e w2 ⟨A2, n2, c2, rfl, hown2, hg2⟩
    go_wp2_with fail
    refine (cR _).mono ?_
    rintro e w3 ⟨A3, n3, c3, rfl, hown3, hg3⟩
    have hS2 := (Strs.of_own hown2).keep hg3.below
    have cS := same_yes A2 A3 n2 c2 n3 c3 U.1 U.1 w3 (hS2.more hg3.lt) (Strs.of_own hown3) rfl (by have := hS2.1; omega)
    go_wp2_with (go_at_call 13; refine cS.mono ?_; rintro e w4 ⟨rfl, hg4⟩)
    go_ret
    exact ⟨rfl, ((hg1.trans hg2).trans hg3).trans hg4⟩
end Go.Proofs.YtbdfkpgcjdhcdaaDoor
