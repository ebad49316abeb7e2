/- What the reference's Offset returns. -/
import Derived.Test.YtafpdiikhhikeaaDoorRefDur
import Derived.Test.YtafpdiikhhikeaaDoorVo
namespace Go.Proofs.YtafpdiikhhikeaaDoor
open Go.RowKit

set_option maxHeartbeats 1000000 in
theorem two01_any (k : Int) (w : World) (h : 0 ≤ k ∧ k < 100) :
    Calls Tryd.prog 36 #[.int .i64 k] w fun e w' => e = .returned (.string ⟨(Va.two k).toArray⟩) ∧ Gr w w' := by
  have e : Txt.numb k.toNat (2 : Int).toNat = Va.two k := Txt.numb_dig 1 _ (by omega)
  have cN := number_any k 2 w h.1 (by omega) (by omega) (by omega)
  rw [e] at cN
  clear e
  go_enter Tryd.func36, Tryd.ntmps36
  go_wp2_with (go_at_call 53; refine cN.mono ?_; rintro e w1 ⟨rfl, hb⟩)
  go_ret
  exact ⟨rfl, hb⟩
set_option maxRecDepth 8000 in
set_option maxHeartbeats 2000000 in
theorem roffset_yes (n : Int) (w : World) (h : Va.offB n = true) :
    Calls Tryd.prog 16 #[.int .i64 n] w fun e w' => e = .returned (.tuple #[.string ⟨(Va.off n).toArray⟩, .int .i64 0]) ∧ Gr w w' := by
  obtain ⟨h1, h2⟩ := Va.offB_iff.1 h
  clear h
  have hg := Gr.refl w
  have b1 : decide (n < -86399) = false := by simp; omega
  have b2 : decide (86399 < n) = false := by simp; omega
  by_cases a : n < 0
  · obtain ⟨m, rfl⟩ : ∃ m, n = -m := ⟨-n, by omega⟩
    have m0 : 0 < m := by omega
    have m1 : m ≤ 86399 := by omega
    have q : m / 60 % 60 = m % 3600 / 60 := by omega
    by_cases a2 : 0 < m % 60
    · skip
      have e : Va.off (-m) = [45] ++ Va.two (m / 3600) ++ Va.two (m / 60 % 60) ++ Va.two (m % 60) := by
        unfold Va.off Va.ofp; rw [if_pos a, Int.neg_neg, if_pos a2, ← q]; simp
      have E := Lib.hid e
      have b5 : (m % 60 != 0) = true := by rw [bne_iff_ne]; omega
      have z1 := Va.two_len (m / 3600)
      have z2 := Va.two_len (m / 60 % 60)
      have z3 := Va.two_len (m % 60)
      clear e q
      go_enter Tryd.func16, Tryd.ntmps16
      go_wp2_with (go_at_call 36; refine (two01_any _ _ (by omega)).mono ?_; rintro e w1 ⟨rfl, hb⟩; replace hg := hg.trans hb; clear hb)
      go_ret2
      exact ⟨tup2 (by rw [E.out]; simp [ByteArray.data_append]), hg⟩
    · skip
      have e : Va.off (-m) = [45] ++ Va.two (m / 3600) ++ Va.two (m / 60 % 60) := by
        unfold Va.off Va.ofp; rw [if_pos a, Int.neg_neg, if_neg a2, ← q]; simp
      have E := Lib.hid e
      have b5 : (m % 60 != 0) = false := by rw [bne_eq_false_iff_eq]; omega
      have z1 := Va.two_len (m / 3600)
      have z2 := Va.two_len (m / 60 % 60)
      have z3 := Va.two_len (m % 60)
      clear e q
      go_enter Tryd.func16, Tryd.ntmps16
      go_wp2_with (go_at_call 36; refine (two01_any _ _ (by omega)).mono ?_; rintro e w1 ⟨rfl, hb⟩; replace hg := hg.trans hb; clear hb)
      go_ret2
      exact ⟨tup2 (by rw [E.out]; simp [ByteArray.data_append]), hg⟩
  · have q : n / 60 % 60 = n % 3600 / 60 := by omega
    by_cases a2 : 0 < n % 60
    · skip
      have e : Va.off n = [43] ++ Va.two (n / 3600) ++ Va.two (n / 60 % 60) ++ Va.two (n % 60) := by
        unfold Va.off Va.ofp; rw [if_neg a, if_pos a2, ← q]; simp
      have E := Lib.hid e
      have b5 : (n % 60 != 0) = true := by rw [bne_iff_ne]; omega
      have z1 := Va.two_len (n / 3600)
      have z2 := Va.two_len (n / 60 % 60)
      have z3 := Va.two_len (n % 60)
      clear e q
      go_enter Tryd.func16, Tryd.ntmps16
      go_wp2_with (go_at_call 36; refine (two01_any _ _ (by omega)).mono ?_; rintro e w1 ⟨rfl, hb⟩; replace hg := hg.trans hb; clear hb)
      go_ret2
      exact ⟨tup2 (by rw [E.out]; simp [ByteArray.data_append]), hg⟩
    · skip
      have e : Va.off n = [43] ++ Va.two (n / 3600) ++ Va.two (n / 60 % 60) := by
        unfold Va.off Va.ofp; rw [if_neg a, if_neg a2, ← q]; simp
      have E := Lib.hid e
      have b5 : (n % 60 != 0) = false := by rw [bne_eq_false_iff_eq]; omega
      have z1 := Va.two_len (n / 3600)
      have z2 := Va.two_len (n / 60 % 60)
      have z3 := Va.two_len (n % 60)
      clear e q
      go_enter Tryd.func16, Tryd.ntmps16
      go_wp2_with (go_at_call 36; refine (two01_any _ _ (by omega)).mono ?_; rintro e w1 ⟨rfl, hb⟩; replace hg := hg.trans hb; clear hb)
      go_ret2
      exact ⟨tup2 (by rw [E.out]; simp [ByteArray.data_append]), hg⟩
set_option maxHeartbeats 1000000 in
theorem roffset_no (n : Int) (w : World) (h : Va.offB n = false) :
    Calls Tryd.prog 16 #[.int .i64 n] w fun e w' => e = .returned (.tuple #[.string ⟨#[]⟩, .int .i64 7]) ∧ Gr w w' := by
  have hn : ¬ (-86399 ≤ n ∧ n ≤ 86399) := by rw [← Va.offB_iff, h]; simp
  clear h
  by_cases b1 : n < -86399
  · clear hn
    go_enter Tryd.func16, Tryd.ntmps16
    go_wp2
    go_ret2
    exact ⟨rfl, Gr.refl _⟩
  · have b2 : 86399 < n := by omega
    have b1 : decide (n < -86399) = false := by simp; omega
    clear hn
    go_enter Tryd.func16, Tryd.ntmps16
    go_wp2
    go_ret2
    exact ⟨rfl, Gr.refl _⟩
end Go.Proofs.YtafpdiikhhikeaaDoor
