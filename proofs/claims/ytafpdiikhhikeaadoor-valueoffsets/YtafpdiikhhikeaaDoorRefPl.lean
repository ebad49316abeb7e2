/- What the reference's Plain returns. -/
import Derived.Test.YtafpdiikhhikeaaDoorVaPd
namespace Go.Proofs.YtafpdiikhhikeaaDoor
open Go.RowKit

theorem head_at (s : ByteArray) (h : 0 < s.size) : s.data.toList.head? = some s[0] := by
  have h' : 0 < s.data.toList.length := by rw [← Lib.size_eq]; exact h
  rw [List.head?_eq_getElem?, List.getElem?_eq_getElem h']; rfl
theorem tail_at (s : ByteArray) : (s.extract 1 s.size).data.toList = s.data.toList.tail := by
  rw [Lib.extract_data]
  rw [List.drop_one, List.take_of_length_le (by rw [List.length_tail, ← Lib.size_eq]; omega)]
theorem bt {c : UInt8} (k : UInt8) (h : c = k) : ((c.toNat : Int) == (k.toNat : Int)) = true := by rw [h]; simp
namespace Va
theorem dgs_num {l : List UInt8} (h : l.length ≤ 9) : num l 9 = decide (0 ≤ dgs l) ∧ (0 ≤ dgs l → dgs l = Txt.val l 0) ∧ -1 ≤ dgs l ∧ dgs l ≤ 1000000000 := by
  unfold dgs
  split
  · rename_i h1
    have hn : num l 9 = true := num_iff.2 ⟨h1.1, h, h1.2⟩
    have := val_lt10 hn
    exact ⟨by rw [hn]; symm; exact decide_eq_true (by omega), fun _ => rfl, by omega, by omega⟩
  · rename_i h1
    have hn : num l 9 = false := by
      rw [Bool.eq_false_iff]; intro h2
      exact h1 ⟨(num_iff.1 h2).1, (num_iff.1 h2).2.2⟩
    exact ⟨by rw [hn]; rfl, fun h => absurd h (by decide), by omega, by omega⟩
end Va
set_option maxHeartbeats 2000000 in
theorem plain_neg (s : ByteArray) (w : World) (hl : s.size ≤ 1000000) (h0 : 0 < s.size) (hc : s[0] = 45) :
    Calls Tryd.prog 20 #[.string s] w fun e w' => e = .returned (Va.opV (if Va.plB s.data.toList then some (Va.plV s.data.toList) else none)) ∧ w = w' := by
  have hn : Va.neg s.data.toList = true := by unfold Va.neg; rw [head_at s h0, hc]; rfl
  have hb : Va.bod s.data.toList = s.data.toList.tail := by unfold Va.bod; rw [if_pos hn]
  have b1 : ((s[0].toNat : Int) == 45) = true := bt 45 hc
  have hz : (s.extract 1 s.size).size = s.size - 1 := by rw [Lib.size_eq, tail_at, List.length_tail, ← Lib.size_eq]
  have hzl : s.data.toList.tail.length = s.size - 1 := by rw [List.length_tail, ← Lib.size_eq]
  unfold Va.plB Va.plV
  rw [hn, hb]
  have h1 : (0 : Int) < s.size := by omega
  by_cases h9 : s.size - 1 ≤ 9
  · have cD := fun w => digits12_any (s.extract 1 s.size) w (by omega)
    rw [tail_at] at cD
    obtain ⟨q1, q2, q3, q4⟩ := Va.dgs_num (l := s.data.toList.tail) (by omega)
    rw [q1]
    clear q1 hb hn hzl
    generalize Va.dgs s.data.toList.tail = v at *
    by_cases hv : 0 ≤ v
    · replace q2 := q2 hv
      rw [decide_eq_true hv, if_pos rfl, ← q2]
      clear q2
      go_enter Tryd.func20, Tryd.ntmps20
      go_wp2_with (go_at_call 38; refine (cD _).mono ?_; rintro e w' ⟨rfl, rfl⟩)
      go_ret2
      exact ⟨rfl, rfl⟩
    · rw [decide_eq_false hv, if_neg (by decide)]
      clear q2
      go_enter Tryd.func20, Tryd.ntmps20
      go_wp2_with (go_at_call 38; refine (cD _).mono ?_; rintro e w' ⟨rfl, rfl⟩)
      go_ret2
      exact ⟨rfl, rfl⟩
  · have hf : Va.num s.data.toList.tail 9 = false := by
      rw [Bool.eq_false_iff]; intro h
      have := (Va.num_iff.1 h).2.1
      omega
    rw [hf]
    clear hf hb hn hzl
    go_enter Tryd.func20, Tryd.ntmps20
    go_wp2
    go_ret2
    exact ⟨rfl, rfl⟩
set_option maxHeartbeats 2000000 in
theorem plain_pos (s : ByteArray) (w : World) (hl : s.size ≤ 1000000) (hc : ∀ h : 0 < s.size, s[0] ≠ 45) :
    Calls Tryd.prog 20 #[.string s] w fun e w' => e = .returned (Va.opV (if Va.plB s.data.toList then some (Va.plV s.data.toList) else none)) ∧ w = w' := by
  have hn : Va.neg s.data.toList = false := by
    unfold Va.neg
    rw [beq_eq_false_iff_ne]
    rcases Nat.eq_zero_or_pos s.size with h | h
    · have : s.data.toList = [] := List.eq_nil_of_length_eq_zero (by rw [← Lib.size_eq]; exact h)
      rw [this]; simp
    · rw [head_at s h]
      intro e
      exact hc h (Option.some.inj e)
  have hb := Va.bod_no hn
  have hz := Lib.size_eq s
  unfold Va.plB Va.plV
  rw [hn, hb]
  have h7 : decide ((s.size : Int) < s.size) = false := by simp
  rcases Nat.eq_zero_or_pos s.size with h0 | h0
  · have cD := fun w => digits12_any s w (by omega)
    have hl0 : s.data.toList = [] := List.eq_nil_of_length_eq_zero (by rw [← Lib.size_eq]; exact h0)
    rw [hl0, Va.dgs_nil] at cD
    rw [hl0]
    clear hz hb hn hl0 hc
    go_enter Tryd.func20, Tryd.ntmps20
    go_wp2_with (go_at_call 38; refine (cD _).mono ?_; rintro e w' ⟨rfl, rfl⟩)
    go_ret2
    exact ⟨rfl, rfl⟩
  have b1 : ((s[0].toNat : Int) == 45) = false := bf 45 (hc h0)
  have h1 : (0 : Int) < s.size := by omega
  by_cases h9 : s.size ≤ 9
  · have cD := fun w => digits12_any s w (by omega)
    obtain ⟨q1, q2, q3, q4⟩ := Va.dgs_num (l := s.data.toList) (by omega)
    rw [q1]
    clear q1 hb hn hz hc
    generalize Va.dgs s.data.toList = v at *
    by_cases hv : 0 ≤ v
    · replace q2 := q2 hv
      rw [decide_eq_true hv, if_pos rfl, ← q2]
      clear q2
      go_enter Tryd.func20, Tryd.ntmps20
      go_wp2_with (go_at_call 38; refine (cD _).mono ?_; rintro e w' ⟨rfl, rfl⟩)
      go_ret2
      exact ⟨rfl, rfl⟩
    · rw [decide_eq_false hv, if_neg (by decide)]
      clear q2
      go_enter Tryd.func20, Tryd.ntmps20
      go_wp2_with (go_at_call 38; refine (cD _).mono ?_; rintro e w' ⟨rfl, rfl⟩)
      go_ret2
      exact ⟨rfl, rfl⟩
  · have hf : Va.num s.data.toList 9 = false := by
      rw [Bool.eq_false_iff]; intro h
      have := (Va.num_iff.1 h).2.1
      omega
    rw [hf]
    clear hf hb hn hz hc
    go_enter Tryd.func20, Tryd.ntmps20
    go_wp2
    go_ret2
    exact ⟨rfl, rfl⟩
theorem plain_any (s : ByteArray) (w : World) (hl : s.size ≤ 1000000) :
    Calls Tryd.prog 20 #[.string s] w fun e w' => e = .returned (Va.opV (if Va.plB s.data.toList then some (Va.plV s.data.toList) else none)) ∧ w = w' := by
  by_cases h : ∃ h : 0 < s.size, s[0] = 45
  · exact plain_neg s w hl h.1 h.2
  · exact plain_pos s w hl (fun h0 hc => h ⟨h0, hc⟩)
end Go.Proofs.YtafpdiikhhikeaaDoor
