/- What the reference's size and UTF return. -/
import Derived.Test.YtpcmhaflmpcicaaDoorRefNext
namespace Go.Proofs.YtpcmhaflmpcicaaDoor
open Go.RowKit

set_option maxHeartbeats 1000000 in
theorem utf_any (s : ByteArray) (w : World) (hs : s.size ≤ 140737488355328) :
    Calls Tryd.prog 39 #[.string s] w fun e w' => e = .returned (.bool (Lib.validD s.data.toList)) ∧ w = w' := by
  have hsz := Lib.size_eq s
  obtain ⟨V, hV⟩ : ∃ V, Lib.validD s.data.toList = V := ⟨_, rfl⟩
  rw [hV]
  have HZ := Lib.hid hsz
  clear hsz
  go_enter Tryd.func39, Tryd.ntmps39
  go_wp2
  go_loopg [3] s.size (fun g v wx => ∃ i : Nat, v = .int .i64 (i : Int) ∧ i + g = s.size ∧ w = wx ∧ Lib.validD (s.data.toList.drop i) = V)
  case atStart => exact ⟨0, rfl, by omega, rfl, by simpa using hV⟩
  case round =>
    obtain ⟨i, rfl, hig, rfl, hv⟩ := hrel
    have HG := Lib.hid hig
    clear hV hig
    by_cases hi : i < s.size
    · have cN := fun w => next_any s i w hi hs
      have hne : s.data.toList.drop i ≠ [] := by
        intro h
        have := congrArg List.length h
        rw [List.length_drop, List.length_nil, ← HZ.out] at this
        omega
      have hst := Fd.valid_step _ hne
      have hc := Fd.nx_cases (s.data.toList.drop i)
      have hle := Fd.wd_le _ hne
      rw [List.length_drop, ← HZ.out] at hle
      rw [hv] at hst
      generalize Fd.wd (s.data.toList.drop i) = k at *
      generalize Fd.nx (s.data.toList.drop i) = m at *
      by_cases hm : m = 0
      · subst hm
        rw [if_pos rfl] at hst
        subst hst
        clear hv hc
        go_wp2_with (go_at_call 48; refine (cN _).mono ?_; rintro e w' ⟨rfl, rfl⟩)
        go_ret
        exact ⟨rfl, rfl⟩
      · rw [if_neg hm, List.drop_drop] at hst
        have HS := Lib.hid hst
        have hm1 : 1 ≤ m := by omega
        have hm2 : i + m ≤ s.size := by omega
        have hm3 : ((m : Int) == 0) = false := by simp; omega
        clear hst hv hc hle hm
        go_wp2_with (go_at_call 48; refine (cN _).mono ?_; rintro e w' ⟨rfl, rfl⟩)
        go_roundg (s.size - (i + m))
        case measure => have := HG.out; omega
        case rel => exact ⟨i + m, by go_num, by omega, rfl, HS.out.symm⟩
    · have : s.data.toList.drop i = [] := List.drop_eq_nil_of_le (by rw [← HZ.out]; omega)
      rw [this] at hv
      subst hv
      obtain rfl : i = s.size := by have := HG.out; omega
      clear this
      go_wp2
      go_ret
      exact ⟨rfl, rfl⟩
end Go.Proofs.YtpcmhaflmpcicaaDoor
