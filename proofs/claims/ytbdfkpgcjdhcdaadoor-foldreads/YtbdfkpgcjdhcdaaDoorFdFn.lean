/- What package fold's functions of one line return. -/
import Derived.Test.YtbdfkpgcjdhcdaaDoorFdAny
namespace Go.Proofs.YtbdfkpgcjdhcdaaDoor
open Go.RowKit

theorem ct_head (s : ByteArray) (h : 0 < s.size) : Fd.ct s.data.toList = (((s[0].toNat : Int) == 32) || ((s[0].toNat : Int) == 9)) := by
  have h2 : s.data.toList.head? = some s[0] := by
    rw [List.head?_eq_getElem?]
    have : 0 < s.data.toList.length := by rw [← Lib.size_eq]; exact h
    rw [List.getElem?_eq_getElem this]; rfl
  unfold Fd.ct
  rw [h2]
  have e : ∀ (b : UInt8) (c : UInt8), (some b == some c) = ((b.toNat : Int) == (c.toNat : Int)) := by
    intro b c
    rw [Bool.eq_iff_iff]
    simp only [beq_iff_eq, Option.some.injEq, Int.natCast_inj]
    exact UInt8.toNat_inj.symm
  rw [e, e]; rfl
set_option maxHeartbeats 1000000 in
theorem continues_any (s : ByteArray) (w : World) (h : 0 < s.size) :
    Calls Tryd.prog 19 #[.string s] w fun e w' => e = .returned (.bool (Fd.ct s.data.toList)) ∧ w = w' := by
  rw [ct_head s h]
  cases h1 : ((s[0].toNat : Int) == 32)
  · cases h2 : ((s[0].toNat : Int) == 9)
    · go_enter Tryd.func19, Tryd.ntmps19
      go_wp2
      go_ret
      exact ⟨rfl, rfl⟩
    · go_enter Tryd.func19, Tryd.ntmps19
      go_wp2
      go_ret
      exact ⟨rfl, rfl⟩
  · go_enter Tryd.func19, Tryd.ntmps19
    go_wp2
    go_ret
    exact ⟨rfl, rfl⟩

theorem fine_eq (l : List UInt8) : Fd.fine l = (!l.isEmpty && !Fd.ct l && !Fd.nl l) := by
  unfold Fd.fine Fd.nl
  congr 1
  rw [List.not_any_eq_all_not]
  congr 1
  funext b
  by_cases h1 : b = 13
  · subst h1; rfl
  · by_cases h2 : b = 10
    · subst h2; rfl
    · simp [h1, h2]
theorem isEmpty_size (s : ByteArray) : s.data.toList.isEmpty = decide (s.size = 0) := by
  have := Lib.size_eq s
  cases h : s.data.toList with
  | nil => rw [h] at this; simp at this; simp [this]
  | cons a b => rw [h] at this; simp at this; simp [this]
set_option maxHeartbeats 1000000 in
theorem foldable_any (s : ByteArray) (w : World) (hs : s.size < 4294967281) :
    Calls Tryd.prog 15 #[.string s] w fun e w' => e = .returned (.bool (Fd.fine s.data.toList)) ∧ Gr w w' := by
  rw [fine_eq]
  by_cases h0 : s.size = 0
  · have hem : s.toList.isEmpty = true := by rw [Lib.toList_data, isEmpty_size]; simp [h0]
    have he2 : s.data.toList.isEmpty = true := by rw [isEmpty_size]; simp [h0]
    rw [he2]
    go_enter Tryd.func15, Tryd.ntmps15
    go_wp2
    go_ret
    exact ⟨rfl, Gr.refl _⟩
  · have hem : s.toList.isEmpty = false := by rw [Lib.toList_data, isEmpty_size]; simp [h0]
    have he2 : s.data.toList.isEmpty = false := by rw [isEmpty_size]; simp [h0]
    rw [he2]
    have cC := fun w => continues_any s w (by omega)
    have cA := fun w => containsAny_any s w hs
    generalize Fd.ct s.data.toList = c at *
    generalize Fd.nl s.data.toList = n at *
    cases c
    · go_enter Tryd.func15, Tryd.ntmps15
      go_wp2_with fail
      refine (cC _).mono ?_
      rintro e w' ⟨rfl, rfl⟩
      go_wp2_with fail
      refine (cA _).mono ?_
      rintro e w' ⟨rfl, hg⟩
      go_wp2
      go_ret
      exact ⟨rfl, hg⟩
    · go_enter Tryd.func15, Tryd.ntmps15
      go_wp2_with fail
      refine (cC _).mono ?_
      rintro e w' ⟨rfl, rfl⟩
      go_wp2
      go_ret
      exact ⟨rfl, Gr.refl _⟩

set_option maxHeartbeats 1000000 in
theorem fitting_any (s : ByteArray) (room : Nat) (w : World) (ht : Tab w) (hs : s.size ≤ 140737488355328) (hr : room ≤ 75) :
    Calls Tryd.prog 24 #[.string s, .int .i64 (room : Int)] w fun e w' => e = .returned (.int .i64 (Fd.fit room s.data.toList : Int)) ∧ Gr w w' := by
  have hsz := Lib.size_eq s
  go_enter Tryd.func24, Tryd.ntmps24
  go_wp2
  go_loopg [5] s.size (fun g v wx => ∃ n : Nat, v = .int .i64 (n : Int) ∧ n + g = s.size ∧ n ≤ room ∧ Gr w wx ∧ Tab wx ∧ n + Fd.fit (room - n) (s.data.toList.drop n) = Fd.fit room s.data.toList)
  case atStart => exact ⟨0, rfl, by omega, by omega, Gr.refl _, ht, by simp⟩
  case round =>
    obtain ⟨n, rfl, hng, hn, hg, ht2, he⟩ := hrel
    by_cases hlt : n < s.size
    · have ex := extract_from s n
      have hne : s.data.toList.drop n ≠ [] := by
        intro h
        have := congrArg List.length h
        rw [List.length_drop, List.length_nil] at this
        omega
      have h1 := Fd.wd_pos (s.data.toList.drop n)
      have h2 := Fd.wd_le _ hne
      have h4 := Fd.wd_le4 (s.data.toList.drop n)
      rw [List.length_drop, ← hsz] at h2
      have f1 := fun h => Fd.fit_small (room - n) (s.data.toList.drop n) h
      have f2 := fun h => Fd.fit_step (room - n) (s.data.toList.drop n) hne h
      rw [List.drop_drop] at f2
      have cD := decode_any ⟨(s.data.toList.drop n).toArray⟩ wr ht2 (by show 0 < (List.drop n s.data.toList).length; rw [List.length_drop]; omega)
      have e3 : (ByteArray.mk (s.data.toList.drop n).toArray).data.toList = s.data.toList.drop n := rfl
      rw [e3, ← ex] at cD
      generalize Fd.wd (s.data.toList.drop n) = k at *
      have HF := Lib.hid (And.intro f1 (And.intro f2 he))
      have HZ := Lib.hid hsz
      have HG := Lib.hid hng
      clear ex e3 f1 f2 he hne hsz hng
      by_cases hk : n + k ≤ room
      · go_wp2_with (go_at_call 30; refine cD.mono ?_; rintro e w' ⟨rr, rfl, hgr⟩)
        go_roundg (s.size - (n + k))
        case measure => have := HG.out; omega
        case rel =>
          obtain ⟨_, f2, he⟩ := HF.out
          refine ⟨n + k, by go_num, by have := HG.out; omega, by omega, hg.trans hgr, ht2.keep hgr, ?_⟩
          rw [f2 (by omega)] at he
          rw [← he, show room - (n + k) = room - n - k by omega]
          omega
      · go_wp2_with (go_at_call 30; refine cD.mono ?_; rintro e w' ⟨rr, rfl, hgr⟩)
        go_ret
        obtain ⟨f1, _, he⟩ := HF.out
        rw [f1 (by omega)] at he
        exact ⟨ret_int (by omega), hg.trans hgr⟩
    · have hdr : s.data.toList.drop n = [] := List.drop_eq_nil_of_le (by omega)
      rw [hdr, Fd.fit_nil] at he
      have HE := Lib.hid he
      obtain rfl : n = s.size := by omega
      clear he hdr hsz hng
      go_wp2
      go_ret
      exact ⟨ret_int (by have := HE.out; omega), hg⟩
end Go.Proofs.YtbdfkpgcjdhcdaaDoor
