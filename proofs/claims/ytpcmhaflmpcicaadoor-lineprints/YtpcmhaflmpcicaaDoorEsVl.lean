/- What escape.unquoted and escape.Value return. -/
import Derived.Test.YtpcmhaflmpcicaaDoorEsPl
import Derived.Test.YtpcmhaflmpcicaaDoorEsPm
namespace Go.Proofs.YtpcmhaflmpcicaaDoor
open Go.RowKit

theorem asc4 : Asc ⟨#[34, 58, 59, 44]⟩ := ⟨by decide, by decide, by decide⟩
namespace Es
theorem pre_34 (l : List UInt8) : Lib.hasPrefix l [34] = decide (l.head? = some 34) := by
  unfold Lib.hasPrefix
  rcases l with _ | ⟨b, l⟩
  · rfl
  · by_cases c : b = 34
    · subst c; simp
    · have : (34 == b) = false := by rw [beq_eq_false_iff_ne]; exact fun e => c e.symm
      rw [show ([34].isPrefixOf (b :: l)) = ((34 == b) && [].isPrefixOf l) from rfl, this]
      simp [c]
theorem suf_34 (l : List UInt8) : Lib.hasSuffix l [34] = decide (l.getLast? = some 34) := by
  unfold Lib.hasSuffix
  rcases List.eq_nil_or_concat l with rfl | ⟨x, b, rfl⟩
  · rfl
  · rw [List.concat_eq_append]
    by_cases c : b = 34
    · subst c
      have : [34].isSuffixOf (x ++ [34]) = true := by rw [List.isSuffixOf_iff_suffix]; exact ⟨x, rfl⟩
      simp [this]
    · have : [34].isSuffixOf (x ++ [b]) = false := by
        rw [Bool.eq_false_iff]
        intro h
        rw [List.isSuffixOf_iff_suffix] at h
        obtain ⟨y, h⟩ := h
        have := congrArg List.getLast? h
        simp at this
        exact c this.symm
      simp [this, c]
theorem vq_len {l m : List UInt8} (h : vq l = some m) : m.length ≤ l.length := by
  unfold vq at h
  split at h
  · split at h
    · injection h with h
      subst h
      rw [List.length_dropLast, List.length_tail]; omega
    · cases h
  · split at h
    · cases h
    · injection h with h
      subst h; exact Nat.le_refl _
end Es
theorem pre_any (s : ByteArray) (w : World) :
    Calls Tryd.prog 65 #[.string s, .string ⟨#[34]⟩] w fun e w' => e = .returned (.bool (decide (s.data.toList.head? = some 34))) ∧ w = w' := by
  refine (Tryd.strings_HasPrefix s ⟨#[34]⟩ w).mono ?_
  rintro e w' ⟨rfl, rfl⟩
  rw [← Es.pre_34]
  exact ⟨rfl, rfl⟩
theorem cont_any (s : ByteArray) (w : World) :
    Calls Tryd.prog 67 #[.string s, .string ⟨#[34]⟩] w fun e w' => e = .returned (.bool (s.data.toList.contains 34)) ∧ w = w' := by
  refine (Tryd.strings_Contains_one s 34 w).mono ?_
  rintro e w' ⟨rfl, rfl⟩
  exact ⟨by rw [Fd.idx_has], rfl⟩
theorem last_pos {l : List UInt8} (h : l.getLast? = some 34) : 1 ≤ l.length := by
  rcases l with _ | ⟨b, l⟩
  · cases h
  · simp
set_option maxHeartbeats 1000000 in
theorem cutlite9_yes (s : ByteArray) (w : World) (hs : s.size ≤ 140737488355328) (h : s.data.toList.getLast? = some 34) :
    Calls Tryd.prog 69 #[.string s, .string ⟨#[34]⟩] w fun e w' => e = .returned (.tuple #[.string ⟨s.data.toList.dropLast.toArray⟩, .bool true]) ∧ w = w' := by
  have cH := Tryd.stringslite_HasSuffix s ⟨#[34]⟩ w (by omega)
  have e1 : Lib.hasSuffix s.data.toList (ByteArray.mk #[34]).data.toList = true := (Es.suf_34 _).trans (decide_eq_true h)
  rw [e1] at cH
  have hp := last_pos h
  rw [← Lib.size_eq] at hp
  have e2 : s.data.toList.dropLast = s.data.toList.take (s.size - 1) := by rw [List.dropLast_eq_take, ← Lib.size_eq]
  have e3 := extract_to s (s.size - 1)
  rw [← e2] at e3
  have e4 : ((s.size : Int) - 1).toNat = s.size - 1 := by omega
  have e5 : (s.size : Int) - 1 = ((s.size - 1 : Nat) : Int) := by omega
  have HX := Lib.hid e3
  clear e1 e2 e3 h
  go_enter Tryd.func69, Tryd.ntmps69
  go_wp2_with (go_at_call 71; refine cH.mono ?_; rintro e w' ⟨rfl, rfl⟩)
  go_ret2
  rw [← HX.out]
  exact ⟨rfl, rfl⟩
set_option maxHeartbeats 1000000 in
theorem cutlite9_no (s : ByteArray) (w : World) (hs : s.size ≤ 140737488355328) (h : s.data.toList.getLast? ≠ some 34) :
    Calls Tryd.prog 69 #[.string s, .string ⟨#[34]⟩] w fun e w' => e = .returned (.tuple #[.string s, .bool false]) ∧ w = w' := by
  have cH := Tryd.stringslite_HasSuffix s ⟨#[34]⟩ w (by omega)
  have e1 : Lib.hasSuffix s.data.toList (ByteArray.mk #[34]).data.toList = false := (Es.suf_34 _).trans (decide_eq_false h)
  rw [e1] at cH
  clear e1 h
  go_enter Tryd.func69, Tryd.ntmps69
  go_wp2_with (go_at_call 71; refine cH.mono ?_; rintro e w' ⟨rfl, rfl⟩)
  go_ret2
  exact ⟨rfl, rfl⟩
set_option maxHeartbeats 1000000 in
theorem cutsuf_yes (s : ByteArray) (w : World) (hs : s.size ≤ 140737488355328) (h : s.data.toList.getLast? = some 34) :
    Calls Tryd.prog 66 #[.string s, .string ⟨#[34]⟩] w fun e w' => e = .returned (.tuple #[.string ⟨s.data.toList.dropLast.toArray⟩, .bool true]) ∧ w = w' := by
  have cH := cutlite9_yes s w hs h
  generalize (ByteArray.mk s.data.toList.dropLast.toArray) = d at *
  clear h
  go_enter Tryd.func66, Tryd.ntmps66
  go_wp2_with (go_at_call 69; refine cH.mono ?_; rintro e w' ⟨rfl, rfl⟩)
  go_ret2
  exact ⟨rfl, rfl⟩
set_option maxHeartbeats 1000000 in
theorem cutsuf_no (s : ByteArray) (w : World) (hs : s.size ≤ 140737488355328) (h : s.data.toList.getLast? ≠ some 34) :
    Calls Tryd.prog 66 #[.string s, .string ⟨#[34]⟩] w fun e w' => e = .returned (.tuple #[.string s, .bool false]) ∧ w = w' := by
  have cH := cutlite9_no s w hs h
  clear h
  go_enter Tryd.func66, Tryd.ntmps66
  go_wp2_with (go_at_call 69; refine cH.mono ?_; rintro e w' ⟨rfl, rfl⟩)
  go_ret2
  exact ⟨rfl, rfl⟩
set_option maxHeartbeats 2000000 in
theorem unq_any (s : ByteArray) (w : World) (hs : s.size ≤ 400000) :
    Calls Tryd.prog 63 #[.string s] w fun e w' => ∃ X, e = .returned (.tuple #[.string X, .bool (Es.vq s.data.toList).isSome]) ∧ (∀ m, Es.vq s.data.toList = some m → X = ⟨m.toArray⟩) ∧ Gr w w' := by
  have cP := pre_any s w
  by_cases hh : s.data.toList.head? = some 34
  · rw [decide_eq_true hh] at cP
    have hpos : 1 ≤ s.size := by
      rcases Nat.eq_zero_or_pos s.size with h | h
      · rw [empty_list s h] at hh; cases hh
      · exact h
    have hx : (s.extract 1 s.size).data.toList = s.data.toList.tail := by rw [ext_data, List.drop_one]
    have hxz : (s.extract 1 s.size).size ≤ 140737488355328 := by rw [Lib.size_eq, hx, List.length_tail, ← Lib.size_eq]; omega
    have hq := Es.vq_in hh
    by_cases hl : s.data.toList.tail.getLast? = some 34
    · have cC := fun w => cutsuf_yes (s.extract 1 s.size) w hxz (by rw [hx]; exact hl)
      rw [hx] at cC
      have cK := fun w => cont_any ⟨s.data.toList.tail.dropLast.toArray⟩ w
      have e1 : (ByteArray.mk s.data.toList.tail.dropLast.toArray).data.toList = s.data.toList.tail.dropLast := rfl
      rw [e1] at cK
      by_cases hc : 34 ∈ s.data.toList.tail.dropLast
      · rw [if_neg (fun h => h.2 hc)] at hq
        rw [hq]
        have e2 : s.data.toList.tail.dropLast.contains 34 = true := by simpa using hc
        rw [e2] at cK
        clear e1 e2 hc hl hx hh hq
        generalize (ByteArray.mk s.data.toList.tail.dropLast.toArray) = d at *
        go_enter Tryd.func63, Tryd.ntmps63
        go_wp2_with (first
          | (go_at_call 65; refine cP.mono ?_; rintro e w' ⟨rfl, rfl⟩)
          | (go_at_call 66; refine (cC _).mono ?_; rintro e w' ⟨rfl, rfl⟩)
          | (go_at_call 67; refine (cK _).mono ?_; rintro e w' ⟨rfl, rfl⟩))
        go_ret2
        exact ⟨_, rfl, fun m h => (by simp at h), Gr.refl _⟩
      · rw [if_pos ⟨hl, hc⟩] at hq
        have e2 : s.data.toList.tail.dropLast.contains 34 = false := by simpa using hc
        rw [e2] at cK
        rw [hq]
        have HX : Hid (∀ m, some s.data.toList.tail.dropLast = some m → (ByteArray.mk s.data.toList.tail.dropLast.toArray) = ⟨m.toArray⟩) := Lib.hid (fun m h => by injection h with h; rw [h])
        have e3 : (some s.data.toList.tail.dropLast).isSome = true := rfl
        rw [e3]
        clear e1 e2 e3 hc hl hx hh hq
        generalize (ByteArray.mk s.data.toList.tail.dropLast.toArray) = d at *
        generalize s.data.toList.tail.dropLast = dl at *
        go_enter Tryd.func63, Tryd.ntmps63
        go_wp2_with (first
          | (go_at_call 65; refine cP.mono ?_; rintro e w' ⟨rfl, rfl⟩)
          | (go_at_call 66; refine (cC _).mono ?_; rintro e w' ⟨rfl, rfl⟩)
          | (go_at_call 67; refine (cK _).mono ?_; rintro e w' ⟨rfl, rfl⟩))
        go_ret2
        exact ⟨_, rfl, HX.out, Gr.refl _⟩
    · have cC := fun w => cutsuf_no (s.extract 1 s.size) w hxz (by rw [hx]; exact hl)
      rw [if_neg (fun h => hl h.1)] at hq
      rw [hq]
      clear hl hx hh hq
      go_enter Tryd.func63, Tryd.ntmps63
      go_wp2_with (first
        | (go_at_call 65; refine cP.mono ?_; rintro e w' ⟨rfl, rfl⟩)
        | (go_at_call 66; refine (cC _).mono ?_; rintro e w' ⟨rfl, rfl⟩))
      go_ret2
      exact ⟨_, rfl, fun m h => (by simp at h), Gr.refl _⟩
  · rw [decide_eq_false hh] at cP
    have hq := Es.vq_out hh
    have cA := fun w => cany_any ⟨#[34, 58, 59, 44]⟩ asc4 s w (by omega)
    have e2 : (s.data.toList.any ((ByteArray.mk #[34, 58, 59, 44]).data.toList.contains ·)) = s.data.toList.any Es.qb := rfl
    rw [e2] at cA
    obtain ⟨Q, hQ⟩ : ∃ Q, s.data.toList.any Es.qb = Q := ⟨_, rfl⟩
    rw [hQ] at hq cA
    rw [hq]
    cases Q
    · have e3 : (if false = true then none else some s.data.toList) = some s.data.toList := rfl
      rw [e3]
      have HX : Hid (∀ m, some s.data.toList = some m → s = ⟨m.toArray⟩) := Lib.hid (fun m h => by injection h with h; rw [← h])
      have e4 : (some s.data.toList).isSome = true := rfl
      rw [e4]
      clear hq hQ hh e2 e3 e4
      go_enter Tryd.func63, Tryd.ntmps63
      go_wp2_with (first
        | (go_at_call 65; refine cP.mono ?_; rintro e w' ⟨rfl, rfl⟩)
        | (go_at_call 36; refine (cA _).mono ?_; rintro e w' ⟨rfl, hg⟩))
      go_ret2
      exact ⟨_, rfl, HX.out, hg⟩
    · have e3 : (if true = true then none else some s.data.toList) = none := rfl
      rw [e3]
      clear hq hQ hh e2 e3
      go_enter Tryd.func63, Tryd.ntmps63
      go_wp2_with (first
        | (go_at_call 65; refine cP.mono ?_; rintro e w' ⟨rfl, rfl⟩)
        | (go_at_call 36; refine (cA _).mono ?_; rintro e w' ⟨rfl, hg⟩))
      go_ret2
      exact ⟨_, rfl, fun m h => (by simp at h), hg⟩
end Go.Proofs.YtpcmhaflmpcicaaDoor
