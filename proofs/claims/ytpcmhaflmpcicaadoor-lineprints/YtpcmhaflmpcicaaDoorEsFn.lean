/- What package escape's small functions return: check, afterBackslash, afterCaret, cut, unquoted. -/
import Derived.Test.YtpcmhaflmpcicaaDoorEs
import Derived.Test.YtpcmhaflmpcicaaDoorEsAny
import Derived.Test.YtpcmhaflmpcicaaDoorFdMem
namespace Go.Proofs.YtpcmhaflmpcicaaDoor
open Go.RowKit

/- tests on single bytes -/
theorem by_t {b : UInt8} (c : UInt8) {n : Int} (h : ((b.toNat : Int) == n) = true) (hn : (c.toNat : Int) = n := by rfl) : b = c := by
  have h2 : (b.toNat : Int) = n := by simpa only [beq_iff_eq] using h
  exact UInt8.toNat_inj.1 (by omega)
theorem by_f {b : UInt8} (c : UInt8) {n : Int} (h : ((b.toNat : Int) == n) = false) (hn : (c.toNat : Int) = n := by rfl) : b ≠ c := by
  rintro rfl
  rw [hn] at h; simp at h
theorem drop_at (s : ByteArray) (i : Nat) (h : i < s.size) : s.data.toList.drop i = s[i] :: s.data.toList.drop (i + 1) := by
  have h2 : i < s.data.toList.length := by rw [← Lib.size_eq]; exact h
  exact List.drop_eq_getElem_cons h2
theorem take_at (s : ByteArray) (i : Nat) (h : i < s.size) : s.data.toList.take (i + 1) = s.data.toList.take i ++ [s[i]] := by
  have h2 : i < s.data.toList.length := by rw [← Lib.size_eq]; exact h
  exact List.take_succ_eq_append_getElem h2
theorem drop_end (s : ByteArray) (i : Nat) (h : s.size ≤ i) : s.data.toList.drop i = [] := List.drop_eq_nil_of_le (by rw [← Lib.size_eq]; exact h)
theorem take_end (s : ByteArray) (i : Nat) (h : s.size ≤ i) : s.data.toList.take i = s.data.toList := List.take_of_length_le (by rw [← Lib.size_eq]; exact h)

namespace Es
def ctl (f : Bool) : ByteArray := if f then ⟨#[9, 10]⟩ else ⟨#[9]⟩
theorem ctl_idx (f : Bool) (b : UInt8) (h : b.toNat < 32) : decide (Lib.indexByte (ctl f).data.toList b < 0) = bad f b := by
  revert h
  refine byte_ind (P := fun b => b.toNat < 32 → decide (Lib.indexByte (ctl f).data.toList b < 0) = bad f b) ?_ b
  cases f <;> decide +kernel
theorem bad_del (f : Bool) : bad f 127 = true := by cases f <;> rfl
theorem bad_high (f : Bool) (b : UInt8) (h : b ≠ 127) (h2 : 32 ≤ b.toNat) : bad f b = false := by
  unfold bad
  have h3 : (b == 127) = false := by simpa using h
  have h4 : decide (b.toNat < 32) = false := decide_eq_false (by omega)
  rw [h3, h4]; simp
theorem any_at {f : Bool} {s : ByteArray} {i : Nat} (h : i < s.size) (hb : bad f s[i] = true) : s.data.toList.any (bad f) = true := by
  rw [List.any_eq_true]
  exact ⟨s[i], List.mem_of_getElem? (at_toNat s i h), hb⟩
theorem any_more {f : Bool} {s : ByteArray} {i : Nat} (h : i < s.size) (h0 : (s.data.toList.take i).any (bad f) = false) (hb : bad f s[i] = false) : (s.data.toList.take (i + 1)).any (bad f) = false := by
  rw [take_at s i h, List.any_append, h0]; simp [hb]
end Es

set_option maxHeartbeats 2000000 in
set_option maxRecDepth 100000 in
theorem check_any (f : Bool) (s : ByteArray) (w : World) (ht : Tab w) (hs : s.size ≤ 140737488355328) :
    Calls Tryd.prog 35 #[.string s, .string (Es.ctl f)] w fun e w' => e = .returned (.int .i64 (Es.clE f s.data.toList)) ∧ Gr w w' := by
  have cV := valid_any s w ht (by omega)
  obtain ⟨V, hV⟩ : ∃ V, Lib.validD s.data.toList = V := ⟨_, rfl⟩
  rw [hV] at cV
  cases V
  · rw [Es.clE_utf hV]
    clear hV
    go_enter Tryd.func35, Tryd.ntmps35
    go_wp2_with (go_at_call 29; refine cV.mono ?_; rintro e w1 ⟨rfl, hg1⟩)
    go_ret
    exact ⟨rfl, hg1⟩
  · have HB := Lib.hid (fun h => Es.clE_val (f := f) hV h)
    have HO := Lib.hid (fun h => Es.clE_ok (f := f) hV h)
    have HC := Lib.hid (fun b h => Es.ctl_idx f b h)
    clear hV
    generalize Es.clE f s.data.toList = E at *
    generalize Es.ctl f = cs at *
    go_enter Tryd.func35, Tryd.ntmps35
    go_wp2_with (go_at_call 29; refine cV.mono ?_; rintro e w1 ⟨rfl, hg1⟩)
    go_loopg [12] s.size (fun g v wx => ∃ i : Nat, v = .int .i64 (i : Int) ∧ i + g = s.size ∧ w1 = wx ∧ (s.data.toList.take i).any (Es.bad f) = false)
    case atStart => exact ⟨0, rfl, by omega, rfl, by simp⟩
    case round =>
      obtain ⟨i, rfl, hig, rfl, hno⟩ := hrel
      have HG := Lib.hid hig
      have HN := Lib.hid hno
      clear hig hno
      by_cases hi : i < s.size
      · have hlt : (s[i].toNat : Int) < 256 := by have := UInt8.toNat_lt s[i]; omega
        cases h127 : ((s[i].toNat : Int) == 127)
        · by_cases h32 : (s[i].toNat : Int) < 32
          · have cI := Tryd.strings_IndexByte cs (s[i].toNat : Int) w1
            have e1 : ((s[i].toNat : Int).toNat.toUInt8) = s[i] := by simp
            rw [e1] at cI
            have hci := HC.out s[i] (by omega)
            obtain ⟨v, hv⟩ : ∃ v, Lib.indexByte cs.data.toList s[i] = v := ⟨_, rfl⟩
            rw [hv] at cI hci
            clear e1 hv
            by_cases hv0 : v < 0
            · have hb : Es.bad f s[i] = true := by rw [← hci]; exact decide_eq_true hv0
              have HE := Lib.hid (HB.out (Es.any_at hi hb))
              clear hci hb
              go_wp2_with (go_at_call 46; refine cI.mono ?_; rintro e w' ⟨rfl, rfl⟩)
              go_ret
              rw [HE.out]
              exact ⟨rfl, hg1⟩
            · have hb : Es.bad f s[i] = false := by rw [← hci]; exact decide_eq_false hv0
              have HE := Lib.hid (Es.any_more hi HN.out hb)
              clear hci hb
              go_wp2_with (go_at_call 46; refine cI.mono ?_; rintro e w' ⟨rfl, rfl⟩)
              go_roundg (s.size - (i + 1))
              case measure => have := HG.out; omega
              case rel => exact ⟨i + 1, by go_num, by omega, rfl, HE.out⟩
          · have hb : Es.bad f s[i] = false := Es.bad_high f _ (by_f 127 h127) (by omega)
            have HE := Lib.hid (Es.any_more hi HN.out hb)
            clear hb
            go_wp2
            go_roundg (s.size - (i + 1))
            case measure => have := HG.out; omega
            case rel => exact ⟨i + 1, by go_num, by omega, rfl, HE.out⟩
        · have hb : Es.bad f s[i] = true := by rw [by_t 127 h127]; exact Es.bad_del f
          have HE := Lib.hid (HB.out (Es.any_at hi hb))
          clear hb
          go_wp2
          go_ret
          rw [HE.out]
          exact ⟨rfl, hg1⟩
      · have he := HN.out
        rw [take_end s i (by omega)] at he
        have HE := Lib.hid (HO.out he)
        obtain rfl : i = s.size := by have := HG.out; omega
        clear he
        go_wp2
        go_ret
        rw [HE.out]
        exact ⟨rfl, hg1⟩

theorem nonempty_head (s : ByteArray) (h : 0 < s.size) : s.data.toList = s[0] :: s.data.toList.tail := by
  have := drop_at s 0 h
  rw [List.drop_zero] at this
  rw [this]; simp
theorem empty_list (s : ByteArray) (h : s.size = 0) : s.data.toList = [] := List.eq_nil_of_length_eq_zero (by rw [← Lib.size_eq]; exact h)
theorem emp_t (s : ByteArray) (h : s.size = 0) : s.toList.isEmpty = true := by rw [Lib.toList_data, isEmpty_size2]; simp [h]
theorem emp_f (s : ByteArray) (h : 0 < s.size) : s.toList.isEmpty = false := by rw [Lib.toList_data, isEmpty_size2]; exact decide_eq_false (by omega)
namespace Es
theorem ac_n (r : List UInt8) : ac (110 :: r) = some 10 := rfl
theorem ac_q (r : List UInt8) : ac (39 :: r) = some 34 := rfl
theorem ac_c (r : List UInt8) : ac (94 :: r) = some 94 := rfl
theorem ac_no {d : UInt8} {r : List UInt8} (h1 : d ≠ 110) (h2 : d ≠ 39) (h3 : d ≠ 94) : ac (d :: r) = none := by simp [ac, h1, h2, h3]
end Es
set_option maxHeartbeats 2000000 in
theorem acaret_any (s : ByteArray) (w : World) :
    Calls Tryd.prog 64 #[.string s] w fun e w' => e = .returned (.tuple #[.int .u8 (match Es.ac s.data.toList with | none => 0 | some x => (x.toNat : Int)), .bool (Es.ac s.data.toList).isSome]) ∧ w = w' := by
  by_cases h0 : s.size = 0
  · rw [empty_list s h0]
    have hem := emp_t s h0
    go_enter Tryd.func64, Tryd.ntmps64
    go_wp2
    go_ret2
    exact ⟨rfl, rfl⟩
  · have h1 : 0 < s.size := by omega
    have hem := emp_f s h1
    have hh := nonempty_head s h1
    cases h110 : ((s[0].toNat : Int) == 110)
    · cases h39 : ((s[0].toNat : Int) == 39)
      · cases h94 : ((s[0].toNat : Int) == 94)
        · rw [hh, Es.ac_no (by_f 110 h110) (by_f 39 h39) (by_f 94 h94)]
          clear hh
          go_enter Tryd.func64, Tryd.ntmps64
          go_wp2
          go_ret2
          exact ⟨rfl, rfl⟩
        · rw [by_t 94 h94] at hh
          rw [hh, Es.ac_c]
          clear hh
          go_enter Tryd.func64, Tryd.ntmps64
          go_wp2
          go_ret2
          exact ⟨rfl, rfl⟩
      · rw [by_t 39 h39] at hh
        rw [hh, Es.ac_q]
        clear hh
        go_enter Tryd.func64, Tryd.ntmps64
        go_wp2
        go_ret2
        exact ⟨rfl, rfl⟩
    · rw [by_t 110 h110] at hh
      rw [hh, Es.ac_n]
      clear hh
      go_enter Tryd.func64, Tryd.ntmps64
      go_wp2
      go_ret2
      exact ⟨rfl, rfl⟩
/- from a place on: what is ahead of and behind the first unescaped comma -/
namespace Es
def cuAt (l : List UInt8) (i : Nat) : Prop := cu l = (l.take i ++ (cu (l.drop i)).1, (cu (l.drop i)).2)
end Es
end Go.Proofs.YtpcmhaflmpcicaaDoor
