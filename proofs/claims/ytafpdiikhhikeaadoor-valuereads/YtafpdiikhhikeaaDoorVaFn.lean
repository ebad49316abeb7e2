/- What value.isDigit, decimal, signed, cutPart and the reference's Digits return. -/
import Derived.Test.YtafpdiikhhikeaaDoorClkRead
import Derived.Test.YtafpdiikhhikeaaDoorVe
import Derived.BigQuiet
import Derived.OwnWalk
import Derived.Deep.LoopGhost
namespace Go.Proofs.YtafpdiikhhikeaaDoor
open Go.RowKit

theorem emp_t (s : ByteArray) (h : s.size = 0) : s.toList.isEmpty = true := by
  have : s.data.toList = [] := List.eq_nil_of_length_eq_zero (by rw [← Lib.size_eq]; exact h)
  rw [Lib.toList_data, this]; rfl
theorem emp_f (s : ByteArray) (h : s.size ≠ 0) : s.toList.isEmpty = false := by
  rw [Lib.toList_data]
  rcases e : s.data.toList with _ | ⟨b, l⟩
  · rw [Lib.size_eq, e] at h; exact absurd rfl h
  · rfl
theorem isdigit_any (c : UInt8) (w : World) : Calls Tryd.prog 54 #[.int .u8 (c.toNat : Int)] w fun e w' => e = .returned (.bool (Txt.isD c)) ∧ w = w' := by
  have e1 : Txt.isD c = (decide ((48 : Int) ≤ c.toNat) && decide ((c.toNat : Int) ≤ 57)) := by
    unfold Txt.isD
    rw [Bool.eq_iff_iff]; simp; omega
  rw [e1]
  rcases h1 : decide ((48 : Int) ≤ c.toNat)
  · go_enter Tryd.func54, Tryd.ntmps54
    go_wp2
    go_ret
    exact ⟨rfl, rfl⟩
  · rcases h2 : decide ((c.toNat : Int) ≤ 57)
    · go_enter Tryd.func54, Tryd.ntmps54
      go_wp2
      go_ret
      exact ⟨rfl, rfl⟩
    · go_enter Tryd.func54, Tryd.ntmps54
      go_wp2
      go_ret
      exact ⟨rfl, rfl⟩
theorem signed_any (n : Int) (b : Bool) (w : World) (h1 : -1000000000000000000 ≤ n) (h2 : n ≤ 1000000000000000000) : Calls Tryd.prog 33 #[.int .i64 n, .bool b] w fun e w' => e = .returned (.int .i64 (Va.sg b n)) ∧ w = w' := by
  rcases b
  · go_enter Tryd.func33, Tryd.ntmps33
    go_wp2
    go_ret
    exact ⟨rfl, rfl⟩
  · go_enter Tryd.func33, Tryd.ntmps33
    go_wp2
    go_ret
    exact ⟨rfl, rfl⟩

namespace Va
theorem take_lt (l : List UInt8) (i k : Nat) (hl : l.length ≤ k) (h : (l.take i).all Txt.isD = true) : Txt.val (l.take i) 0 < 10 ^ k := by
  have h2 := Txt.val_lt _ 0 h
  have h3 : 10 ^ (l.take i).length ≤ 10 ^ k := Nat.pow_le_pow_right (by omega) (by rw [List.length_take]; omega)
  omega
theorem isD_int {c : UInt8} (h : Txt.isD c = true) : (48 : Int) ≤ c.toNat ∧ (c.toNat : Int) ≤ 57 := by
  have := Txt.isD_iff.1 h
  omega
theorem dgs_yes {l : List UInt8} (h1 : l ≠ []) (h2 : l.all Txt.isD = true) : dgs l = Txt.val l 0 := if_pos ⟨h1, h2⟩
theorem dgs_no {l : List UInt8} (h2 : l.all Txt.isD = false) : dgs l = -1 := if_neg (by simp [h2])
theorem dgs_nil : dgs [] = -1 := rfl
theorem ne_of_size {s : ByteArray} (h : s.size ≠ 0) : s.data.toList ≠ [] := by
  intro e; apply h; rw [Lib.size_eq, e]; rfl
end Va
def decV (l : List UInt8) (k : Nat) : Int := if Va.num l k then (Txt.val l 0 : Int) else 0

set_option maxHeartbeats 1000000 in
theorem decimal_some (s : ByteArray) (k : Nat) (w : World) (hk : k ≤ 17) (h0 : s.size ≠ 0) (hl : s.size ≤ k) :
    Calls Tryd.prog 37 #[.string s, .int .i64 (k : Int)] w fun e w' => e = .returned (.tuple #[.int .i64 (decV s.data.toList k), .bool (Va.num s.data.toList k)]) ∧ w = w' := by
  have hsz := Lib.size_eq s
  have h1 := emp_f s h0
  have h2 : decide (k < s.size) = false := by simp; omega
  have hn : Va.num s.data.toList k = s.data.toList.all Txt.isD := by
    rw [Bool.eq_iff_iff, Va.num_iff]
    exact ⟨fun h => h.2.2, fun h => ⟨Va.ne_of_size h0, by omega, h⟩⟩
  have HN := Lib.hid hn
  have HZ := Lib.hid hsz
  clear hn hsz
  have hall : ∀ i, (s.data.toList.take i).all Txt.isD = true → Txt.val (s.data.toList.take i) 0 < 100000000000000000 := fun i hi => by
    have := Va.take_lt s.data.toList i 17 (by rw [← HZ.out]; omega) hi
    omega
  have HA := Lib.hid hall
  clear hall
  go_enter Tryd.func37, Tryd.ntmps37
  go_wp2
  go_loopg [6, 18] s.size (fun g n i wx => ∃ j : Nat, j + g = s.size ∧ i = .int .i64 (j : Int) ∧ n = .int .i64 (Txt.val (s.data.toList.take j) 0 : Int) ∧ w = wx ∧ (s.data.toList.take j).all Txt.isD = true)
  case atStart => exact ⟨0, by omega, rfl, rfl, rfl, rfl⟩
  case round =>
    obtain ⟨j, jg, rfl, rfl, rfl, ha⟩ := hrel
    have j1 : j ≤ s.size := by omega
    have HG := Lib.hid jg
    clear jg
    have vb := HA.out j ha
    have HJ := Lib.hid ha
    clear ha
    by_cases hz : j < s.size
    · have h' : j < s.data.toList.length := by rw [← HZ.out]; exact hz
      have ht := Txt.take_succ_val _ j h'
      have hx := Txt.all_take_succ _ j h' HJ.out
      have eb : s.data.toList[j] = s[j] := rfl
      rw [eb] at ht hx
      have HT := Lib.hid ht
      have HX := Lib.hid hx
      clear eb ht hx
      have cD := isdigit_any s[j] w
      rcases hd : Txt.isD s[j]
      · rw [hd] at cD
        have hf : s.data.toList.all Txt.isD = false := by
          rw [List.all_eq_false]
          exact ⟨s[j], List.getElem_mem h', by simp [hd]⟩
        go_wp2_with (go_at_call 54; refine cD.mono ?_; rintro e w' ⟨rfl, rfl⟩)
        go_ret2
        refine ⟨?_, rfl⟩
        unfold decV
        rw [HN.out, hf]
        rfl
      · rw [hd] at cD
        obtain ⟨i1, i2⟩ := Va.isD_int hd
        go_wp2_with (go_at_call 54; refine cD.mono ?_; rintro e w' ⟨rfl, rfl⟩)
        go_roundg (s.size - (j + 1))
        case measure => have := HG.out; omega
        case rel =>
          refine ⟨j + 1, by omega, by go_num, ?_, rfl, HX.out hd⟩
          rw [HT.out]
          go_num
    · have hz : s.size = j := by omega
      have e : s.data.toList.take j = s.data.toList := List.take_of_length_le (by rw [← HZ.out]; omega)
      have hj := HJ.out
      rw [e] at vb hj
      rw [e]
      have e2 : decV s.data.toList k = Txt.val s.data.toList 0 := by unfold decV; rw [HN.out, hj]; rfl
      have E2 := Lib.hid e2
      have HJ := Lib.hid hj
      clear hj e2 e
      go_wp2
      go_ret2
      refine ⟨?_, rfl⟩
      rw [HN.out, HJ.out, E2.out] <;> rfl
set_option maxHeartbeats 1000000 in
theorem decimal_any (s : ByteArray) (k : Nat) (w : World) (hk : k ≤ 17) :
    Calls Tryd.prog 37 #[.string s, .int .i64 (k : Int)] w fun e w' => e = .returned (.tuple #[.int .i64 (decV s.data.toList k), .bool (Va.num s.data.toList k)]) ∧ w = w' := by
  by_cases h0 : s.size = 0
  · have h1 := emp_t s h0
    have hn : Va.num s.data.toList k = false := by
      have : s.data.toList = [] := List.eq_nil_of_length_eq_zero (by rw [← Lib.size_eq]; exact h0)
      rw [this]; rfl
    unfold decV
    rw [hn]
    go_enter Tryd.func37, Tryd.ntmps37
    go_wp2
    go_ret2
    exact ⟨rfl, rfl⟩
  · by_cases hl : s.size ≤ k
    · exact decimal_some s k w hk h0 hl
    · have h1 := emp_f s h0
      have h2 : decide ((k : Int) < s.size) = true := by simp; omega
      have hn : Va.num s.data.toList k = false := by
        rw [Bool.eq_false_iff]; intro h
        have := (Va.num_iff.1 h).2.1
        rw [← Lib.size_eq] at this
        omega
      unfold decV
      rw [hn]
      go_enter Tryd.func37, Tryd.ntmps37
      go_wp2
      go_ret2
      exact ⟨rfl, rfl⟩

set_option maxHeartbeats 1000000 in
theorem digits12_any (s : ByteArray) (w : World) (hl : s.size ≤ 17) :
    Calls Tryd.prog 38 #[.string s] w fun e w' => e = .returned (.int .i64 (Va.dgs s.data.toList)) ∧ w = w' := by
  have hsz := Lib.size_eq s
  have HZ := Lib.hid hsz
  clear hsz
  have hall : ∀ i, (s.data.toList.take i).all Txt.isD = true → Txt.val (s.data.toList.take i) 0 < 100000000000000000 := fun i hi => by
    have := Va.take_lt s.data.toList i 17 (by rw [← HZ.out]; omega) hi
    omega
  have HA := Lib.hid hall
  clear hall
  go_enter Tryd.func38, Tryd.ntmps38
  go_wp2
  go_loopg [3, 7] s.size (fun g n i wx => ∃ j : Nat, j + g = s.size ∧ i = .int .i64 (j : Int) ∧ n = .int .i64 (Txt.val (s.data.toList.take j) 0 : Int) ∧ w = wx ∧ (s.data.toList.take j).all Txt.isD = true)
  case atStart => exact ⟨0, by omega, rfl, rfl, rfl, rfl⟩
  case round =>
    obtain ⟨j, jg, rfl, rfl, rfl, ha⟩ := hrel
    have j1 : j ≤ s.size := by omega
    have HG := Lib.hid jg
    clear jg
    have vb := HA.out j ha
    have HJ := Lib.hid ha
    clear ha
    by_cases hz : j < s.size
    · have h' : j < s.data.toList.length := by rw [← HZ.out]; exact hz
      have ht := Txt.take_succ_val _ j h'
      have hx := Txt.all_take_succ _ j h' HJ.out
      have eb : s.data.toList[j] = s[j] := rfl
      rw [eb] at ht hx
      have HT := Lib.hid ht
      have HX := Lib.hid hx
      clear eb ht hx
      rcases hd : Txt.isD s[j]
      · have hf : s.data.toList.all Txt.isD = false := by
          rw [List.all_eq_false]
          exact ⟨s[j], List.getElem_mem h', by simp [hd]⟩
        have HF := Lib.hid (Va.dgs_no hf)
        have hn : ¬ (48 ≤ s[j].toNat ∧ s[j].toNat ≤ 57) := fun h => by rw [Txt.isD_iff.2 h] at hd; cases hd
        clear hf hd
        by_cases c1 : (s[j].toNat : Int) < 48
        · clear hn
          go_wp2
          go_ret
          exact ⟨by rw [HF.out] <;> rfl, rfl⟩
        · have c2 : (57 : Int) < s[j].toNat := by omega
          clear hn
          go_wp2
          go_ret
          exact ⟨by rw [HF.out] <;> rfl, rfl⟩
      · obtain ⟨i1, i2⟩ := Va.isD_int hd
        have d1 : decide ((s[j].toNat : Int) < 48) = false := by simp; omega
        have d2 : decide ((57 : Int) < s[j].toNat) = false := by simp; omega
        go_wp2
        go_roundg (s.size - (j + 1))
        case measure => have := HG.out; omega
        case rel =>
          refine ⟨j + 1, by omega, by go_num, ?_, rfl, HX.out hd⟩
          rw [HT.out]
          go_num
    · have hz : s.size = j := by omega
      have e : s.data.toList.take j = s.data.toList := List.take_of_length_le (by rw [← HZ.out]; omega)
      have hj := HJ.out
      rw [e] at vb hj
      rw [e]
      by_cases h0 : s.size = 0
      · have he := emp_t s h0
        have hd : Va.dgs s.data.toList = -1 := by
          have : s.data.toList = [] := List.eq_nil_of_length_eq_zero (by rw [← HZ.out]; exact h0)
          rw [this]; rfl
        have HD := Lib.hid hd
        clear hd hj e
        go_wp2
        go_ret
        exact ⟨by rw [HD.out] <;> rfl, rfl⟩
      · have he := emp_f s h0
        have HD := Lib.hid (Va.dgs_yes (Va.ne_of_size h0) hj)
        clear hj e
        go_wp2
        go_ret
        exact ⟨by rw [HD.out] <;> rfl, rfl⟩

theorem idx_tw {s : ByteArray} {j : Nat} (h : j < s.size) (ha : (s.data.toList.take j).all Txt.isD = true) (hd : Txt.isD s[j] = false) :
    s.data.toList.takeWhile Txt.isD = s.data.toList.take j ∧ s.data.toList.dropWhile Txt.isD = s[j] :: s.data.toList.drop (j + 1) := by
  have h' : j < s.data.toList.length := by rw [← Lib.size_eq]; exact h
  have e : s.data.toList = s.data.toList.take j ++ s[j] :: s.data.toList.drop (j + 1) := by
    conv => lhs; rw [← List.take_append_drop j s.data.toList, List.drop_eq_getElem_cons h']
    rfl
  have := Va.tw_app (r := s.data.toList.drop (j + 1)) ha hd
  rw [← e] at this
  exact this
def cutV (l : List UInt8) : Value := match Va.cut l with
  | some (n, c, r) => .tuple #[.int .i64 (n : Int), .int .u8 (c.toNat : Int), .string ⟨r.toArray⟩]
  | none => .tuple #[.int .i64 0, .int .u8 0, .string ⟨#[]⟩]
set_option maxHeartbeats 1000000 in
theorem cutpart_any (s : ByteArray) (w : World) (hl : s.size ≤ 1000000) :
    Calls Tryd.prog 52 #[.string s] w fun e w' => e = .returned (cutV s.data.toList) ∧ Gr w w' := by
  have hsz := Lib.size_eq s
  have HZ := Lib.hid hsz
  clear hsz
  go_enter Tryd.func52, Tryd.ntmps52
  go_wp2
  go_loopg [5] s.size (fun g i wx => ∃ j : Nat, j + g = s.size ∧ i = .int .i64 (j : Int) ∧ w = wx ∧ (s.data.toList.take j).all Txt.isD = true)
  case atStart => exact ⟨0, by omega, rfl, rfl, rfl⟩
  case round =>
    obtain ⟨j, jg, rfl, rfl, ha⟩ := hrel
    have j1 : j ≤ s.size := by omega
    have HG := Lib.hid jg
    clear jg
    have HJ := Lib.hid ha
    clear ha
    have ex : (s.extract 0 j).data.toList = s.data.toList.take j := by rw [Lib.extract_data]; simp
    have cC := fun w => decimal_any (s.extract 0 j) 10 w (by omega)
    rw [ex] at cC
    clear ex
    by_cases hz : j < s.size
    · have h' : j < s.data.toList.length := by rw [← HZ.out]; exact hz
      have hx := Txt.all_take_succ _ j h' HJ.out
      have eb : s.data.toList[j] = s[j] := rfl
      rw [eb] at hx
      have HX := Lib.hid hx
      clear eb hx
      have cD := isdigit_any s[j] w
      rcases hd : Txt.isD s[j]
      · rw [hd] at cD
        obtain ⟨t1, t2⟩ := idx_tw hz HJ.out hd
        have ev : cutV s.data.toList = if Va.num (s.data.toList.take j) 10 then .tuple #[.int .i64 (decV (s.data.toList.take j) 10), .int .u8 (s[j].toNat : Int), .string ⟨(s.data.toList.drop (j + 1)).toArray⟩] else .tuple #[.int .i64 0, .int .u8 0, .string ⟨#[]⟩] := by
          unfold cutV Va.cut decV
          rw [t2, t1]
          rcases Va.num (s.data.toList.take j) 10 <;> rfl
        have hr : s.extract (j + 1) s.size = ⟨(s.data.toList.drop (j + 1)).toArray⟩ := by
          rw [Lib.extract_eq]
          congr 2
          refine List.take_of_length_le ?_
          rw [List.length_drop, ← HZ.out]; omega
        have HV := Lib.hid ev
        have HR := Lib.hid hr
        clear t1 t2 ev hr
        generalize decV (s.data.toList.take j) 10 = v at *
        rcases hn : Va.num (s.data.toList.take j) 10
        · rw [hn] at cC HV
          go_wp2_with (first | (go_at_call 54; refine cD.mono ?_; rintro e w' ⟨rfl, rfl⟩) | (go_at_call 37; refine (cC _).mono ?_; rintro e w' ⟨rfl, rfl⟩))
          go_ret3
          exact ⟨by rw [HV.out] <;> rfl, Gr.refl _⟩
        · rw [hn] at cC HV
          have hne : ((j : Int) == s.size) = false := by simp; omega
          go_wp2_with (first | (go_at_call 54; refine cD.mono ?_; rintro e w' ⟨rfl, rfl⟩) | (go_at_call 37; refine (cC _).mono ?_; rintro e w' ⟨rfl, rfl⟩))
          go_quiet (fail)
          go_wp2
          go_ret3
          exact ⟨by rw [HV.out, ← HR.out] <;> rfl, (Gr.refl _).drewN _⟩
      · rw [hd] at cD
        go_wp2_with (first | (go_at_call 54; refine cD.mono ?_; rintro e w' ⟨rfl, rfl⟩))
        go_roundg (s.size - (j + 1))
        case measure => have := HG.out; omega
        case rel => exact ⟨j + 1, by omega, by go_num, rfl, HX.out hd⟩
    · have hz : s.size = j := by omega
      have e : s.data.toList.take j = s.data.toList := List.take_of_length_le (by rw [← HZ.out]; omega)
      have hj := HJ.out
      rw [e] at hj cC
      have ev : cutV s.data.toList = .tuple #[.int .i64 0, .int .u8 0, .string ⟨#[]⟩] := by
        unfold cutV Va.cut
        have : s.data.toList.dropWhile Txt.isD = [] := by
          have h1 := List.dropWhile_append_of_pos (p := Txt.isD) (l₁ := s.data.toList) (l₂ := []) (fun x hx => List.all_eq_true.1 hj x hx)
          simpa using h1
        rw [this]
      have HV := Lib.hid ev
      clear hj e ev
      generalize decV s.data.toList 10 = v at *
      have hne : ((j : Int) == s.size) = true := by simp; omega
      rcases hn : Va.num s.data.toList 10
      · rw [hn] at cC
        go_wp2_with (first | (go_at_call 37; refine (cC _).mono ?_; rintro e w' ⟨rfl, rfl⟩))
        go_ret3
        exact ⟨by rw [HV.out] <;> rfl, Gr.refl _⟩
      · rw [hn] at cC
        go_wp2_with (first | (go_at_call 37; refine (cC _).mono ?_; rintro e w' ⟨rfl, rfl⟩))
        go_ret3
        exact ⟨by rw [HV.out] <;> rfl, Gr.refl _⟩
end Go.Proofs.YtafpdiikhhikeaaDoor
