/- What value.zoneName and the reference's ZoneName return. -/
import Derived.Test.YtafpdiikhhikeaaGreatDoorVaFn
import Derived.Test.YtafpdiikhhikeaaGreatDoorShelf
import Derived.Deep.Cut
import Derived.Deep.CutRange
namespace Go.Proofs.YtafpdiikhhikeaaGreatDoor
open Go.RowKit

namespace Va
def pun (c : UInt8) : Bool := c == 47 || c == 95 || c == 45 || c == 43
def zc (c : UInt8) : Bool := (decide ((65 : Int) ≤ c.toNat) && decide ((c.toNat : Int) ≤ 90)) || (decide ((97 : Int) ≤ c.toNat) && decide ((c.toNat : Int) ≤ 122)) || Txt.isD c || pun c
def zn (l : List UInt8) : Bool := !l.isEmpty && decide (l.length ≤ 60) && l.all zc
theorem zn_iff {l : List UInt8} : zn l = true ↔ l ≠ [] ∧ l.length ≤ 60 ∧ l.all zc = true := by
  unfold zn
  rw [Bool.and_eq_true, Bool.and_eq_true, decide_eq_true_eq, and_assoc]
  cases l <;> simp
theorem pun_idx (c : UInt8) : decide (0 ≤ Lib.indexByte [47, 95, 45, 43] c) = pun c := by
  unfold pun
  simp only [Lib.indexByte]
  by_cases h1 : c = 47
  · subst h1; decide
  by_cases h2 : c = 95
  · subst h2; decide
  by_cases h3 : c = 45
  · subst h3; decide
  by_cases h4 : c = 43
  · subst h4; decide
  have e1 : (47 == c) = false := by rw [beq_eq_false_iff_ne]; exact fun e => h1 e.symm
  have e2 : (95 == c) = false := by rw [beq_eq_false_iff_ne]; exact fun e => h2 e.symm
  have e3 : (45 == c) = false := by rw [beq_eq_false_iff_ne]; exact fun e => h3 e.symm
  have e4 : (43 == c) = false := by rw [beq_eq_false_iff_ne]; exact fun e => h4 e.symm
  have f1 : (c == 47) = false := by rw [beq_eq_false_iff_ne]; exact h1
  have f2 : (c == 95) = false := by rw [beq_eq_false_iff_ne]; exact h2
  have f3 : (c == 45) = false := by rw [beq_eq_false_iff_ne]; exact h3
  have f4 : (c == 43) = false := by rw [beq_eq_false_iff_ne]; exact h4
  simp [e1, e2, e3, e4, f1, f2, f3, f4]
end Va
theorem idxz_any (c : UInt8) (w : World) : Calls Tryz.prog 47 #[.string ⟨#[47, 95, 45, 43]⟩, .int .u8 (c.toNat : Int)] w fun e w' => ∃ v : Int, e = .returned (.int .i64 v) ∧ decide (0 ≤ v) = Va.pun c ∧ w = w' := by
  refine (Tryz.strings_IndexByte ⟨#[47, 95, 45, 43]⟩ _ w).mono ?_
  rintro e w' ⟨rfl, rfl⟩
  refine ⟨_, rfl, ?_, rfl⟩
  have e1 : ((c.toNat : Int).toNat.toUInt8) = c := by simp
  rw [e1]
  exact Va.pun_idx c
set_option maxHeartbeats 2000000 in
theorem inzone_any (c : UInt8) (w : World) : Calls Tryz.prog 29 #[.int .u8 (c.toNat : Int)] w fun e w' => e = .returned (.bool (Va.zc c)) ∧ w = w' := by
  have cD := fun w => isdigit_any c w
  have cI := fun w => idxz_any c w
  unfold Va.zc
  rcases h1 : decide ((65 : Int) ≤ c.toNat)
  · skip
    rcases h3 : decide ((97 : Int) ≤ c.toNat)
    · skip
      rcases hd : Txt.isD c
      · rw [hd] at cD
        rcases hp : Va.pun c
        · rw [hp] at cI
          go_enter Tryz.func29, Tryz.ntmps29
          go_wp2_with (first | (go_at_call 46; refine (cD _).mono ?_; rintro e w' ⟨rfl, rfl⟩) | (go_at_call 47; refine (cI _).mono ?_; rintro e w' ⟨v, rfl, hv, rfl⟩))
          go_ret
          exact ⟨rfl, rfl⟩
        · rw [hp] at cI
          go_enter Tryz.func29, Tryz.ntmps29
          go_wp2_with (first | (go_at_call 46; refine (cD _).mono ?_; rintro e w' ⟨rfl, rfl⟩) | (go_at_call 47; refine (cI _).mono ?_; rintro e w' ⟨v, rfl, hv, rfl⟩))
          go_ret
          exact ⟨rfl, rfl⟩
      · rw [hd] at cD
        clear cI
        go_enter Tryz.func29, Tryz.ntmps29
        go_wp2_with (first | (go_at_call 46; refine (cD _).mono ?_; rintro e w' ⟨rfl, rfl⟩))
        go_ret
        exact ⟨rfl, rfl⟩
    · rcases h4 : decide ((c.toNat : Int) ≤ 122)
      · skip
        rcases hd : Txt.isD c
        · rw [hd] at cD
          rcases hp : Va.pun c
          · rw [hp] at cI
            go_enter Tryz.func29, Tryz.ntmps29
            go_wp2_with (first | (go_at_call 46; refine (cD _).mono ?_; rintro e w' ⟨rfl, rfl⟩) | (go_at_call 47; refine (cI _).mono ?_; rintro e w' ⟨v, rfl, hv, rfl⟩))
            go_ret
            exact ⟨rfl, rfl⟩
          · rw [hp] at cI
            go_enter Tryz.func29, Tryz.ntmps29
            go_wp2_with (first | (go_at_call 46; refine (cD _).mono ?_; rintro e w' ⟨rfl, rfl⟩) | (go_at_call 47; refine (cI _).mono ?_; rintro e w' ⟨v, rfl, hv, rfl⟩))
            go_ret
            exact ⟨rfl, rfl⟩
        · rw [hd] at cD
          clear cI
          go_enter Tryz.func29, Tryz.ntmps29
          go_wp2_with (first | (go_at_call 46; refine (cD _).mono ?_; rintro e w' ⟨rfl, rfl⟩))
          go_ret
          exact ⟨rfl, rfl⟩
      · skip
        clear cD cI
        go_enter Tryz.func29, Tryz.ntmps29
        go_wp2
        go_ret
        exact ⟨rfl, rfl⟩
  · rcases h2 : decide ((c.toNat : Int) ≤ 90)
    · skip
      rcases h3 : decide ((97 : Int) ≤ c.toNat)
      · skip
        rcases hd : Txt.isD c
        · rw [hd] at cD
          rcases hp : Va.pun c
          · rw [hp] at cI
            go_enter Tryz.func29, Tryz.ntmps29
            go_wp2_with (first | (go_at_call 46; refine (cD _).mono ?_; rintro e w' ⟨rfl, rfl⟩) | (go_at_call 47; refine (cI _).mono ?_; rintro e w' ⟨v, rfl, hv, rfl⟩))
            go_ret
            exact ⟨rfl, rfl⟩
          · rw [hp] at cI
            go_enter Tryz.func29, Tryz.ntmps29
            go_wp2_with (first | (go_at_call 46; refine (cD _).mono ?_; rintro e w' ⟨rfl, rfl⟩) | (go_at_call 47; refine (cI _).mono ?_; rintro e w' ⟨v, rfl, hv, rfl⟩))
            go_ret
            exact ⟨rfl, rfl⟩
        · rw [hd] at cD
          clear cI
          go_enter Tryz.func29, Tryz.ntmps29
          go_wp2_with (first | (go_at_call 46; refine (cD _).mono ?_; rintro e w' ⟨rfl, rfl⟩))
          go_ret
          exact ⟨rfl, rfl⟩
      · rcases h4 : decide ((c.toNat : Int) ≤ 122)
        · skip
          rcases hd : Txt.isD c
          · rw [hd] at cD
            rcases hp : Va.pun c
            · rw [hp] at cI
              go_enter Tryz.func29, Tryz.ntmps29
              go_wp2_with (first | (go_at_call 46; refine (cD _).mono ?_; rintro e w' ⟨rfl, rfl⟩) | (go_at_call 47; refine (cI _).mono ?_; rintro e w' ⟨v, rfl, hv, rfl⟩))
              go_ret
              exact ⟨rfl, rfl⟩
            · rw [hp] at cI
              go_enter Tryz.func29, Tryz.ntmps29
              go_wp2_with (first | (go_at_call 46; refine (cD _).mono ?_; rintro e w' ⟨rfl, rfl⟩) | (go_at_call 47; refine (cI _).mono ?_; rintro e w' ⟨v, rfl, hv, rfl⟩))
              go_ret
              exact ⟨rfl, rfl⟩
          · rw [hd] at cD
            clear cI
            go_enter Tryz.func29, Tryz.ntmps29
            go_wp2_with (first | (go_at_call 46; refine (cD _).mono ?_; rintro e w' ⟨rfl, rfl⟩))
            go_ret
            exact ⟨rfl, rfl⟩
        · skip
          clear cD cI
          go_enter Tryz.func29, Tryz.ntmps29
          go_wp2
          go_ret
          exact ⟨rfl, rfl⟩
    · skip
      clear cD cI
      go_enter Tryz.func29, Tryz.ntmps29
      go_wp2
      go_ret
      exact ⟨rfl, rfl⟩
set_option maxHeartbeats 1000000 in
theorem zname_some (s : ByteArray) (w : World) (h0 : s.size ≠ 0) (hl : s.size ≤ 60) :
    Calls Tryz.prog 18 #[.string s] w fun e w' => e = .returned (.bool (s.data.toList.all Va.zc)) ∧ w = w' := by
  have h1 := emp_f s h0
  have h2 : decide (60 < s.size) = false := by simp; omega
  have HZ := Lib.hid (Lib.size_eq s)
  go_enter Tryz.func18, Tryz.ntmps18
  go_wp2
  go_loopg [13] s.size (fun g i wx => ∃ j : Nat, j + g = s.size ∧ i = .int .i64 (j : Int) ∧ w = wx ∧ (s.data.toList.take j).all Va.zc = true)
  case atStart => exact ⟨0, by omega, rfl, rfl, rfl⟩
  case round =>
    obtain ⟨j, jg, rfl, rfl, ha⟩ := hrel
    have j1 : j ≤ s.size := by omega
    have HG := Lib.hid jg
    have HJ := Lib.hid ha
    clear jg ha
    by_cases hz : j < s.size
    · have h' : j < s.data.toList.length := by rw [← HZ.out]; exact hz
      have cD := inzone_any s[j] w
      rcases hd : Va.zc s[j]
      · rw [hd] at cD
        have hf : s.data.toList.all Va.zc = false := by
          rw [List.all_eq_false]
          exact ⟨s[j], List.getElem_mem h', by simp [hd]⟩
        have HF := Lib.hid hf
        clear hf
        go_wp2_with (go_at_call 29; refine cD.mono ?_; rintro e w' ⟨rfl, rfl⟩)
        go_ret
        exact ⟨by rw [HF.out] <;> rfl, rfl⟩
      · rw [hd] at cD
        have hx : (s.data.toList.take (j + 1)).all Va.zc = true := by
          rw [List.take_succ_eq_append_getElem h', List.all_append, HJ.out]
          have eb : s.data.toList[j] = s[j] := rfl
          rw [eb]; simp [hd]
        have HX := Lib.hid hx
        clear hx
        go_wp2_with (go_at_call 29; refine cD.mono ?_; rintro e w' ⟨rfl, rfl⟩)
        go_roundg (s.size - (j + 1))
        case measure => have := HG.out; omega
        case rel => exact ⟨j + 1, by omega, by go_num, rfl, HX.out⟩
    · have e : s.data.toList.take j = s.data.toList := List.take_of_length_le (by rw [← HZ.out]; omega)
      have hj := HJ.out
      rw [e] at hj
      have HF := Lib.hid hj
      clear hj e
      go_wp2
      go_ret
      exact ⟨by rw [HF.out] <;> rfl, rfl⟩
set_option maxHeartbeats 1000000 in
theorem zname_any (s : ByteArray) (w : World) :
    Calls Tryz.prog 18 #[.string s] w fun e w' => e = .returned (.bool (Va.zn s.data.toList)) ∧ w = w' := by
  have hz := Lib.size_eq s
  by_cases h0 : s.size = 0
  · have h1 := emp_t s h0
    have hn : Va.zn s.data.toList = false := by
      have : s.data.toList = [] := List.eq_nil_of_length_eq_zero (by rw [← hz]; exact h0)
      rw [this]; rfl
    rw [hn]
    clear hz hn
    go_enter Tryz.func18, Tryz.ntmps18
    go_wp2
    go_ret
    exact ⟨rfl, rfl⟩
  · by_cases hl : s.size ≤ 60
    · have hn : Va.zn s.data.toList = s.data.toList.all Va.zc := by
        rw [Bool.eq_iff_iff, Va.zn_iff]
        exact ⟨fun h => h.2.2, fun h => ⟨Va.ne_of_size h0, by omega, h⟩⟩
      rw [hn]
      exact zname_some s w h0 hl
    · have h1 := emp_f s h0
      have hn : Va.zn s.data.toList = false := by
        rw [Bool.eq_false_iff]; intro h
        have := (Va.zn_iff.1 h).2.1
        omega
      rw [hn]
      clear hz hn
      go_enter Tryz.func18, Tryz.ntmps18
      go_wp2
      go_ret
      exact ⟨rfl, rfl⟩
namespace Va
theorem zc_pun {c : UInt8} (h : pun c = true) : zc c = true := by unfold zc; rw [h]; simp
theorem zc_no {c : UInt8} (h : pun c = false) (h2 : ¬ ((65 : Int) ≤ c.toNat ∧ (c.toNat : Int) ≤ 90)) (h3 : ¬ ((97 : Int) ≤ c.toNat ∧ (c.toNat : Int) ≤ 122)) (h4 : ¬ ((48 : Int) ≤ c.toNat ∧ (c.toNat : Int) ≤ 57)) : zc c = false := by
  unfold zc Txt.isD
  rw [h]
  simp
  omega
theorem zc_yes {c : UInt8} (h : ((65 : Int) ≤ c.toNat ∧ (c.toNat : Int) ≤ 90) ∨ ((97 : Int) ≤ c.toNat ∧ (c.toNat : Int) ≤ 122) ∨ ((48 : Int) ≤ c.toNat ∧ (c.toNat : Int) ≤ 57)) : zc c = true := by
  unfold zc Txt.isD
  simp
  omega
theorem pun_no {c : UInt8} (h : c.toNat ≠ 47 ∧ c.toNat ≠ 95 ∧ c.toNat ≠ 45 ∧ c.toNat ≠ 43) : pun c = false := by
  have e : ∀ k : UInt8, c.toNat ≠ k.toNat → (c == k) = false := fun k hk => by rw [beq_eq_false_iff_ne]; intro e; exact hk (by rw [e])
  unfold pun
  rw [e 47 h.1, e 95 h.2.1, e 45 h.2.2.1, e 43 h.2.2.2]; rfl
theorem pun_yes {c : UInt8} (h : c.toNat = 47 ∨ c.toNat = 95 ∨ c.toNat = 45 ∨ c.toNat = 43) : pun c = true := by
  have e : ∀ k : UInt8, c.toNat = k.toNat → c = k := fun k hk => UInt8.toNat_inj.1 hk
  rcases h with h | h | h | h
  · rw [e 47 h]; rfl
  · rw [e 95 h]; rfl
  · rw [e 45 h]; rfl
  · rw [e 43 h]; rfl
end Va
set_option maxRecDepth 8000 in
set_option maxHeartbeats 4000000 in
theorem rzname_any (s : ByteArray) (w : World) (hm : s.size ≤ 9223372036854775807) :
    Calls Tryz.prog 15 #[.string s] w fun e w' => e = .returned (.bool (Va.zn s.data.toList)) ∧ w = w' := by
  have HZ := Lib.hid (Lib.size_eq s)
  go_enter Tryz.func15, Tryz.ntmps15
  go_wp2
  go_loopg [7] s.size (fun g i wx => ∃ j : Nat, j + g = s.size ∧ i = .int .i64 (j : Int) ∧ w = wx ∧ (s.data.toList.take j).all Va.zc = true)
  case atStart => exact ⟨0, by omega, rfl, rfl, rfl⟩
  case round =>
    obtain ⟨j, jg, rfl, rfl, ha⟩ := hrel
    have j1 : j ≤ s.size := by omega
    have HG := Lib.hid jg
    have HJ := Lib.hid ha
    clear jg ha
    by_cases hz : j < s.size
    · have h' : j < s.data.toList.length := by rw [← HZ.out]; exact hz
      go_upto_region 5 with fail
      generalize hcc : s[j] = c
      go_cut [4, 7, 51] from 7 to 52 (fun v4 v7 v wx => v7 = .int .i64 (j : Int) ∧ v = .bool (!Va.zc c) ∧ w = wx)
      case first =>
        clear HG HJ HZ hcc
        have hb : (c.toNat : Int) < 256 := by have := UInt8.toNat_lt c; omega
        by_cases x4 : (122 : Int) < c.toNat
        · skip
          have d97 : decide ((97 : Int) ≤ c.toNat) = true := decide_eq_true (by omega)
          have d122 : decide ((c.toNat : Int) ≤ 122) = false := decide_eq_false (by omega)
          have d65 : decide ((65 : Int) ≤ c.toNat) = true := decide_eq_true (by omega)
          have d90 : decide ((c.toNat : Int) ≤ 90) = false := decide_eq_false (by omega)
          have d48 : decide ((48 : Int) ≤ c.toNat) = true := decide_eq_true (by omega)
          have d57 : decide ((c.toNat : Int) ≤ 57) = false := decide_eq_false (by omega)
          have q47 : ((c.toNat : Int) == 47) = false := by rw [beq_eq_false_iff_ne]; omega
          have q95 : ((c.toNat : Int) == 95) = false := by rw [beq_eq_false_iff_ne]; omega
          have q45 : ((c.toNat : Int) == 45) = false := by rw [beq_eq_false_iff_ne]; omega
          have q43 : ((c.toNat : Int) == 43) = false := by rw [beq_eq_false_iff_ne]; omega
          have HF := Lib.hid (Va.zc_no (c := c) (Va.pun_no (by omega)) (by omega) (by omega) (by omega))
          go_wp2
          go_meet
          case rel => exact ⟨rfl, by rw [HF.out] <;> rfl, rfl⟩
        · skip
          by_cases x5 : (97 : Int) ≤ c.toNat
          · skip
            have d97 : decide ((97 : Int) ≤ c.toNat) = true := decide_eq_true (by omega)
            have d122 : decide ((c.toNat : Int) ≤ 122) = true := decide_eq_true (by omega)
            have d65 : decide ((65 : Int) ≤ c.toNat) = true := decide_eq_true (by omega)
            have d90 : decide ((c.toNat : Int) ≤ 90) = false := decide_eq_false (by omega)
            have d48 : decide ((48 : Int) ≤ c.toNat) = true := decide_eq_true (by omega)
            have d57 : decide ((c.toNat : Int) ≤ 57) = false := decide_eq_false (by omega)
            have q47 : ((c.toNat : Int) == 47) = false := by rw [beq_eq_false_iff_ne]; omega
            have q95 : ((c.toNat : Int) == 95) = false := by rw [beq_eq_false_iff_ne]; omega
            have q45 : ((c.toNat : Int) == 45) = false := by rw [beq_eq_false_iff_ne]; omega
            have q43 : ((c.toNat : Int) == 43) = false := by rw [beq_eq_false_iff_ne]; omega
            have HF := Lib.hid (Va.zc_yes (c := c) (by omega))
            go_wp2
            go_meet
            case rel => exact ⟨rfl, by rw [HF.out] <;> rfl, rfl⟩
          · skip
            by_cases x6 : (90 : Int) < c.toNat
            · skip
              by_cases x7 : (c.toNat : Int) = 95
              · skip
                have d97 : decide ((97 : Int) ≤ c.toNat) = false := decide_eq_false (by omega)
                have d122 : decide ((c.toNat : Int) ≤ 122) = true := decide_eq_true (by omega)
                have d65 : decide ((65 : Int) ≤ c.toNat) = true := decide_eq_true (by omega)
                have d90 : decide ((c.toNat : Int) ≤ 90) = false := decide_eq_false (by omega)
                have d48 : decide ((48 : Int) ≤ c.toNat) = true := decide_eq_true (by omega)
                have d57 : decide ((c.toNat : Int) ≤ 57) = false := decide_eq_false (by omega)
                have q47 : ((c.toNat : Int) == 47) = false := by rw [beq_eq_false_iff_ne]; omega
                have q95 : ((c.toNat : Int) == 95) = true := by rw [beq_iff_eq]; omega
                have HF := Lib.hid (Va.zc_pun (Va.pun_yes (c := c) (by omega)))
                go_wp2
                go_meet
                case rel => exact ⟨rfl, by rw [HF.out] <;> rfl, rfl⟩
              · skip
                have d97 : decide ((97 : Int) ≤ c.toNat) = false := decide_eq_false (by omega)
                have d122 : decide ((c.toNat : Int) ≤ 122) = true := decide_eq_true (by omega)
                have d65 : decide ((65 : Int) ≤ c.toNat) = true := decide_eq_true (by omega)
                have d90 : decide ((c.toNat : Int) ≤ 90) = false := decide_eq_false (by omega)
                have d48 : decide ((48 : Int) ≤ c.toNat) = true := decide_eq_true (by omega)
                have d57 : decide ((c.toNat : Int) ≤ 57) = false := decide_eq_false (by omega)
                have q47 : ((c.toNat : Int) == 47) = false := by rw [beq_eq_false_iff_ne]; omega
                have q95 : ((c.toNat : Int) == 95) = false := by rw [beq_eq_false_iff_ne]; omega
                have q45 : ((c.toNat : Int) == 45) = false := by rw [beq_eq_false_iff_ne]; omega
                have q43 : ((c.toNat : Int) == 43) = false := by rw [beq_eq_false_iff_ne]; omega
                have HF := Lib.hid (Va.zc_no (c := c) (Va.pun_no (by omega)) (by omega) (by omega) (by omega))
                go_wp2
                go_meet
                case rel => exact ⟨rfl, by rw [HF.out] <;> rfl, rfl⟩
            · skip
              by_cases x7 : (65 : Int) ≤ c.toNat
              · skip
                have d97 : decide ((97 : Int) ≤ c.toNat) = false := decide_eq_false (by omega)
                have d122 : decide ((c.toNat : Int) ≤ 122) = true := decide_eq_true (by omega)
                have d65 : decide ((65 : Int) ≤ c.toNat) = true := decide_eq_true (by omega)
                have d90 : decide ((c.toNat : Int) ≤ 90) = true := decide_eq_true (by omega)
                have d48 : decide ((48 : Int) ≤ c.toNat) = true := decide_eq_true (by omega)
                have d57 : decide ((c.toNat : Int) ≤ 57) = false := decide_eq_false (by omega)
                have q47 : ((c.toNat : Int) == 47) = false := by rw [beq_eq_false_iff_ne]; omega
                have q95 : ((c.toNat : Int) == 95) = false := by rw [beq_eq_false_iff_ne]; omega
                have q45 : ((c.toNat : Int) == 45) = false := by rw [beq_eq_false_iff_ne]; omega
                have q43 : ((c.toNat : Int) == 43) = false := by rw [beq_eq_false_iff_ne]; omega
                have HF := Lib.hid (Va.zc_yes (c := c) (by omega))
                go_wp2
                go_meet
                case rel => exact ⟨rfl, by rw [HF.out] <;> rfl, rfl⟩
              · skip
                by_cases x8 : (57 : Int) < c.toNat
                · skip
                  have d97 : decide ((97 : Int) ≤ c.toNat) = false := decide_eq_false (by omega)
                  have d122 : decide ((c.toNat : Int) ≤ 122) = true := decide_eq_true (by omega)
                  have d65 : decide ((65 : Int) ≤ c.toNat) = false := decide_eq_false (by omega)
                  have d90 : decide ((c.toNat : Int) ≤ 90) = true := decide_eq_true (by omega)
                  have d48 : decide ((48 : Int) ≤ c.toNat) = true := decide_eq_true (by omega)
                  have d57 : decide ((c.toNat : Int) ≤ 57) = false := decide_eq_false (by omega)
                  have q47 : ((c.toNat : Int) == 47) = false := by rw [beq_eq_false_iff_ne]; omega
                  have q95 : ((c.toNat : Int) == 95) = false := by rw [beq_eq_false_iff_ne]; omega
                  have q45 : ((c.toNat : Int) == 45) = false := by rw [beq_eq_false_iff_ne]; omega
                  have q43 : ((c.toNat : Int) == 43) = false := by rw [beq_eq_false_iff_ne]; omega
                  have HF := Lib.hid (Va.zc_no (c := c) (Va.pun_no (by omega)) (by omega) (by omega) (by omega))
                  go_wp2
                  go_meet
                  case rel => exact ⟨rfl, by rw [HF.out] <;> rfl, rfl⟩
                · skip
                  by_cases x9 : (48 : Int) ≤ c.toNat
                  · skip
                    have d97 : decide ((97 : Int) ≤ c.toNat) = false := decide_eq_false (by omega)
                    have d122 : decide ((c.toNat : Int) ≤ 122) = true := decide_eq_true (by omega)
                    have d65 : decide ((65 : Int) ≤ c.toNat) = false := decide_eq_false (by omega)
                    have d90 : decide ((c.toNat : Int) ≤ 90) = true := decide_eq_true (by omega)
                    have d48 : decide ((48 : Int) ≤ c.toNat) = true := decide_eq_true (by omega)
                    have d57 : decide ((c.toNat : Int) ≤ 57) = true := decide_eq_true (by omega)
                    have q47 : ((c.toNat : Int) == 47) = false := by rw [beq_eq_false_iff_ne]; omega
                    have q95 : ((c.toNat : Int) == 95) = false := by rw [beq_eq_false_iff_ne]; omega
                    have q45 : ((c.toNat : Int) == 45) = false := by rw [beq_eq_false_iff_ne]; omega
                    have q43 : ((c.toNat : Int) == 43) = false := by rw [beq_eq_false_iff_ne]; omega
                    have HF := Lib.hid (Va.zc_yes (c := c) (by omega))
                    go_wp2
                    go_meet
                    case rel => exact ⟨rfl, by rw [HF.out] <;> rfl, rfl⟩
                  · skip
                    by_cases x10 : (c.toNat : Int) = 47
                    · skip
                      have d97 : decide ((97 : Int) ≤ c.toNat) = false := decide_eq_false (by omega)
                      have d122 : decide ((c.toNat : Int) ≤ 122) = true := decide_eq_true (by omega)
                      have d65 : decide ((65 : Int) ≤ c.toNat) = false := decide_eq_false (by omega)
                      have d90 : decide ((c.toNat : Int) ≤ 90) = true := decide_eq_true (by omega)
                      have d48 : decide ((48 : Int) ≤ c.toNat) = false := decide_eq_false (by omega)
                      have d57 : decide ((c.toNat : Int) ≤ 57) = true := decide_eq_true (by omega)
                      have q47 : ((c.toNat : Int) == 47) = true := by rw [beq_iff_eq]; omega
                      have HF := Lib.hid (Va.zc_pun (Va.pun_yes (c := c) (by omega)))
                      go_wp2
                      go_meet
                      case rel => exact ⟨rfl, by rw [HF.out] <;> rfl, rfl⟩
                    · skip
                      by_cases x11 : (c.toNat : Int) = 45
                      · skip
                        have d97 : decide ((97 : Int) ≤ c.toNat) = false := decide_eq_false (by omega)
                        have d122 : decide ((c.toNat : Int) ≤ 122) = true := decide_eq_true (by omega)
                        have d65 : decide ((65 : Int) ≤ c.toNat) = false := decide_eq_false (by omega)
                        have d90 : decide ((c.toNat : Int) ≤ 90) = true := decide_eq_true (by omega)
                        have d48 : decide ((48 : Int) ≤ c.toNat) = false := decide_eq_false (by omega)
                        have d57 : decide ((c.toNat : Int) ≤ 57) = true := decide_eq_true (by omega)
                        have q47 : ((c.toNat : Int) == 47) = false := by rw [beq_eq_false_iff_ne]; omega
                        have q95 : ((c.toNat : Int) == 95) = false := by rw [beq_eq_false_iff_ne]; omega
                        have q45 : ((c.toNat : Int) == 45) = true := by rw [beq_iff_eq]; omega
                        have HF := Lib.hid (Va.zc_pun (Va.pun_yes (c := c) (by omega)))
                        go_wp2
                        go_meet
                        case rel => exact ⟨rfl, by rw [HF.out] <;> rfl, rfl⟩
                      · skip
                        by_cases x12 : (c.toNat : Int) = 43
                        · skip
                          have d97 : decide ((97 : Int) ≤ c.toNat) = false := decide_eq_false (by omega)
                          have d122 : decide ((c.toNat : Int) ≤ 122) = true := decide_eq_true (by omega)
                          have d65 : decide ((65 : Int) ≤ c.toNat) = false := decide_eq_false (by omega)
                          have d90 : decide ((c.toNat : Int) ≤ 90) = true := decide_eq_true (by omega)
                          have d48 : decide ((48 : Int) ≤ c.toNat) = false := decide_eq_false (by omega)
                          have d57 : decide ((c.toNat : Int) ≤ 57) = true := decide_eq_true (by omega)
                          have q47 : ((c.toNat : Int) == 47) = false := by rw [beq_eq_false_iff_ne]; omega
                          have q95 : ((c.toNat : Int) == 95) = false := by rw [beq_eq_false_iff_ne]; omega
                          have q45 : ((c.toNat : Int) == 45) = false := by rw [beq_eq_false_iff_ne]; omega
                          have q43 : ((c.toNat : Int) == 43) = true := by rw [beq_iff_eq]; omega
                          have HF := Lib.hid (Va.zc_pun (Va.pun_yes (c := c) (by omega)))
                          go_wp2
                          go_meet
                          case rel => exact ⟨rfl, by rw [HF.out] <;> rfl, rfl⟩
                        · skip
                          have d97 : decide ((97 : Int) ≤ c.toNat) = false := decide_eq_false (by omega)
                          have d122 : decide ((c.toNat : Int) ≤ 122) = true := decide_eq_true (by omega)
                          have d65 : decide ((65 : Int) ≤ c.toNat) = false := decide_eq_false (by omega)
                          have d90 : decide ((c.toNat : Int) ≤ 90) = true := decide_eq_true (by omega)
                          have d48 : decide ((48 : Int) ≤ c.toNat) = false := decide_eq_false (by omega)
                          have d57 : decide ((c.toNat : Int) ≤ 57) = true := decide_eq_true (by omega)
                          have q47 : ((c.toNat : Int) == 47) = false := by rw [beq_eq_false_iff_ne]; omega
                          have q95 : ((c.toNat : Int) == 95) = false := by rw [beq_eq_false_iff_ne]; omega
                          have q45 : ((c.toNat : Int) == 45) = false := by rw [beq_eq_false_iff_ne]; omega
                          have q43 : ((c.toNat : Int) == 43) = false := by rw [beq_eq_false_iff_ne]; omega
                          have HF := Lib.hid (Va.zc_no (c := c) (Va.pun_no (by omega)) (by omega) (by omega) (by omega))
                          go_wp2
                          go_meet
                          case rel => exact ⟨rfl, by rw [HF.out] <;> rfl, rfl⟩
      case rest =>
        obtain ⟨rfl, rfl, rfl⟩ := hcut
        rcases hd : Va.zc c
        · have hf : Va.zn s.data.toList = false := by
            rw [Bool.eq_false_iff]; intro h
            have := List.all_eq_true.1 (Va.zn_iff.1 h).2.2 s[j] (List.getElem_mem h')
            rw [hcc, hd] at this; cases this
          have HF := Lib.hid hf
          clear hf hcc
          go_wp2
          go_ret
          exact ⟨by rw [HF.out] <;> rfl, rfl⟩
        · have hx : (s.data.toList.take (j + 1)).all Va.zc = true := by
            rw [List.take_succ_eq_append_getElem h', List.all_append, HJ.out]
            have eb : s.data.toList[j] = s[j] := rfl
            rw [eb, hcc]; simp [hd]
          have HX := Lib.hid hx
          clear hx hcc
          go_wp2
          go_roundg (s.size - (j + 1))
          case measure => have := HG.out; omega
          case rel => exact ⟨j + 1, by omega, by go_num, rfl, HX.out⟩
    · have e : s.data.toList.take j = s.data.toList := List.take_of_length_le (by rw [← HZ.out]; omega)
      have hj := HJ.out
      rw [e] at hj
      have hE : Va.zn s.data.toList = (decide (0 < s.size) && decide ((s.size : Int) ≤ 60)) := by
        rw [Bool.eq_iff_iff, Va.zn_iff, Bool.and_eq_true, decide_eq_true_eq, decide_eq_true_eq, ← HZ.out]
        exact ⟨fun h => ⟨by rcases Nat.eq_zero_or_pos s.size with h0 | h0; exact absurd (List.eq_nil_of_length_eq_zero (by rw [← HZ.out]; exact h0)) h.1; exact h0, by omega⟩, fun h => ⟨Va.ne_of_size (by omega), by omega, hj⟩⟩
      have HE := Lib.hid hE
      clear hj e hE
      rcases h1 : decide (0 < s.size)
      · go_wp2
        go_ret
        exact ⟨by rw [HE.out, h1] <;> rfl, rfl⟩
      · rcases h2 : decide ((s.size : Int) ≤ 60)
        · go_wp2
          go_ret
          exact ⟨by rw [HE.out, h1, h2] <;> rfl, rfl⟩
        · go_wp2
          go_ret
          exact ⟨by rw [HE.out, h1, h2] <;> rfl, rfl⟩
end Go.Proofs.YtafpdiikhhikeaaGreatDoor
