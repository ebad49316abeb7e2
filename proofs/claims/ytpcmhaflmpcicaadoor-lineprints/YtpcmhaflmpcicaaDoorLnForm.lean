/- What line.Name, formedParam and Formed return. -/
import Derived.Test.YtpcmhaflmpcicaaDoorLnFv
import Derived.Test.YtpcmhaflmpcicaaDoorEsPm
namespace Go.Proofs.YtpcmhaflmpcicaaDoor
open Go.RowKit

namespace Ln
theorem nameB_empty : nameB [] = false := rfl
theorem nameB_long {s : List UInt8} (h : 60 < s.length) : nameB s = false := by
  unfold nameB; rw [decide_eq_false (by omega : ¬ s.length ≤ 60)]; simp
theorem nameB_bad {s : List UInt8} {b : UInt8} (h : b ∈ s) (hb : inN b = false) : nameB s = false := by
  unfold nameB
  have : s.all inN = false := by rw [List.all_eq_false]; exact ⟨b, h, by simp [hb]⟩
  rw [this]; simp
theorem nameB_ok {s : List UInt8} (h0 : 0 < s.length) (h1 : s.length ≤ 60) (h : s.all inN = true) : nameB s = true := (nameB_iff s).2 ⟨h0, h1, h⟩
end Ln
theorem all_at {s : ByteArray} {i : Nat} (h : i < s.size) (h0 : (s.data.toList.take i).all Ln.inN = true) (hb : Ln.inN s[i] = true) : (s.data.toList.take (i + 1)).all Ln.inN = true := by
  rw [take_at s i h, List.all_append, h0]; simp [hb]
theorem at_mem (s : ByteArray) (i : Nat) (h : i < s.size) : s[i] ∈ s.data.toList := List.mem_of_getElem? (at_toNat s i h)
set_option maxHeartbeats 2000000 in
set_option maxRecDepth 100000 in
theorem lname_any (s : ByteArray) (w : World) :
    Calls Tryd.prog 14 #[.string s] w fun e w' => e = .returned (.bool (Ln.nameB s.data.toList)) ∧ w = w' := by
  have hsz := Lib.size_eq s
  rcases Nat.eq_zero_or_pos s.size with h0 | h0
  · have hem := emp_t s h0
    rw [empty_list s h0]
    clear hsz h0
    go_enter Tryd.func14, Tryd.ntmps14
    go_wp2
    go_ret
    exact ⟨rfl, rfl⟩
  · have hem := emp_f s h0
    by_cases h60 : 60 < s.size
    · rw [Ln.nameB_long (by omega)]
      have hi : (60 : Int) < (s.size : Int) := by omega
      clear hsz h60
      go_enter Tryd.func14, Tryd.ntmps14
      go_wp2
      go_ret
      exact ⟨rfl, rfl⟩
    · have hi60 : ¬ (60 : Int) < (s.size : Int) := by omega
      have HB := Lib.hid (fun b h hb => Ln.nameB_bad (s := s.data.toList) (b := b) h hb)
      have HO := Lib.hid (fun h => Ln.nameB_ok (s := s.data.toList) (by omega) (by omega) h)
      generalize Ln.nameB s.data.toList = E at *
      clear hsz
      go_enter Tryd.func14, Tryd.ntmps14
      go_wp2
      go_loopg [13] s.size (fun g v wx => ∃ i : Nat, v = .int .i64 (i : Int) ∧ i + g = s.size ∧ w = wx ∧ Hid ((s.data.toList.take i).all Ln.inN = true))
      case atStart => exact ⟨0, rfl, by omega, rfl, Lib.hid (by simp)⟩
      case round =>
        obtain ⟨i, rfl, hig, rfl, HN⟩ := hrel
        have HG := Lib.hid hig
        clear hig
        by_cases hi : i < s.size
        · have cI := fun w => inName_any s[i] w
          cases hin : Ln.inN s[i]
          · have HE := Lib.hid (HB.out _ (at_mem s i hi) hin)
            rw [hin] at cI
            clear hin
            go_wp2_with (go_at_call 27; refine (cI _).mono ?_; rintro e w' ⟨rfl, rfl⟩)
            go_ret
            exact ⟨ret_bool HE.out.symm, rfl⟩
          · have HE := Lib.hid (all_at hi HN.out hin)
            rw [hin] at cI
            clear hin
            go_wp2_with (go_at_call 27; refine (cI _).mono ?_; rintro e w' ⟨rfl, rfl⟩)
            go_roundg (s.size - (i + 1))
            case measure => have := HG.out; omega
            case rel => exact ⟨i + 1, by go_num, by omega, rfl, HE⟩
        · have he := HN.out
          rw [take_end s i (by omega)] at he
          have HE := Lib.hid (HO.out he)
          obtain rfl : i = s.size := by have := HG.out; omega
          clear he
          go_wp2
          go_ret
          exact ⟨ret_bool HE.out.symm, rfl⟩
namespace Ln
theorem parB_name {p : Par} (h : nameB p.1 = false) : parB p = false := by unfold parB; rw [h]; simp
theorem parB_zero {p : Par} (h : p.2.length = 0) : parB p = false := by unfold parB; rw [h]; simp
theorem parB_many {p : Par} (h : 60 < p.2.length) : parB p = false := by unfold parB; rw [decide_eq_false (by omega : ¬ p.2.length ≤ 60)]; simp
theorem parB_bad {p : Par} {v : List UInt8} (h : v ∈ p.2) (hv : Es.clE true v ≠ 0) : parB p = false := by
  cases e : parB p
  · rfl
  · exact absurd (((parB_iff p).1 e).2.2.2 v h) hv
theorem parB_ok {p : Par} (h : nameB p.1 = true) (h0 : 0 < p.2.length) (h1 : p.2.length ≤ 60) (h2 : ∀ v ∈ p.2, Es.clE true v = 0) : parB p = true := (parB_iff p).2 ⟨h, h0, h1, h2⟩
end Ln
theorem all_take {vs : List (List UInt8)} {k : Nat} (hk : k < vs.length) (h : ∀ v ∈ vs.take k, Es.clE true v = 0) (h2 : Es.clE true vs[k] = 0) : ∀ v ∈ vs.take (k + 1), Es.clE true v = 0 := by
  intro v hv
  rw [List.take_succ_eq_append_getElem hk] at hv
  rcases List.mem_append.1 hv with hv | hv
  · exact h v hv
  · rw [List.mem_singleton.1 hv]; exact h2
set_option maxHeartbeats 4000000 in
set_option maxRecDepth 100000 in
theorem fpar_any (a : ByteArray) (A : Option Addr) (n c : Nat) (vs : List (List UInt8)) (w : World) (ht : Tab w) (hS : Strs w w.heap.size A n vs) (hl : n ≤ 60 → ∀ v ∈ vs, v.length ≤ 400000) (hn : n ≤ 140737488355328) :
    Calls Tryd.prog 24 #[.agg #[.string a, .slice A n c]] w fun e w' => e = .returned (.bool (Ln.parB (a.data.toList, vs))) ∧ Gr w w' := by
  have hlen : vs.length = n := hS.1
  have hg0 : Gr w (w.alloc (.cells #[.string a, .slice A n c] 49)) := (Gr.refl w).allocO _
  have cN := fun w => lname_any a w
  cases hnm : Ln.nameB a.data.toList
  · rw [Ln.parB_name hnm]
    rw [hnm] at cN
    clear hnm
    go_enter Tryd.func24, Tryd.ntmps24
    go_wp2_with (go_at_call 14; refine (cN _).mono ?_; rintro e w' ⟨rfl, rfl⟩)
    go_ret
    exact ⟨rfl, hg0⟩
  · rw [hnm] at cN
    rcases Nat.eq_zero_or_pos n with h0 | h0
    · rw [Ln.parB_zero (by rw [← h0]; exact hlen)]
      have hq : ((n : Int) == 0) = true := by rw [beq_iff_eq]; omega
      clear hnm h0
      go_enter Tryd.func24, Tryd.ntmps24
      go_wp2_with (go_at_call 14; refine (cN _).mono ?_; rintro e w' ⟨rfl, rfl⟩)
      go_ret
      exact ⟨rfl, hg0⟩
    · have hq : ((n : Int) == 0) = false := by rw [beq_eq_false_iff_ne]; omega
      by_cases h60 : 60 < n
      · rw [Ln.parB_many (by show 60 < vs.length; omega)]
        have hi60 : (60 : Int) < (n : Int) := by omega
        clear hnm
        go_enter Tryd.func24, Tryd.ntmps24
        go_wp2_with (go_at_call 14; refine (cN _).mono ?_; rintro e w' ⟨rfl, rfl⟩)
        go_ret
        exact ⟨rfl, hg0⟩
      · have hi60 : ¬ (60 : Int) < (n : Int) := by omega
        have HB := Lib.hid (fun v h hv => Ln.parB_bad (p := (a.data.toList, vs)) (v := v) h hv)
        have HO := Lib.hid (fun h => Ln.parB_ok (p := (a.data.toList, vs)) hnm (by show 0 < vs.length; omega) (by show vs.length ≤ 60; omega) h)
        have HL := Lib.hid hlen
        generalize Ln.parB (a.data.toList, vs) = E at *
        clear hnm hlen
        have hS0 := hS.keep hg0.below
        go_enter Tryd.func24, Tryd.ntmps24
        go_wp2_with (go_at_call 14; refine (cN _).mono ?_; rintro e w' ⟨rfl, rfl⟩)
        go_loopg [26] n (fun g v wx => ∃ k : Nat, v = .int .i64 (k : Int) ∧ k + g = n ∧ Gr w wx ∧ Hid (∀ v ∈ vs.take k, Es.clE true v = 0))
        case atStart => exact ⟨0, rfl, by omega, hg0, Lib.hid (by simp)⟩
        case round =>
          obtain ⟨k, rfl, hkg, hg, HN⟩ := hrel
          have HG := Lib.hid hkg
          clear hkg
          by_cases hk : k < n
          · obtain ⟨ad, hk', rfl, hbl, hcell⟩ := (hS.keep hg.below).at_ hk
            have hle := hl (by omega) _ (List.getElem_mem hk')
            have cP := param_any ⟨vs[k].toArray⟩ wr (ht.keep hg) (by rw [size_mk]; exact hle)
            have e1 : (ByteArray.mk vs[k].toArray).data.toList = vs[k] := rfl
            rw [e1] at cP
            by_cases hE : Es.clE true vs[k] = 0
            · have HE := Lib.hid (all_take hk' HN.out hE)
              rw [hE] at cP
              clear hE e1 hle
              generalize (ByteArray.mk vs[k].toArray) = s at *
              go_wp2_with (go_at_call 21; refine cP.mono ?_; rintro e w1 ⟨rfl, hg1⟩)
              go_roundg (n - (k + 1))
              case measure => have := HG.out; omega
              case rel => exact ⟨k + 1, by go_num, by omega, hg.trans hg1, HE⟩
            · have HE := Lib.hid (HB.out _ (List.getElem_mem hk') hE)
              have hEn : ((Es.clE true vs[k] : Int) != 0) = true := by simpa using hE
              clear hE e1 hle
              generalize (ByteArray.mk vs[k].toArray) = s at *
              generalize Es.clE true vs[k] = X at *
              go_wp2_with (go_at_call 21; refine cP.mono ?_; rintro e w1 ⟨rfl, hg1⟩)
              go_ret
              exact ⟨ret_bool HE.out.symm, hg.trans hg1⟩
          · obtain rfl : k = n := by have := HG.out; omega
            have he := HN.out
            rw [List.take_of_length_le (by rw [HL.out]; exact Nat.le_refl _)] at he
            have HE := Lib.hid (HO.out he)
            clear he
            go_wp2
            go_ret
            exact ⟨ret_bool HE.out.symm, hg⟩
end Go.Proofs.YtpcmhaflmpcicaaDoor
