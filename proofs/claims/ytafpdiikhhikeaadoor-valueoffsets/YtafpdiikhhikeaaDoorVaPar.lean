/- What value.parseHours, parsePeriod, ParseDuration and Number return. -/
import Derived.Test.YtafpdiikhhikeaaDoorVaFn
import Derived.Test.YtafpdiikhhikeaaDoorShelf
namespace Go.Proofs.YtafpdiikhhikeaaDoor
open Go.RowKit

theorem bf {c : UInt8} (k : UInt8) (h : c ≠ k) : ((c.toNat : Int) == (k.toNat : Int)) = false := by
  rw [beq_eq_false_iff_ne]
  intro e
  exact h (UInt8.toNat_inj.1 (by omega))
theorem bn {c : UInt8} (k : UInt8) (h : c ≠ k) : ((c.toNat : Int) != (k.toNat : Int)) = true := by rw [bne, bf k h]; rfl
theorem emn_t : (ByteArray.mk ([] : List UInt8).toArray).toList.isEmpty = true := emp_t _ rfl
theorem emn_f {l : List UInt8} (h : l ≠ []) : (ByteArray.mk l.toArray).toList.isEmpty = false := emp_f _ (by rw [Lib.size_eq]; intro e; exact h (List.eq_nil_of_length_eq_zero e))
theorem emn_g {l : List UInt8} (h : l ≠ []) : l.isEmpty = false := by cases l <;> simp_all
theorem cut_no {s : ByteArray} (h : Va.cut s.data.toList = none) : cutV s.data.toList = .tuple #[.int .i64 0, .int .u8 0, .string ⟨#[]⟩] := by
  unfold cutV; rw [h]
theorem cut_yes {s : ByteArray} {n : Nat} {c : UInt8} {r : List UInt8} (h : Va.cut s.data.toList = some (n, c, r)) : cutV s.data.toList = .tuple #[.int .i64 (n : Int), .int .u8 (c.toNat : Int), .string ⟨r.toArray⟩] := by
  unfold cutV; rw [h]
theorem cut_size {l : List UInt8} {n : Nat} {c : UInt8} {r : List UInt8} (h : Va.cut l = some (n, c, r)) (hl : l.length ≤ 1000000) : (ByteArray.mk r.toArray).size ≤ 1000000 := by
  have := (Va.cut_lt h).2
  rw [Lib.size_eq]
  show r.length ≤ _
  omega

set_option maxRecDepth 8000 in
set_option maxHeartbeats 4000000 in
theorem phours_any (s : ByteArray) (w : World) (hl : s.size ≤ 1000000) :
    Calls Tryd.prog 51 #[.string s] w fun e w' => ∃ v : Int, e = .returned (.tuple #[.int .i64 v, .bool (Va.hr s.data.toList).isSome]) ∧ (∀ n, Va.hr s.data.toList = some n → v = n) ∧ 0 ≤ v ∧ v ≤ 1000000000000000 ∧ Gr w w' := by
  have hg := Gr.refl w
  have hz : s.data.toList.length ≤ 1000000 := by rw [← Lib.size_eq]; exact hl
  rcases h1 : Va.cut s.data.toList with _ | ⟨n1, d1, r1⟩
  · have c1 := Lib.hid (cut_no (s := s) h1)
    have E : Va.hr s.data.toList = none := by simp [Va.hr, Va.ho, h1]
    rw [E]
    have _ := E
    clear E h1
    go_enter Tryd.func51, Tryd.ntmps51
    go_wp2_with (go_at_call 52; refine (cutpart_any _ _ (by first | exact hl | exact z1 | exact z2)).mono ?_; rintro e w1 ⟨rfl, hb⟩; (first | rw [c1.out]); replace hg := hg.trans hb; clear hb)
    go_ret2
    exact ⟨_, rfl, fun n hn => by first | (cases hn; done) | (injection hn with hn; omega), by omega, by omega, hg⟩
  have c1 := Lib.hid (cut_yes (s := s) h1)
  have z1 := cut_size h1 hz
  have b1 := (Va.cut_lt h1).1
  by_cases u1 : d1 = 72
  · subst u1
    by_cases e1 : r1 = []
    · subst e1
      have f1 := emn_t
      have E : Va.hr s.data.toList = some (n1 * 3600) := by simp [Va.hr, Va.ho, h1]
      rw [E]
      have _ := E
      clear E h1
      go_enter Tryd.func51, Tryd.ntmps51
      go_wp2_with (go_at_call 52; refine (cutpart_any _ _ (by first | exact hl | exact z1 | exact z2)).mono ?_; rintro e w1 ⟨rfl, hb⟩; (first | rw [c1.out]); replace hg := hg.trans hb; clear hb)
      go_ret2
      exact ⟨_, rfl, fun n hn => by first | (cases hn; done) | (injection hn with hn; omega), by omega, by omega, hg⟩
    have f1 := emn_g e1
    rcases h2 : Va.cut r1 with _ | ⟨n2, d2, r2⟩
    · have c2 := Lib.hid (cut_no (s := ⟨r1.toArray⟩) h2)
      have E : Va.hr s.data.toList = none := by simp [Va.hr, Va.ho, Va.mi, h1, h2, e1]
      rw [E]
      have _ := E
      clear E h1 h2
      go_enter Tryd.func51, Tryd.ntmps51
      go_wp2_with (go_at_call 52; refine (cutpart_any _ _ (by first | exact hl | exact z1 | exact z2)).mono ?_; rintro e w1 ⟨rfl, hb⟩; (first | rw [c1.out] | rw [c2.out]); replace hg := hg.trans hb; clear hb)
      go_ret2
      exact ⟨_, rfl, fun n hn => by first | (cases hn; done) | (injection hn with hn; omega), by omega, by omega, hg⟩
    have c2 := Lib.hid (cut_yes (s := ⟨r1.toArray⟩) h2)
    have z2 := cut_size h2 z1
    have b2 := (Va.cut_lt h2).1
    by_cases u2 : d2 = 77
    · subst u2
      by_cases e2 : r2 = []
      · subst e2
        have f2 := emn_t
        have E : Va.hr s.data.toList = some (n1 * 3600 + n2 * 60) := by simp [Va.hr, Va.ho, Va.mi, h1, h2, e1]
        rw [E]
        have _ := E
        clear E h1 h2
        go_enter Tryd.func51, Tryd.ntmps51
        go_wp2_with (go_at_call 52; refine (cutpart_any _ _ (by first | exact hl | exact z1 | exact z2)).mono ?_; rintro e w1 ⟨rfl, hb⟩; (first | rw [c1.out] | rw [c2.out]); replace hg := hg.trans hb; clear hb)
        go_ret2
        exact ⟨_, rfl, fun n hn => by first | (cases hn; done) | (injection hn with hn; omega), by omega, by omega, hg⟩
      have f2 := emn_g e2
      rcases h3 : Va.cut r2 with _ | ⟨n3, d3, r3⟩
      · have c3 := Lib.hid (cut_no (s := ⟨r2.toArray⟩) h3)
        have E : Va.hr s.data.toList = none := by simp [Va.hr, Va.ho, Va.se, Va.mi, h1, h2, e1, h3, e2]
        rw [E]
        have _ := E
        clear E h1 h2 h3
        go_enter Tryd.func51, Tryd.ntmps51
        go_wp2_with (go_at_call 52; refine (cutpart_any _ _ (by first | exact hl | exact z1 | exact z2)).mono ?_; rintro e w1 ⟨rfl, hb⟩; (first | rw [c1.out] | rw [c2.out] | rw [c3.out]); replace hg := hg.trans hb; clear hb)
        go_ret2
        exact ⟨_, rfl, fun n hn => by first | (cases hn; done) | (injection hn with hn; omega), by omega, by omega, hg⟩
      have c3 := Lib.hid (cut_yes (s := ⟨r2.toArray⟩) h3)
      have b3 := (Va.cut_lt h3).1
      by_cases u3 : d3 = 83
      · subst u3
        by_cases e3 : r3 = []
        · subst e3
          have f3 := emn_t
          have E : Va.hr s.data.toList = some (n1 * 3600 + n2 * 60 + n3) := by simp [Va.hr, Va.ho, Va.se, Va.mi, h1, h2, e1, h3, e2]
          rw [E]
          have _ := E
          clear E h1 h2 h3
          go_enter Tryd.func51, Tryd.ntmps51
          go_wp2_with (go_at_call 52; refine (cutpart_any _ _ (by first | exact hl | exact z1 | exact z2)).mono ?_; rintro e w1 ⟨rfl, hb⟩; (first | rw [c1.out] | rw [c2.out] | rw [c3.out]); replace hg := hg.trans hb; clear hb)
          go_ret2
          exact ⟨_, rfl, fun n hn => by first | (cases hn; done) | (injection hn with hn; omega), by omega, by omega, hg⟩
        · have f3 := emn_g e3
          have E : Va.hr s.data.toList = none := by simp [Va.hr, Va.ho, Va.se, Va.mi, h1, h2, e1, h3, e2, e3]
          rw [E]
          have _ := E
          clear E h1 h2 h3
          go_enter Tryd.func51, Tryd.ntmps51
          go_wp2_with (go_at_call 52; refine (cutpart_any _ _ (by first | exact hl | exact z1 | exact z2)).mono ?_; rintro e w1 ⟨rfl, hb⟩; (first | rw [c1.out] | rw [c2.out] | rw [c3.out]); replace hg := hg.trans hb; clear hb)
          go_ret2
          exact ⟨_, rfl, fun n hn => by first | (cases hn; done) | (injection hn with hn; omega), by omega, by omega, hg⟩
      · have v3 : ((d3.toNat : Int) != 83) = true := bn 83 u3
        have E : Va.hr s.data.toList = none := by simp [Va.hr, Va.ho, Va.se, Va.mi, h1, h2, e1, h3, e2, u3]
        rw [E]
        have _ := E
        clear E h1 h2 h3
        go_enter Tryd.func51, Tryd.ntmps51
        go_wp2_with (go_at_call 52; refine (cutpart_any _ _ (by first | exact hl | exact z1 | exact z2)).mono ?_; rintro e w1 ⟨rfl, hb⟩; (first | rw [c1.out] | rw [c2.out] | rw [c3.out]); replace hg := hg.trans hb; clear hb)
        go_ret2
        exact ⟨_, rfl, fun n hn => by first | (cases hn; done) | (injection hn with hn; omega), by omega, by omega, hg⟩
    · have v2 : ((d2.toNat : Int) != 77) = true := bn 77 u2
      have E : Va.hr s.data.toList = none := by simp [Va.hr, Va.ho, Va.mi, h1, h2, e1, u2]
      rw [E]
      have _ := E
      clear E h1 h2
      go_enter Tryd.func51, Tryd.ntmps51
      go_wp2_with (go_at_call 52; refine (cutpart_any _ _ (by first | exact hl | exact z1 | exact z2)).mono ?_; rintro e w1 ⟨rfl, hb⟩; (first | rw [c1.out] | rw [c2.out]); replace hg := hg.trans hb; clear hb)
      go_ret2
      exact ⟨_, rfl, fun n hn => by first | (cases hn; done) | (injection hn with hn; omega), by omega, by omega, hg⟩
  have v1 : ((d1.toNat : Int) == 72) = false := bf 72 u1
  by_cases u2 : d1 = 77
  · subst u2
    by_cases e1 : r1 = []
    · subst e1
      have f1 := emn_t
      have E : Va.hr s.data.toList = some (n1 * 60) := by simp [Va.hr, Va.ho, Va.mi, h1]
      rw [E]
      have _ := E
      clear E h1
      go_enter Tryd.func51, Tryd.ntmps51
      go_wp2_with (go_at_call 52; refine (cutpart_any _ _ (by first | exact hl | exact z1 | exact z2)).mono ?_; rintro e w1 ⟨rfl, hb⟩; (first | rw [c1.out]); replace hg := hg.trans hb; clear hb)
      go_ret2
      exact ⟨_, rfl, fun n hn => by first | (cases hn; done) | (injection hn with hn; omega), by omega, by omega, hg⟩
    have f1 := emn_g e1
    rcases h2 : Va.cut r1 with _ | ⟨n2, d2, r2⟩
    · have c2 := Lib.hid (cut_no (s := ⟨r1.toArray⟩) h2)
      have E : Va.hr s.data.toList = none := by simp [Va.hr, Va.ho, Va.se, Va.mi, h1, h2, e1]
      rw [E]
      have _ := E
      clear E h1 h2
      go_enter Tryd.func51, Tryd.ntmps51
      go_wp2_with (go_at_call 52; refine (cutpart_any _ _ (by first | exact hl | exact z1 | exact z2)).mono ?_; rintro e w1 ⟨rfl, hb⟩; (first | rw [c1.out] | rw [c2.out]); replace hg := hg.trans hb; clear hb)
      go_ret2
      exact ⟨_, rfl, fun n hn => by first | (cases hn; done) | (injection hn with hn; omega), by omega, by omega, hg⟩
    have c2 := Lib.hid (cut_yes (s := ⟨r1.toArray⟩) h2)
    have b2 := (Va.cut_lt h2).1
    by_cases u2 : d2 = 83
    · subst u2
      by_cases e2 : r2 = []
      · subst e2
        have f2 := emn_t
        have E : Va.hr s.data.toList = some (n1 * 60 + n2) := by simp [Va.hr, Va.ho, Va.se, Va.mi, h1, h2, e1]
        rw [E]
        have _ := E
        clear E h1 h2
        go_enter Tryd.func51, Tryd.ntmps51
        go_wp2_with (go_at_call 52; refine (cutpart_any _ _ (by first | exact hl | exact z1 | exact z2)).mono ?_; rintro e w1 ⟨rfl, hb⟩; (first | rw [c1.out] | rw [c2.out]); replace hg := hg.trans hb; clear hb)
        go_ret2
        exact ⟨_, rfl, fun n hn => by first | (cases hn; done) | (injection hn with hn; omega), by omega, by omega, hg⟩
      · have f2 := emn_g e2
        have E : Va.hr s.data.toList = none := by simp [Va.hr, Va.ho, Va.se, Va.mi, h1, h2, e1, e2]
        rw [E]
        have _ := E
        clear E h1 h2
        go_enter Tryd.func51, Tryd.ntmps51
        go_wp2_with (go_at_call 52; refine (cutpart_any _ _ (by first | exact hl | exact z1 | exact z2)).mono ?_; rintro e w1 ⟨rfl, hb⟩; (first | rw [c1.out] | rw [c2.out]); replace hg := hg.trans hb; clear hb)
        go_ret2
        exact ⟨_, rfl, fun n hn => by first | (cases hn; done) | (injection hn with hn; omega), by omega, by omega, hg⟩
    · have v2 : ((d2.toNat : Int) != 83) = true := bn 83 u2
      have E : Va.hr s.data.toList = none := by simp [Va.hr, Va.ho, Va.se, Va.mi, h1, h2, e1, u2]
      rw [E]
      have _ := E
      clear E h1 h2
      go_enter Tryd.func51, Tryd.ntmps51
      go_wp2_with (go_at_call 52; refine (cutpart_any _ _ (by first | exact hl | exact z1 | exact z2)).mono ?_; rintro e w1 ⟨rfl, hb⟩; (first | rw [c1.out] | rw [c2.out]); replace hg := hg.trans hb; clear hb)
      go_ret2
      exact ⟨_, rfl, fun n hn => by first | (cases hn; done) | (injection hn with hn; omega), by omega, by omega, hg⟩
  have v2 : ((d1.toNat : Int) == 77) = false := bf 77 u2
  by_cases u3 : d1 = 83
  · subst u3
    by_cases e1 : r1 = []
    · subst e1
      have f1 := emn_t
      have E : Va.hr s.data.toList = some n1 := by simp [Va.hr, Va.ho, Va.se, h1]
      rw [E]
      have _ := E
      clear E h1
      go_enter Tryd.func51, Tryd.ntmps51
      go_wp2_with (go_at_call 52; refine (cutpart_any _ _ (by first | exact hl | exact z1 | exact z2)).mono ?_; rintro e w1 ⟨rfl, hb⟩; (first | rw [c1.out]); replace hg := hg.trans hb; clear hb)
      go_ret2
      exact ⟨_, rfl, fun n hn => by first | (cases hn; done) | (injection hn with hn; omega), by omega, by omega, hg⟩
    · have f1 := emn_g e1
      have E : Va.hr s.data.toList = none := by simp [Va.hr, Va.ho, Va.se, h1, e1]
      rw [E]
      have _ := E
      clear E h1
      go_enter Tryd.func51, Tryd.ntmps51
      go_wp2_with (go_at_call 52; refine (cutpart_any _ _ (by first | exact hl | exact z1 | exact z2)).mono ?_; rintro e w1 ⟨rfl, hb⟩; (first | rw [c1.out]); replace hg := hg.trans hb; clear hb)
      go_ret2
      exact ⟨_, rfl, fun n hn => by first | (cases hn; done) | (injection hn with hn; omega), by omega, by omega, hg⟩
  · have v3 : ((d1.toNat : Int) == 83) = false := bf 83 u3
    have E : Va.hr s.data.toList = none := by simp [Va.hr, Va.ho, Va.se, h1, u1, u2, u3]
    rw [E]
    have _ := E
    clear E h1
    go_enter Tryd.func51, Tryd.ntmps51
    go_wp2_with (go_at_call 52; refine (cutpart_any _ _ (by first | exact hl | exact z1 | exact z2)).mono ?_; rintro e w1 ⟨rfl, hb⟩; (first | rw [c1.out]); replace hg := hg.trans hb; clear hb)
    go_ret2
    exact ⟨_, rfl, fun n hn => by first | (cases hn; done) | (injection hn with hn; omega), by omega, by omega, hg⟩
end Go.Proofs.YtafpdiikhhikeaaDoor
