/- What the reference's Number and Duration return. -/
import Derived.Test.YtafpdiikhhikeaaDoorRefNum
import Derived.Test.YtafpdiikhhikeaaDoorVaDur
import Derived.Deep.LoopGhost
import Derived.OwnWalk
namespace Go.Proofs.YtafpdiikhhikeaaDoor
open Go.RowKit

namespace Txt
theorem numb_de : ∀ n : Nat, numb n 0 = Lib.decDigits n := by
  intro n
  induction n using Nat.strongRecOn with
  | _ n ih =>
    rw [numb, Lib.decDigits]
    by_cases h : n < 10
    · rw [if_pos ⟨h, by omega⟩, dif_pos h, Nat.mod_eq_of_lt h]
    · rw [if_neg (by omega), dif_neg h, ih (n / 10) (by omega)]
end Txt
theorem emq (l : List UInt8) (h : l ≠ []) : (ByteArray.mk l.toArray).toList.isEmpty = false := by
  rw [Lib.toList_data]; cases l <;> simp_all
set_option maxRecDepth 8000 in
set_option maxHeartbeats 1000000 in
theorem rnumber_any (n : Int) (w : World) (n0 : 0 ≤ n) (n1 : n ≤ 1000000000000) :
    Calls Tryd.prog 29 #[.int .i64 n] w fun e w' => e = .returned (.string ⟨(Va.de n).toArray⟩) ∧ Gr w w' := by
  have ed : Va.de n = Txt.numb n.toNat 0 := by unfold Va.de; rw [Txt.numb_de]
  rw [ed]
  clear ed
  have tl := Txt.numb_len n.toNat 0
  have ST : Txt.st (Txt.numb n.toNat 0) n.toNat 0 [] := by unfold Txt.st; rw [if_neg (by simp)]; simp
  generalize Txt.numb n.toNat 0 = t at *
  have ST' := Lib.hid ST
  go_enter Tryd.func29, Tryd.ntmps29
  go_wp2
  go_loopg [0, 3] (n.toNat + 1) (fun g u x wr => ∃ (a : Nat) (l : List UInt8), u = .int .i64 (a : Int) ∧ x = .string ⟨l.toArray⟩ ∧ Gr w wr ∧ (a : Int) ≤ n ∧ Txt.st t a (-(l.length : Int)) l ∧ a ≤ g ∧ (l = [] → a + 1 ≤ g))
  case atStart => exact ⟨n.toNat, [], by rw [Int.toNat_of_nonneg n0], rfl, Gr.refl _, by omega, ST'.out, by omega, by omega⟩
  case round =>
    obtain ⟨a, l, rfl, rfl, hg, an, hs, g1, g2⟩ := hrel
    have HG2 := Lib.hid g2
    clear g2
    have ll := Txt.st_len hs
    have l1 : l.length ≤ 2000000000000 := by omega
    have a2 : (a : Int) ≤ 1000000000000 := by omega
    have HS := Lib.hid hs; have HG := Lib.hid hg; have HL := Lib.hid ll
    clear hs hg ll tl ST
    obtain ⟨b, HB, hv⟩ : ∃ b : UInt8, Hid (b = UInt8.ofNat (48 + a % 10)) ∧ Sem.run Tryd.prog (convert 54 9 (.slice (some ⟨wr.heap.size, 0, none⟩) 1 1)) (wr.alloc (.cells #[.int .u8 (48 + (a : Int) % 10)] 5)) = .ok (.string ⟨#[b]⟩) (wr.alloc (.cells #[.int .u8 (48 + (a : Int) % 10)] 5)) := ⟨_, Lib.hid rfl, conv1 wr a⟩
    have step : ∀ hc : 0 < a ∨ l = [], Txt.st t (a / 10) (-((b :: l).length : Int)) (b :: l) := fun hc => by
      have := Txt.st_step HS.out (hc.elim .inl (fun h => .inr (.inr h)))
      rw [HB.out, List.length_cons]
      rwa [show (-(l.length : Int) - 1) = -((l.length + 1 : Nat) : Int) by omega] at this
    have HT := Lib.hid step
    clear step
    by_cases c1 : 0 < a
    · have d1 : (0 : Int) < a := by omega
      go_wp2
      go_roundg (a / 10)
      case rel => exact ⟨a / 10, b :: l, by go_num, by rw [cat1], HG.out.alloc _ _, by omega, HT.out (.inl c1), by omega, by simp⟩
      case measure => omega
    · have d1 : decide ((0 : Int) < a) = false := by simp; omega
      by_cases c3 : l = []
      · have d3 : (l == []) = true := by rw [c3]; rfl
        go_wp2
        go_roundg (a / 10)
        case rel => exact ⟨a / 10, b :: l, by go_num, by rw [c3]; exact congrArg Value.string (cat1 b []), HG.out.alloc _ _, by omega, HT.out (.inr c3), by omega, by simp⟩
        case measure => have := HG2.out c3; omega
      · have he := Txt.st_end HS.out (by omega) (by omega) c3
        have HE := Lib.hid he
        have d3 : (l == []) = false := by simp [c3]
        clear he
        go_wp2
        go_ret
        exact ⟨by rw [HE.out]; rfl, HG.out⟩
theorem tup2 {a : ByteArray} {l : List UInt8} (h : a.data.toList = l) : Ending.returned (.tuple #[.string a, .int .i64 0]) = .returned (.tuple #[.string ⟨l.toArray⟩, .int .i64 0]) := by rw [str_mk h]
set_option maxRecDepth 8000 in
set_option maxHeartbeats 4000000 in
theorem rdur_pos (n : Int) (w : World) (h0 : 0 ≤ n) (h1 : n ≤ 10000000000) :
    Calls Tryd.prog 12 #[.int .i64 n] w fun e w' => e = .returned (.tuple #[.string ⟨(80 :: Va.per n).toArray⟩, .int .i64 0]) ∧ Gr w w' := by
  have hg := Gr.refl w
  have b1 : decide (n < -10000000000) = false := by simp; omega
  have b2 : decide (10000000000 < n) = false := by simp; omega
  have b3 : decide (n < 0) = false := by simp; omega
  have l0 := Va.de_len (n := n / 604800) (by omega) (by omega)
  have l1 := Va.de_len (n := n / 86400) (by omega) (by omega)
  have l2 := Va.de_len (n := n % 86400 / 3600) (by omega) (by omega)
  have l3 := Va.de_len (n := n % 3600 / 60) (by omega) (by omega)
  have l4 := Va.de_len (n := n % 60) (by omega) (by omega)
  have cN := fun (k : Int) (w' : World) (hk : 0 ≤ k ∧ k ≤ 116000) => rnumber_any k w' hk.1 (by omega)
  by_cases a0 : n = 0
  · have b0 : (n == 0) = true := by simpa using a0
    go_enter Tryd.func12, Tryd.ntmps12
    go_wp2
    go_ret2
    exact ⟨tup2 (by first | rfl | (rw [a0]; rfl)), hg⟩
  have b0 : (n == 0) = false := by simpa using a0
  by_cases a1 : n % 604800 = 0
  · have e : Va.per n = Va.de (n / 604800) ++ [87] := by unfold Va.per; rw [if_neg a0, if_pos a1]
    have E := Lib.hid e
    have b4 : (n % 604800 == 0) = true := by simpa using a1
    clear e
    go_enter Tryd.func12, Tryd.ntmps12
    go_wp2_with (go_at_call 29; refine (cN _ _ (by omega)).mono ?_; rintro e w1 ⟨rfl, hb⟩; replace hg := hg.trans hb; clear hb)
    go_ret2
    exact ⟨tup2 (by rw [E.out]; simp [ByteArray.data_append]), hg⟩
  have b4 : (n % 604800 == 0) = false := by simpa using a1
  by_cases a2 : 86400 ≤ n
  · by_cases a3 : 0 < n % 86400 / 3600
    · by_cases a4 : 0 < n % 3600 / 60
      · by_cases a5 : 0 < n % 60
        · skip
          have a6 : 0 < n % 86400 := by omega
          have a7 : (0 < n % 3600 / 60 ∨ (0 < n % 86400 / 3600 ∧ 0 < n % 60)) := by omega
          have e : Va.per n = (Va.de (n / 86400) ++ [68]) ++ ([84] ++ ((Va.de (n % 86400 / 3600) ++ [72]) ++ (Va.de (n % 3600 / 60) ++ [77]) ++ (Va.de (n % 60) ++ [83]))) := by unfold Va.per Va.hmx; rw [if_neg a0, if_neg a1, if_pos a2, if_pos a6, if_pos a3, if_pos a7, if_pos a5]; simp
          have E := Lib.hid e
          have b5 : decide (0 < n % 86400 / 3600 + n % 3600 / 60 + n % 60) = true := decide_eq_true (by omega)
          clear e a0 a1 a6 a7
          go_enter Tryd.func12, Tryd.ntmps12
          go_wp2_with (go_at_call 29; refine (cN _ _ (by omega)).mono ?_; rintro e w1 ⟨rfl, hb⟩; replace hg := hg.trans hb; clear hb)
          go_ret2
          exact ⟨tup2 (by rw [E.out]; simp [ByteArray.data_append]), hg⟩
        · skip
          have a6 : 0 < n % 86400 := by omega
          have a7 : (0 < n % 3600 / 60 ∨ (0 < n % 86400 / 3600 ∧ 0 < n % 60)) := by omega
          have e : Va.per n = (Va.de (n / 86400) ++ [68]) ++ ([84] ++ ((Va.de (n % 86400 / 3600) ++ [72]) ++ (Va.de (n % 3600 / 60) ++ [77]))) := by unfold Va.per Va.hmx; rw [if_neg a0, if_neg a1, if_pos a2, if_pos a6, if_pos a3, if_pos a7, if_neg a5]; simp
          have E := Lib.hid e
          have b5 : decide (0 < n % 86400 / 3600 + n % 3600 / 60 + n % 60) = true := decide_eq_true (by omega)
          clear e a0 a1 a6 a7
          go_enter Tryd.func12, Tryd.ntmps12
          go_wp2_with (go_at_call 29; refine (cN _ _ (by omega)).mono ?_; rintro e w1 ⟨rfl, hb⟩; replace hg := hg.trans hb; clear hb)
          go_ret2
          exact ⟨tup2 (by rw [E.out]; simp [ByteArray.data_append]), hg⟩
      · by_cases a5 : 0 < n % 60
        · skip
          have a6 : 0 < n % 86400 := by omega
          have a7 : (0 < n % 3600 / 60 ∨ (0 < n % 86400 / 3600 ∧ 0 < n % 60)) := by omega
          have e : Va.per n = (Va.de (n / 86400) ++ [68]) ++ ([84] ++ ((Va.de (n % 86400 / 3600) ++ [72]) ++ (Va.de (n % 3600 / 60) ++ [77]) ++ (Va.de (n % 60) ++ [83]))) := by unfold Va.per Va.hmx; rw [if_neg a0, if_neg a1, if_pos a2, if_pos a6, if_pos a3, if_pos a7, if_pos a5]; simp
          have E := Lib.hid e
          have b5 : decide (0 < n % 86400 / 3600 + n % 3600 / 60 + n % 60) = true := decide_eq_true (by omega)
          clear e a0 a1 a6 a7
          go_enter Tryd.func12, Tryd.ntmps12
          go_wp2_with (go_at_call 29; refine (cN _ _ (by omega)).mono ?_; rintro e w1 ⟨rfl, hb⟩; replace hg := hg.trans hb; clear hb)
          go_ret2
          exact ⟨tup2 (by rw [E.out]; simp [ByteArray.data_append]), hg⟩
        · skip
          have a6 : 0 < n % 86400 := by omega
          have a7 : ¬ (0 < n % 3600 / 60 ∨ (0 < n % 86400 / 3600 ∧ 0 < n % 60)) := by omega
          have e : Va.per n = (Va.de (n / 86400) ++ [68]) ++ ([84] ++ ((Va.de (n % 86400 / 3600) ++ [72]))) := by unfold Va.per Va.hmx; rw [if_neg a0, if_neg a1, if_pos a2, if_pos a6, if_pos a3, if_neg a7, if_neg a5]; simp
          have E := Lib.hid e
          have b5 : decide (0 < n % 86400 / 3600 + n % 3600 / 60 + n % 60) = true := decide_eq_true (by omega)
          clear e a0 a1 a6 a7
          go_enter Tryd.func12, Tryd.ntmps12
          go_wp2_with (go_at_call 29; refine (cN _ _ (by omega)).mono ?_; rintro e w1 ⟨rfl, hb⟩; replace hg := hg.trans hb; clear hb)
          go_ret2
          exact ⟨tup2 (by rw [E.out]; simp [ByteArray.data_append]), hg⟩
    · by_cases a4 : 0 < n % 3600 / 60
      · by_cases a5 : 0 < n % 60
        · skip
          have a6 : 0 < n % 86400 := by omega
          have a7 : (0 < n % 3600 / 60 ∨ (0 < n % 86400 / 3600 ∧ 0 < n % 60)) := by omega
          have e : Va.per n = (Va.de (n / 86400) ++ [68]) ++ ([84] ++ ((Va.de (n % 3600 / 60) ++ [77]) ++ (Va.de (n % 60) ++ [83]))) := by unfold Va.per Va.hmx; rw [if_neg a0, if_neg a1, if_pos a2, if_pos a6, if_neg a3, if_pos a7, if_pos a5]; simp
          have E := Lib.hid e
          have b5 : decide (0 < n % 86400 / 3600 + n % 3600 / 60 + n % 60) = true := decide_eq_true (by omega)
          clear e a0 a1 a6 a7
          go_enter Tryd.func12, Tryd.ntmps12
          go_wp2_with (go_at_call 29; refine (cN _ _ (by omega)).mono ?_; rintro e w1 ⟨rfl, hb⟩; replace hg := hg.trans hb; clear hb)
          go_ret2
          exact ⟨tup2 (by rw [E.out]; simp [ByteArray.data_append]), hg⟩
        · skip
          have a6 : 0 < n % 86400 := by omega
          have a7 : (0 < n % 3600 / 60 ∨ (0 < n % 86400 / 3600 ∧ 0 < n % 60)) := by omega
          have e : Va.per n = (Va.de (n / 86400) ++ [68]) ++ ([84] ++ ((Va.de (n % 3600 / 60) ++ [77]))) := by unfold Va.per Va.hmx; rw [if_neg a0, if_neg a1, if_pos a2, if_pos a6, if_neg a3, if_pos a7, if_neg a5]; simp
          have E := Lib.hid e
          have b5 : decide (0 < n % 86400 / 3600 + n % 3600 / 60 + n % 60) = true := decide_eq_true (by omega)
          clear e a0 a1 a6 a7
          go_enter Tryd.func12, Tryd.ntmps12
          go_wp2_with (go_at_call 29; refine (cN _ _ (by omega)).mono ?_; rintro e w1 ⟨rfl, hb⟩; replace hg := hg.trans hb; clear hb)
          go_ret2
          exact ⟨tup2 (by rw [E.out]; simp [ByteArray.data_append]), hg⟩
      · by_cases a5 : 0 < n % 60
        · skip
          have a6 : 0 < n % 86400 := by omega
          have a7 : ¬ (0 < n % 3600 / 60 ∨ (0 < n % 86400 / 3600 ∧ 0 < n % 60)) := by omega
          have e : Va.per n = (Va.de (n / 86400) ++ [68]) ++ ([84] ++ ((Va.de (n % 60) ++ [83]))) := by unfold Va.per Va.hmx; rw [if_neg a0, if_neg a1, if_pos a2, if_pos a6, if_neg a3, if_neg a7, if_pos a5]; simp
          have E := Lib.hid e
          have b5 : decide (0 < n % 86400 / 3600 + n % 3600 / 60 + n % 60) = true := decide_eq_true (by omega)
          clear e a0 a1 a6 a7
          go_enter Tryd.func12, Tryd.ntmps12
          go_wp2_with (go_at_call 29; refine (cN _ _ (by omega)).mono ?_; rintro e w1 ⟨rfl, hb⟩; replace hg := hg.trans hb; clear hb)
          go_ret2
          exact ⟨tup2 (by rw [E.out]; simp [ByteArray.data_append]), hg⟩
        · skip
          have a6 : ¬ 0 < n % 86400 := by omega
          have e : Va.per n = (Va.de (n / 86400) ++ [68]) := by unfold Va.per; rw [if_neg a0, if_neg a1, if_pos a2, if_neg a6]; simp
          have E := Lib.hid e
          have b5 : decide (0 < n % 86400 / 3600 + n % 3600 / 60 + n % 60) = false := decide_eq_false (by omega)
          clear e a0 a1 a6
          go_enter Tryd.func12, Tryd.ntmps12
          go_wp2_with (go_at_call 29; refine (cN _ _ (by omega)).mono ?_; rintro e w1 ⟨rfl, hb⟩; replace hg := hg.trans hb; clear hb)
          go_ret2
          exact ⟨tup2 (by rw [E.out]; simp [ByteArray.data_append]), hg⟩
  · by_cases a3 : 0 < n % 86400 / 3600
    · by_cases a4 : 0 < n % 3600 / 60
      · by_cases a5 : 0 < n % 60
        · skip
          have a6 : 0 < n % 86400 := by omega
          have a7 : (0 < n % 3600 / 60 ∨ (0 < n % 86400 / 3600 ∧ 0 < n % 60)) := by omega
          have e : Va.per n = ([84] ++ ((Va.de (n % 86400 / 3600) ++ [72]) ++ (Va.de (n % 3600 / 60) ++ [77]) ++ (Va.de (n % 60) ++ [83]))) := by unfold Va.per Va.hmx; rw [if_neg a0, if_neg a1, if_neg a2, if_pos a6, if_pos a3, if_pos a7, if_pos a5]; simp
          have E := Lib.hid e
          have b5 : decide (0 < n % 86400 / 3600 + n % 3600 / 60 + n % 60) = true := decide_eq_true (by omega)
          clear e a0 a1 a6 a7
          go_enter Tryd.func12, Tryd.ntmps12
          go_wp2_with (go_at_call 29; refine (cN _ _ (by omega)).mono ?_; rintro e w1 ⟨rfl, hb⟩; replace hg := hg.trans hb; clear hb)
          go_ret2
          exact ⟨tup2 (by rw [E.out]; simp [ByteArray.data_append]), hg⟩
        · skip
          have a6 : 0 < n % 86400 := by omega
          have a7 : (0 < n % 3600 / 60 ∨ (0 < n % 86400 / 3600 ∧ 0 < n % 60)) := by omega
          have e : Va.per n = ([84] ++ ((Va.de (n % 86400 / 3600) ++ [72]) ++ (Va.de (n % 3600 / 60) ++ [77]))) := by unfold Va.per Va.hmx; rw [if_neg a0, if_neg a1, if_neg a2, if_pos a6, if_pos a3, if_pos a7, if_neg a5]; simp
          have E := Lib.hid e
          have b5 : decide (0 < n % 86400 / 3600 + n % 3600 / 60 + n % 60) = true := decide_eq_true (by omega)
          clear e a0 a1 a6 a7
          go_enter Tryd.func12, Tryd.ntmps12
          go_wp2_with (go_at_call 29; refine (cN _ _ (by omega)).mono ?_; rintro e w1 ⟨rfl, hb⟩; replace hg := hg.trans hb; clear hb)
          go_ret2
          exact ⟨tup2 (by rw [E.out]; simp [ByteArray.data_append]), hg⟩
      · by_cases a5 : 0 < n % 60
        · skip
          have a6 : 0 < n % 86400 := by omega
          have a7 : (0 < n % 3600 / 60 ∨ (0 < n % 86400 / 3600 ∧ 0 < n % 60)) := by omega
          have e : Va.per n = ([84] ++ ((Va.de (n % 86400 / 3600) ++ [72]) ++ (Va.de (n % 3600 / 60) ++ [77]) ++ (Va.de (n % 60) ++ [83]))) := by unfold Va.per Va.hmx; rw [if_neg a0, if_neg a1, if_neg a2, if_pos a6, if_pos a3, if_pos a7, if_pos a5]; simp
          have E := Lib.hid e
          have b5 : decide (0 < n % 86400 / 3600 + n % 3600 / 60 + n % 60) = true := decide_eq_true (by omega)
          clear e a0 a1 a6 a7
          go_enter Tryd.func12, Tryd.ntmps12
          go_wp2_with (go_at_call 29; refine (cN _ _ (by omega)).mono ?_; rintro e w1 ⟨rfl, hb⟩; replace hg := hg.trans hb; clear hb)
          go_ret2
          exact ⟨tup2 (by rw [E.out]; simp [ByteArray.data_append]), hg⟩
        · skip
          have a6 : 0 < n % 86400 := by omega
          have a7 : ¬ (0 < n % 3600 / 60 ∨ (0 < n % 86400 / 3600 ∧ 0 < n % 60)) := by omega
          have e : Va.per n = ([84] ++ ((Va.de (n % 86400 / 3600) ++ [72]))) := by unfold Va.per Va.hmx; rw [if_neg a0, if_neg a1, if_neg a2, if_pos a6, if_pos a3, if_neg a7, if_neg a5]; simp
          have E := Lib.hid e
          have b5 : decide (0 < n % 86400 / 3600 + n % 3600 / 60 + n % 60) = true := decide_eq_true (by omega)
          clear e a0 a1 a6 a7
          go_enter Tryd.func12, Tryd.ntmps12
          go_wp2_with (go_at_call 29; refine (cN _ _ (by omega)).mono ?_; rintro e w1 ⟨rfl, hb⟩; replace hg := hg.trans hb; clear hb)
          go_ret2
          exact ⟨tup2 (by rw [E.out]; simp [ByteArray.data_append]), hg⟩
    · by_cases a4 : 0 < n % 3600 / 60
      · by_cases a5 : 0 < n % 60
        · skip
          have a6 : 0 < n % 86400 := by omega
          have a7 : (0 < n % 3600 / 60 ∨ (0 < n % 86400 / 3600 ∧ 0 < n % 60)) := by omega
          have e : Va.per n = ([84] ++ ((Va.de (n % 3600 / 60) ++ [77]) ++ (Va.de (n % 60) ++ [83]))) := by unfold Va.per Va.hmx; rw [if_neg a0, if_neg a1, if_neg a2, if_pos a6, if_neg a3, if_pos a7, if_pos a5]; simp
          have E := Lib.hid e
          have b5 : decide (0 < n % 86400 / 3600 + n % 3600 / 60 + n % 60) = true := decide_eq_true (by omega)
          clear e a0 a1 a6 a7
          go_enter Tryd.func12, Tryd.ntmps12
          go_wp2_with (go_at_call 29; refine (cN _ _ (by omega)).mono ?_; rintro e w1 ⟨rfl, hb⟩; replace hg := hg.trans hb; clear hb)
          go_ret2
          exact ⟨tup2 (by rw [E.out]; simp [ByteArray.data_append]), hg⟩
        · skip
          have a6 : 0 < n % 86400 := by omega
          have a7 : (0 < n % 3600 / 60 ∨ (0 < n % 86400 / 3600 ∧ 0 < n % 60)) := by omega
          have e : Va.per n = ([84] ++ ((Va.de (n % 3600 / 60) ++ [77]))) := by unfold Va.per Va.hmx; rw [if_neg a0, if_neg a1, if_neg a2, if_pos a6, if_neg a3, if_pos a7, if_neg a5]; simp
          have E := Lib.hid e
          have b5 : decide (0 < n % 86400 / 3600 + n % 3600 / 60 + n % 60) = true := decide_eq_true (by omega)
          clear e a0 a1 a6 a7
          go_enter Tryd.func12, Tryd.ntmps12
          go_wp2_with (go_at_call 29; refine (cN _ _ (by omega)).mono ?_; rintro e w1 ⟨rfl, hb⟩; replace hg := hg.trans hb; clear hb)
          go_ret2
          exact ⟨tup2 (by rw [E.out]; simp [ByteArray.data_append]), hg⟩
      · by_cases a5 : 0 < n % 60
        · skip
          have a6 : 0 < n % 86400 := by omega
          have a7 : ¬ (0 < n % 3600 / 60 ∨ (0 < n % 86400 / 3600 ∧ 0 < n % 60)) := by omega
          have e : Va.per n = ([84] ++ ((Va.de (n % 60) ++ [83]))) := by unfold Va.per Va.hmx; rw [if_neg a0, if_neg a1, if_neg a2, if_pos a6, if_neg a3, if_neg a7, if_pos a5]; simp
          have E := Lib.hid e
          have b5 : decide (0 < n % 86400 / 3600 + n % 3600 / 60 + n % 60) = true := decide_eq_true (by omega)
          clear e a0 a1 a6 a7
          go_enter Tryd.func12, Tryd.ntmps12
          go_wp2_with (go_at_call 29; refine (cN _ _ (by omega)).mono ?_; rintro e w1 ⟨rfl, hb⟩; replace hg := hg.trans hb; clear hb)
          go_ret2
          exact ⟨tup2 (by rw [E.out]; simp [ByteArray.data_append]), hg⟩
        · exfalso; omega
set_option maxHeartbeats 1000000 in
theorem rduration_yes (n : Int) (w : World) (h : Va.durB n = true) :
    Calls Tryd.prog 12 #[.int .i64 n] w fun e w' => e = .returned (.tuple #[.string ⟨(Va.dur n).toArray⟩, .int .i64 0]) ∧ Gr w w' := by
  obtain ⟨h1, h2⟩ := Va.durB_iff.1 h
  clear h
  unfold Va.dur
  by_cases a : n < 0
  · rw [if_pos a]
    have hl := Va.per_len (n := -n) (by omega) (by omega)
    have cP := rdur_pos (-n) w (by omega) (by omega)
    generalize Va.per (-n) = p at *
    have b1 : decide (n < -10000000000) = false := by simp; omega
    have b2 : decide (10000000000 < n) = false := by simp; omega
    go_enter Tryd.func12, Tryd.ntmps12
    go_wp2_with (go_at_call 12; refine cP.mono ?_; rintro e w1 ⟨rfl, hb⟩)
    go_ret2
    exact ⟨tup2 (by simp [ByteArray.data_append]), hb⟩
  · rw [if_neg a]
    exact rdur_pos n w (by omega) h2
set_option maxHeartbeats 1000000 in
theorem rduration_no (n : Int) (w : World) (h : Va.durB n = false) :
    Calls Tryd.prog 12 #[.int .i64 n] w fun e w' => e = .returned (.tuple #[.string ⟨#[]⟩, .int .i64 7]) ∧ Gr w w' := by
  have hn : ¬ (-10000000000 ≤ n ∧ n ≤ 10000000000) := by rw [← Va.durB_iff, h]; simp
  clear h
  by_cases b1 : n < -10000000000
  · clear hn
    go_enter Tryd.func12, Tryd.ntmps12
    go_wp2
    go_ret2
    exact ⟨rfl, Gr.refl _⟩
  · have b2 : 10000000000 < n := by omega
    have b1 : decide (n < -10000000000) = false := by simp; omega
    clear hn
    go_enter Tryd.func12, Tryd.ntmps12
    go_wp2
    go_ret2
    exact ⟨rfl, Gr.refl _⟩
end Go.Proofs.YtafpdiikhhikeaaDoor
