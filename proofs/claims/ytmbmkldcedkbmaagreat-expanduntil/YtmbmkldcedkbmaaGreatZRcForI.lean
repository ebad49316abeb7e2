/- What recur.formedList returns at numbers. -/
import Derived.Test.YtmbmkldcedkbmaaGreatZO
namespace Go.Proofs.YtmbmkldcedkbmaaGreat
open Go.RowKit

namespace Rm
theorem rise_iff : ∀ xs : List Int, rise xs = true ↔ ∀ (j : Nat) a b, xs[j]? = some a → xs[j + 1]? = some b → a < b
  | [] => by simp [rise]
  | [x] => by simp [rise]
  | x :: y :: t => by
    rw [rise, Bool.and_eq_true, decide_eq_true_eq, rise_iff (y :: t)]
    constructor
    · rintro ⟨h1, h2⟩ j a b ha hb
      cases j with
      | zero => simp at ha hb; omega
      | succ j => exact h2 j a b (by simpa using ha) (by simpa using hb)
    · intro h
      exact ⟨h 0 x y rfl rfl, fun j a b ha hb => h (j + 1) a b (by simpa using ha) (by simpa using hb)⟩
theorem riseD_iff : ∀ xs : List (Int × Int), riseD xs = true ↔ ∀ (j : Nat) a b, xs[j]? = some a → xs[j + 1]? = some b → bef a b = true
  | [] => by simp [riseD]
  | [x] => by simp [riseD]
  | x :: y :: t => by
    rw [riseD, Bool.and_eq_true, riseD_iff (y :: t)]
    constructor
    · rintro ⟨h1, h2⟩ j a b ha hb
      cases j with
      | zero => simp at ha hb; rw [← ha, ← hb]; exact h1
      | succ j => exact h2 j a b (by simpa using ha) (by simpa using hb)
    · intro h
      exact ⟨h 0 x y rfl rfl, fun j a b ha hb => h (j + 1) a b (by simpa using ha) (by simpa using hb)⟩
def fineL (lo hi : Int) (l : List Int) : Bool := decide (l.length ≤ 40) && l.all (alw lo hi) && rise l
theorem fineL_iff {lo hi : Int} {l : List Int} : fineL lo hi l = true ↔ l.length ≤ 40 ∧ (∀ (j : Nat) a, l[j]? = some a → alw lo hi a = true) ∧ ∀ (j : Nat) a b, l[j]? = some a → l[j + 1]? = some b → a < b := by
  unfold fineL
  rw [Bool.and_eq_true, Bool.and_eq_true, decide_eq_true_eq, List.all_eq_true, rise_iff, and_assoc]
  refine and_congr_right fun _ => and_congr_left fun _ => ⟨fun h j a e => h a (List.mem_of_getElem? e), fun h a ha => ?_⟩
  obtain ⟨j, hj⟩ := List.mem_iff_getElem?.1 ha
  exact h j a hj
theorem fineD_iff2 {l : List (Int × Int)} : fineD l = true ↔ l.length ≤ 40 ∧ (∀ (j : Nat) a, l[j]? = some a → mayD a = true) ∧ ∀ (j : Nat) a b, l[j]? = some a → l[j + 1]? = some b → bef a b = true := by
  rw [fineD_iff, riseD_iff]
  refine and_congr_right fun _ => and_congr_left fun _ => ⟨fun h j a e => h a (List.mem_of_getElem? e), fun h a ha => ?_⟩
  obtain ⟨j, hj⟩ := List.mem_iff_getElem?.1 ha
  exact h j a hj
theorem fineL_fine {i : Nat} (h : i < 8) (l : List Int) : fineL (lo i) (hi i) l = fine i l := by
  unfold fineL fine
  rw [show alw (lo i) (hi i) = may i from funext (may_alw i h)]
end Rm
set_option maxRecDepth 100000 in
set_option maxHeartbeats 4000000 in
theorem formedI_any (nm : ByteArray) (p : Option Addr) (lo hi : Int) (A : Option Addr) (n c : Nat) (xs : List Int) (w : World) (hN : Nums w w.heap.size A n xs) :
    Calls Tryz.prog 95 #[.slice A n c, .func (.func 96) #[.agg #[.string nm, .pointer p, .int .i64 lo, .int .i64 hi]] #[], .func (.func 97) #[] #[]] w fun e w' => e = .returned (.bool (Rm.fineL lo hi xs)) ∧ Gr w w' := by
  obtain ⟨q, hq⟩ : ∃ q, Rm.fineL lo hi xs = q := ⟨_, rfl⟩
  rw [hq]
  have HQ := Lib.hid hq
  have HL := Lib.hid hN.1
  clear hq
  by_cases h40 : n ≤ 40
  · go_enter Tryz.func95, Tryz.ntmps95
    go_wp2
    go_loopg [14] n (fun g v wx => ∃ k : Nat, v = .int .i64 (k : Int) ∧ k + g = n ∧ Gr w wx ∧ Hid (∀ (j : Nat) a, j < k → xs[j]? = some a → alw lo hi a = true) ∧ Hid (∀ (j : Nat) a b, j + 1 < k → xs[j]? = some a → xs[j + 1]? = some b → a < b))
    case atStart => exact ⟨0, rfl, by omega, Gr.refl _, Lib.hid (fun j a h => by omega), Lib.hid (fun j a b h => by omega)⟩
    case round =>
      obtain ⟨k, rfl, hkg, hg, H1, H2⟩ := hrel
      have HG := Lib.hid hkg
      clear hkg
      by_cases hk : k < n
      · obtain ⟨ad, hk', rfl, hbl, hc⟩ := hN.at_ hk
        have hd := (hg.below.cell (p := ad.add k) (by rw [add_block]; exact hbl)).trans hc
        have cA := allows_any nm (.pointer p) lo hi xs[k] wr ⟨p, rfl⟩
        have HX := Lib.hid (List.getElem?_eq_getElem hk')
        have hkn : (k : Int) < (n : Int) := by omega
        by_cases ha : alw lo hi xs[k] = true
        · rw [ha] at cA
          have HA := Lib.hid ha
          by_cases h0 : k = 0
          · subst h0
            clear ha hc hN
            have hd0 : wr.cell? ad = some (.int .i64 xs[0]) := hd
            clear hd
            generalize xs[0] = x at *
            go_wp2_with (first | (go_at_call 96; refine cA.mono ?_; rintro e w1 ⟨rfl, hg1⟩))
            go_roundg (n - 1)
            case measure => have := HG.out; omega
            case rel =>
              refine ⟨1, by go_num, by omega, hg.trans hg1, Lib.hid (fun j a h e => ?_), Lib.hid (fun j a b h => by omega)⟩
              obtain rfl : j = 0 := by omega
              rw [HX.out] at e
              cases e
              exact HA.out
          · obtain ⟨m, rfl⟩ : ∃ m, k = m + 1 := ⟨k - 1, by omega⟩
            obtain ⟨ad2, hm', e2, _, hcm⟩ := hN.at_ (k := m) (by omega)
            obtain rfl := Option.some.inj e2
            have hd' : wr.cell? ⟨ad.block, ad.off + (m + 1), none⟩ = some (.int .i64 xs[m + 1]) := by have h := hd; unfold Addr.add at h; simpa using h
            have hdm := (hg.below.cell (p := ad.add m) (by rw [add_block]; exact hbl)).trans hcm
            have HY := Lib.hid (List.getElem?_eq_getElem hm')
            have cC := fun w => cmp_any xs[m] xs[m + 1] w
            have hdm1 := fun (w1 : World) (hg1 : Gr wr w1) => gr_cell hg1 hdm
            have hm0 : (0 : Int) ≤ (m : Int) := by omega
            have hmn : (m : Int) < (n : Int) := by omega
            by_cases hlt : xs[m] < xs[m + 1]
            · have hcv : Lib.compareInt xs[m] xs[m + 1] < 0 := Rm.cmp_neg.2 hlt
              have HT := Lib.hid hlt
              clear ha hc hcm hN hlt e2
              generalize xs[m + 1] = x at *
              generalize xs[m] = y at *
              generalize Lib.compareInt y x = z at *
              go_wp2_with (first | (go_at_call 96; refine cA.mono ?_; rintro e w1 ⟨rfl, hg1⟩; have hdm2 := hdm1 w1 hg1) | (go_at_call 97; refine (cC _).mono ?_; rintro e w' ⟨rfl, rfl⟩))
              go_roundg (n - (m + 1 + 1))
              case measure => have := HG.out; omega
              case rel =>
                refine ⟨m + 1 + 1, by go_num, by omega, hg.trans hg1, Lib.hid (fun j a h e => ?_), Lib.hid (fun j a b h ea eb => ?_)⟩
                · by_cases hj : j < m + 1
                  · exact H1.out j a hj e
                  · obtain rfl : j = m + 1 := by omega
                    rw [HX.out] at e
                    cases e
                    exact HA.out
                · by_cases hj : j + 1 < m + 1
                  · exact H2.out j a b hj ea eb
                  · obtain rfl : j = m := by omega
                    rw [HY.out] at ea
                    rw [HX.out] at eb
                    cases ea
                    cases eb
                    exact HT.out
            · have hcv : 0 ≤ Lib.compareInt xs[m] xs[m + 1] := by have := mt Rm.cmp_neg.1 hlt; omega
              have HE : Hid (q = false) := Lib.hid (by
                cases hc : q
                · rfl
                · rw [hc] at HQ
                  exact absurd ((Rm.fineL_iff.1 HQ.out).2.2 m _ _ HY.out HX.out) hlt)
              clear ha hc hcm hN hlt e2
              generalize xs[m + 1] = x at *
              generalize xs[m] = y at *
              generalize Lib.compareInt y x = z at *
              go_wp2_with (first | (go_at_call 96; refine cA.mono ?_; rintro e w1 ⟨rfl, hg1⟩; have hdm2 := hdm1 w1 hg1) | (go_at_call 97; refine (cC _).mono ?_; rintro e w' ⟨rfl, rfl⟩))
              go_ret
              exact ⟨ret_bool HE.out.symm, hg.trans hg1⟩
        · have hfa : alw lo hi xs[k] = false := by simpa using ha
          rw [hfa] at cA
          have HE : Hid (q = false) := Lib.hid (by
            cases hc : q
            · rfl
            · rw [hc] at HQ
              exact absurd ((Rm.fineL_iff.1 HQ.out).2.1 k _ HX.out) ha)
          clear ha hc hN hfa
          generalize xs[k] = x at *
          go_wp2_with (first | (go_at_call 96; refine cA.mono ?_; rintro e w1 ⟨rfl, hg1⟩))
          go_ret
          exact ⟨ret_bool HE.out.symm, hg.trans hg1⟩
      · obtain rfl : k = n := by have := HG.out; omega
        have HE : Hid (q = true) := Lib.hid (by
          rw [← HQ.out]
          exact Rm.fineL_iff.2 ⟨by rw [HL.out]; exact h40, fun j a e => H1.out j a (by rw [← HL.out]; exact (List.getElem?_eq_some_iff.1 e).1) e, fun j a b ea eb => H2.out j a b (by rw [← HL.out]; exact (List.getElem?_eq_some_iff.1 eb).1) ea eb⟩)
        clear hN
        go_wp2
        go_ret
        exact ⟨ret_bool HE.out.symm, hg⟩
  · have HE : Hid (q = false) := Lib.hid (by
      cases hc : q
      · rfl
      · rw [hc] at HQ
        have := (Rm.fineL_iff.1 HQ.out).1
        rw [HL.out] at this
        exact absurd this h40)
    clear hN
    go_enter Tryz.func95, Tryz.ntmps95
    go_wp2
    go_ret
    exact ⟨ret_bool HE.out.symm, Gr.refl _⟩
end Go.Proofs.YtmbmkldcedkbmaaGreat
