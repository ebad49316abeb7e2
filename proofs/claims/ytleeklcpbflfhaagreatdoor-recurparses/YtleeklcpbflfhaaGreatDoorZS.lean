/- The texts RcSg, RcBs, RcBsD, one behind the other. -/
import Derived.Test.YtleeklcpbflfhaaGreatDoorZR
import Derived.Test.YtleeklcpbflfhaaGreatDoorZE
import Derived.Test.YtleeklcpbflfhaaGreatDoorZRcForI
import Derived.Test.YtleeklcpbflfhaaGreatDoorZRcForD
namespace Go.Proofs.YtleeklcpbflfhaaGreatDoor
open Go.RowKit

namespace Rm
theorem sgd_minus {l : List UInt8} (h : l.head? = some 45) : sgd l = l.tail := if_pos (Or.inr h)
theorem sgd_un {l : List UInt8} (h : ¬ l.head? = some 45) : sgd l = Va.un l := by
  have hn : Va.neg l = false := by unfold Va.neg; rw [beq_eq_false_iff_ne]; exact h
  unfold sgd Va.un
  rw [hn]
  by_cases h2 : l.head? = some 43
  · rw [if_pos (Or.inl h2), if_neg (by decide), if_pos (by rw [h2]; rfl)]
  · rw [if_neg (fun e => e.elim h2 h), if_neg (by decide), if_neg (by simpa using h2)]
theorem sr_minus {l : List UInt8} (h : l.head? = some 45) : sr l = if Va.num l.tail 4 = true then some (-(Txt.val l.tail 0 : Int)) else none := by
  unfold sr
  rw [sgd_minus h, h]
  rfl
theorem sr_plus {l : List UInt8} (h : ¬ l.head? = some 45) : sr l = if Va.num (Va.un l) 4 = true then some (Txt.val (Va.un l) 0 : Int) else none := by
  unfold sr
  rw [sgd_un h, show (l.head? == some 45) = false by rw [beq_eq_false_iff_ne]; exact h]
  rfl
theorem val_9999 {l : List UInt8} (h : Va.num l 4 = true) : Txt.val l 0 ≤ 9999 := by
  have := Va.val_lt10 h
  omega
end Rm
set_option maxRecDepth 100000 in
set_option maxHeartbeats 2000000 in
theorem sgn13_any (s : ByteArray) (w : World) :
    Calls Tryz.prog 104 #[.string s] w fun e w' => ∃ v q, e = .returned (.tuple #[.int .i64 v, .bool q]) ∧ ((q = true ∧ Rm.sr s.data.toList = some v ∧ -9999 ≤ v ∧ v ≤ 9999) ∨ (q = false ∧ Rm.sr s.data.toList = none)) ∧ w = w' := by
  by_cases hm : s.data.toList.head? = some 45
  · have k1 := Lib.hid (cp_t hm)
    have cU := fun w => unsigned_any ⟨s.data.toList.tail.toArray⟩ w
    have e1 : (ByteArray.mk s.data.toList.tail.toArray).data.toList = s.data.toList.tail := by simp
    rw [e1] at cU
    have HS := Lib.hid (Rm.sr_minus hm)
    have HB := Lib.hid (fun h => Rm.val_9999 (l := s.data.toList.tail) h)
    clear hm e1
    generalize Va.num s.data.toList.tail 4 = b at *
    generalize Txt.val s.data.toList.tail 0 = n at *
    generalize Rm.sr s.data.toList = o at *
    rcases b
    · go_enter Tryz.func104, Tryz.ntmps104
      go_wp2_with (first | (go_at_call 140; refine (cp_any _ _ _).mono ?_; rintro e w' ⟨rfl, rfl⟩; rw [k1.out]) | (go_at_call 100; refine (cU _).mono ?_; rintro e w' ⟨v, rfl, hv, rfl⟩))
      go_ret2
      exact ⟨_, _, rfl, Or.inr ⟨rfl, by rw [HS.out, if_neg (by decide)]⟩, rfl⟩
    · have hn := HB.out rfl
      have HO : Hid (o = some (-(n : Int))) := Lib.hid (by rw [HS.out, if_pos rfl])
      clear HS HB
      go_enter Tryz.func104, Tryz.ntmps104
      go_wp2_with (first | (go_at_call 140; refine (cp_any _ _ _).mono ?_; rintro e w' ⟨rfl, rfl⟩; rw [k1.out]) | (go_at_call 100; refine (cU _).mono ?_; rintro e w' ⟨v, rfl, hv, rfl⟩; obtain rfl := hv (by trivial)))
      go_ret2
      exact ⟨-(n : Int), true, rfl, Or.inl ⟨rfl, HO.out, by omega, by omega⟩, rfl⟩
  · have k1 := Lib.hid (cp_f hm)
    have cT := fun w => tpf_any s w (by unfold Va.neg; rw [beq_eq_false_iff_ne]; exact hm)
    have cU := fun w => unsigned_any ⟨(Va.un s.data.toList).toArray⟩ w
    have e1 : (ByteArray.mk (Va.un s.data.toList).toArray).data.toList = Va.un s.data.toList := by simp
    rw [e1] at cU
    have HS := Lib.hid (Rm.sr_plus hm)
    have HB := Lib.hid (fun h => Rm.val_9999 (l := Va.un s.data.toList) h)
    clear hm e1
    generalize Va.num (Va.un s.data.toList) 4 = b at *
    generalize Txt.val (Va.un s.data.toList) 0 = n at *
    generalize Va.un s.data.toList = u at *
    generalize Rm.sr s.data.toList = o at *
    rcases b
    · go_enter Tryz.func104, Tryz.ntmps104
      go_wp2_with (first | (go_at_call 140; refine (cp_any _ _ _).mono ?_; rintro e w' ⟨rfl, rfl⟩; rw [k1.out]) | (go_at_call 141; refine (cT _).mono ?_; rintro e w' ⟨rfl, rfl⟩) | (go_at_call 100; refine (cU _).mono ?_; rintro e w' ⟨v, rfl, hv, rfl⟩))
      go_ret2
      exact ⟨_, _, rfl, Or.inr ⟨rfl, by rw [HS.out, if_neg (by decide)]⟩, rfl⟩
    · have hn := HB.out rfl
      have HO : Hid (o = some (n : Int)) := Lib.hid (by rw [HS.out, if_pos rfl])
      clear HS HB
      go_enter Tryz.func104, Tryz.ntmps104
      go_wp2_with (first | (go_at_call 140; refine (cp_any _ _ _).mono ?_; rintro e w' ⟨rfl, rfl⟩; rw [k1.out]) | (go_at_call 141; refine (cT _).mono ?_; rintro e w' ⟨rfl, rfl⟩) | (go_at_call 100; refine (cU _).mono ?_; rintro e w' ⟨v, rfl, hv, rfl⟩; obtain rfl := hv (by trivial)))
      go_ret2
      exact ⟨(n : Int), true, rfl, Or.inl ⟨rfl, HO.out, by omega, by omega⟩, rfl⟩
set_option maxRecDepth 100000 in
set_option maxHeartbeats 2000000 in
theorem lnumber_any (nm : ByteArray) (p : Value) (lo hi : Int) (s : ByteArray) (w : World) (hp : ∃ a, p = .pointer a) :
    Calls Tryz.prog 106 #[.agg #[.string nm, p, .int .i64 lo, .int .i64 hi], .string s] w fun e w' => ∃ v q, e = .returned (.tuple #[.int .i64 v, .bool q]) ∧ Gr w w' ∧
      ((q = true ∧ Rm.sr s.data.toList = some v ∧ alw lo hi v = true ∧ -9999 ≤ v ∧ v ≤ 9999) ∨ (q = false ∧ ∀ v, Rm.sr s.data.toList = some v → alw lo hi v = false)) := by
  have cS := fun w => sgn13_any s w
  have cA := fun v w => allows_any nm p lo hi v w hp
  obtain ⟨pa, rfl⟩ := hp
  have hg0 : Gr w (w.alloc (.cells #[.string nm, .pointer pa, .int .i64 lo, .int .i64 hi] 53)) := (Gr.refl w).allocO _
  generalize Rm.sr s.data.toList = o at *
  go_enter Tryz.func106, Tryz.ntmps106
  go_wp2_with fail
  refine (cS _).mono ?_
  rintro e w' ⟨v, q, rfl, hq, rfl⟩
  rcases hq with ⟨rfl, ho, hv1, hv2⟩ | ⟨rfl, ho⟩
  · have HO := Lib.hid ho
    clear ho
    obtain ⟨al, hal⟩ : ∃ al, alw lo hi v = al := ⟨_, rfl⟩
    have cA := fun w => cA v w
    rw [hal] at cA
    have HA := Lib.hid hal
    clear hal
    go_wp2_with (go_at_call 61; refine (cA _).mono ?_; rintro e w1 ⟨rfl, hg1⟩)
    go_ret2
    refine ⟨v, al, rfl, hg0.trans hg1, ?_⟩
    rcases al
    · exact Or.inr ⟨rfl, fun v' h => by rw [HO.out] at h; cases h; exact HA.out⟩
    · exact Or.inl ⟨rfl, HO.out, HA.out, hv1, hv2⟩
  · have HO := Lib.hid ho
    clear ho
    go_wp2
    go_ret2
    exact ⟨_, false, rfl, hg0, Or.inr ⟨rfl, fun v' h => by rw [HO.out] at h; cases h⟩⟩
end Go.Proofs.YtleeklcpbflfhaaGreatDoor
namespace Go.Proofs.YtleeklcpbflfhaaGreatDoor
open Go.RowKit

/- what a search answers: the place, and whether it is there -/
def BsR (n : Nat) (xs : List Int) (t : Int) (w : World) (e : Ending) (w' : World) : Prop :=
  ∃ (P : Nat) (q : Bool), e = .returned (.tuple #[.int .i64 (P : Int), .bool q]) ∧ w = w' ∧ P ≤ n ∧
      (∀ (k : Nat) (x : Int), k < P → xs[k]? = some x → x < t) ∧ (∀ (k : Nat) (x : Int), P ≤ k → xs[k]? = some x → t ≤ x) ∧ (q = true ↔ xs[P]? = some t)
set_option maxRecDepth 100000 in
set_option maxHeartbeats 2000000 in
theorem bsI_any (A : Option Addr) (n c : Nat) (xs : List Int) (t : Int) (w : World) (hN : Nums w w.heap.size A n xs) (hn : n ≤ 1000000) (hs : ∀ (a b : Nat) (x y : Int), a < b → xs[a]? = some x → xs[b]? = some y → x < y) :
    Calls Tryz.prog 142 #[.slice A n c, .int .i64 t, .func (.func 62) #[] #[]] w (BsR n xs t w) := by
  have HS := Lib.hid hs
  have HN := Lib.hid hN
  clear hs hN
  go_enter Tryz.func142, Tryz.ntmps142
  go_wp2
  go_loopg [9, 10] n (fun g v9 v10 wx => ∃ (i j : Nat), v9 = .int .i64 (i : Int) ∧ v10 = .int .i64 (j : Int) ∧ i + g = j ∧ j ≤ n ∧ w = wx ∧ Hid (∀ (k : Nat) (x : Int), k < i → xs[k]? = some x → x < t) ∧ Hid (∀ (k : Nat) (x : Int), j ≤ k → xs[k]? = some x → t ≤ x))
  case atStart => exact ⟨0, n, rfl, rfl, by omega, Nat.le_refl _, rfl, Lib.hid (fun k x h => by omega), Lib.hid (fun k x h e => by have := (List.getElem?_eq_some_iff.1 e).1; have := HN.out.1; omega)⟩
  case round =>
    obtain ⟨i, j, rfl, rfl, hig, hjn, rfl, H1, H2⟩ := hrel
    have HG := Lib.hid hig
    clear hig
    by_cases hij : i < j
    · obtain ⟨m, hm⟩ : ∃ m, m = (i + j) / 2 := ⟨_, rfl⟩
      have hi0 : (i : Int) < (j : Int) := by omega
      obtain ⟨ad, hm', rfl, hbl, hc⟩ := HN.out.at_ (k := m) (by omega)
      have HX := Lib.hid (List.getElem?_eq_getElem hm')
      have cC := fun w => cmp_any xs[m] t w
      have HMI := Lib.hid (show ((i : Int) + (j : Int)) / 2 = (m : Int) by omega)
      have him : i ≤ m := by omega
      have hmj : m < j := by omega
      clear hm
      go_upto_region 5 with fail
      rw [HMI.out]
      have hmn : (m : Int) < (n : Int) := by omega
      by_cases hlt : xs[m] < t
      · have hcv : Lib.compareInt xs[m] t < 0 := Rm.cmp_neg.2 hlt
        have HT := Lib.hid hlt
        clear hlt
        generalize Lib.compareInt xs[m] t = z at *
        generalize xs[m] = x at *
        go_wp2_with (go_at_call 62; refine (cC _).mono ?_; rintro e w' ⟨rfl, rfl⟩)
        go_roundg (j - (m + 1))
        case measure => have := HG.out; omega
        case rel =>
          refine ⟨m + 1, j, by go_num, rfl, by omega, hjn, rfl, Lib.hid (fun k y hk e => ?_), H2⟩
          by_cases h : k = m
          · subst h
            rw [HX.out] at e
            cases e
            exact HT.out
          · exact Int.lt_trans (HS.out k m y x (by omega) e HX.out) HT.out
      · have hcv : 0 ≤ Lib.compareInt xs[m] t := by have := mt Rm.cmp_neg.1 hlt; omega
        have HT := Lib.hid (Int.not_lt.1 hlt)
        clear hlt
        generalize Lib.compareInt xs[m] t = z at *
        generalize xs[m] = x at *
        go_wp2_with (go_at_call 62; refine (cC _).mono ?_; rintro e w' ⟨rfl, rfl⟩)
        go_roundg (m - i)
        case measure => have := HG.out; omega
        case rel =>
          refine ⟨i, m, rfl, rfl, by omega, by omega, rfl, H1, Lib.hid (fun k y hk e => ?_)⟩
          by_cases h : k = m
          · subst h
            rw [HX.out] at e
            cases e
            exact HT.out
          · exact Int.le_trans HT.out (Int.le_of_lt (HS.out m k x y (by omega) HX.out e))
    · obtain rfl : i = j := by have := HG.out; omega
      have HL := Lib.hid HN.out.1
      by_cases hi : i < n
      · obtain ⟨ad, hi', rfl, hbl, hc⟩ := HN.out.at_ hi
        have HX := Lib.hid (List.getElem?_eq_getElem hi')
        have cC := fun w => cmp_any xs[i] t w
        have hin : (i : Int) < (n : Int) := by omega
        have HZ := Lib.hid (Rm.cmp_zero (x := xs[i]) (y := t))
        generalize Lib.compareInt xs[i] t = z at *
        generalize xs[i] = x at *
        go_wp2_with (go_at_call 62; refine (cC _).mono ?_; rintro e w' ⟨rfl, rfl⟩)
        go_ret2
        refine ⟨i, z == 0, rfl, rfl, by omega, H1.out, H2.out, ?_⟩
        rw [HX.out, beq_iff_eq, HZ.out, Option.some.injEq]
      · have hin : ¬ (i : Int) < (n : Int) := by omega
        go_wp2
        go_ret2
        refine ⟨i, false, rfl, rfl, by omega, H1.out, H2.out, ?_⟩
        rw [List.getElem?_eq_none (by have := HL.out; omega)]
        simp
end Go.Proofs.YtleeklcpbflfhaaGreatDoor
namespace Go.Proofs.YtleeklcpbflfhaaGreatDoor
open Go.RowKit

def BsD (n : Nat) (xs : List (Int × Int)) (t : Int × Int) (w : World) (e : Ending) (w' : World) : Prop :=
  ∃ (P : Nat) (q : Bool), e = .returned (.tuple #[.int .i64 (P : Int), .bool q]) ∧ Gr w w' ∧ P ≤ n ∧
      (∀ (k : Nat) (x : Int × Int), k < P → xs[k]? = some x → Rm.bef x t = true) ∧ (∀ (k : Nat) (x : Int × Int), P ≤ k → xs[k]? = some x → Rm.bef x t = false) ∧ (q = true ↔ xs[P]? = some t)
set_option maxRecDepth 100000 in
set_option maxHeartbeats 2000000 in
theorem bsD_any (A : Option Addr) (n c : Nat) (xs : List (Int × Int)) (t : Int × Int) (w : World) (hN : Days w w.heap.size A n xs) (hn : n ≤ 1000000) (hs : ∀ (a b : Nat) (x y : Int × Int), a < b → xs[a]? = some x → xs[b]? = some y → Rm.bef x y = true) :
    Calls Tryz.prog 102 #[.slice A n c, .agg #[.int .i64 t.1, .int .i64 t.2], .func (.func 32) #[] #[]] w (BsD n xs t w) := by
  have HS := Lib.hid hs
  have HN := Lib.hid hN
  have CC := Lib.hid (fun x w => cmpw_any x t w)
  clear hs hN
  generalize t.1 = t1 at *
  generalize t.2 = t2 at *
  have hg0 : Gr w (w.alloc (.cells #[.int .i64 t1, .int .i64 t2] 49)) := (Gr.refl w).allocO _
  have HB0 := Lib.hid (show (w.alloc (.cells #[.int .i64 t1, .int .i64 t2] 49)).cell? ⟨w.heap.size, 0, none⟩ = some (.int .i64 t1) by simp)
  have HB1 := Lib.hid (show (w.alloc (.cells #[.int .i64 t1, .int .i64 t2] 49)).cell? ⟨w.heap.size, 1, none⟩ = some (.int .i64 t2) by simp)
  have HN := Lib.hid (HN.out.gr hg0)
  go_enter Tryz.func102, Tryz.ntmps102
  go_wp2
  generalize w.alloc (.cells #[.int .i64 t1, .int .i64 t2] 49) = W at *
  go_loopg [9, 10] n (fun g v9 v10 wx => ∃ (i j : Nat), v9 = .int .i64 (i : Int) ∧ v10 = .int .i64 (j : Int) ∧ i + g = j ∧ j ≤ n ∧ Gr W wx ∧ Hid (∀ (k : Nat) (x : Int × Int), k < i → xs[k]? = some x → Rm.bef x t = true) ∧ Hid (∀ (k : Nat) (x : Int × Int), j ≤ k → xs[k]? = some x → Rm.bef x t = false))
  case atStart => exact ⟨0, n, rfl, rfl, by omega, Nat.le_refl _, Gr.refl _, Lib.hid (fun k x h => by omega), Lib.hid (fun k x h e => by have := (List.getElem?_eq_some_iff.1 e).1; have := HN.out.1; omega)⟩
  case round =>
    obtain ⟨i, j, rfl, rfl, hig, hjn, hg, H1, H2⟩ := hrel
    have HG := Lib.hid hig
    clear hig
    by_cases hij : i < j
    · obtain ⟨m, hm⟩ : ∃ m, m = (i + j) / 2 := ⟨_, rfl⟩
      have hi0 : (i : Int) < (j : Int) := by omega
      obtain ⟨ad, hm', rfl, hbl, hc0, hc1⟩ := HN.out.at_ (k := m) (by omega)
      have d0 := gr_cell hg hc0
      have d1 := gr_cell hg hc1
      dsimp only [dv1, dv2] at d0 d1
      have b0 := gr_cell hg HB0.out
      have b1 := gr_cell hg HB1.out
      have HX := Lib.hid (List.getElem?_eq_getElem hm')
      have cC := fun w => CC.out xs[m] w
      have HMI := Lib.hid (show ((i : Int) + (j : Int)) / 2 = (m : Int) by omega)
      have him : i ≤ m := by omega
      have hmj : m < j := by omega
      clear hm hc0 hc1
      go_upto_region 5 with fail
      rw [HMI.out]
      have hmn : (m : Int) < (n : Int) := by omega
      rcases hlt : Rm.bef xs[m] t
      · have hcv : 0 ≤ Rm.cmpW xs[m] t := by
          have := mt Rm.cmpW_neg.1 (by rw [hlt]; decide : ¬ Rm.bef xs[m] t = true)
          omega
        have HT := Lib.hid hlt
        clear hlt
        generalize Rm.cmpW xs[m] t = z at *
        generalize xs[m] = x at *
        generalize x.1 = x1 at *
        generalize x.2 = x2 at *
        go_wp2_with fail
        have y0 := after_cell d0
        have y1 := after_cell d1
        have y2 := after_cell b0
        have y3 := after_cell b1
        refine wp_region_after (by kernel_rfl) (by kernel_rfl) ?_
        repeat (go_big_quiet_step (first | (go_at_call 32; exact qafter (cC _))))
        refine wpQuiet_nil ?_
        rintro _ ⟨⟨w6, hg2⟩, rfl⟩
        go_wp2
        go_roundg (m - i)
        case measure => have := HG.out; omega
        case rel =>
          refine ⟨i, m, rfl, rfl, by omega, by omega, hg.trans hg2, H1, Lib.hid (fun k y hk e => ?_)⟩
          by_cases h : k = m
          · subst h
            rw [HX.out] at e
            cases e
            exact HT.out
          · have h1 := HS.out m k x y (by omega) HX.out e
            cases h2 : Rm.bef y t
            · rfl
            · have := Rm.bef_trans h1 h2
              rw [HT.out] at this
              exact absurd this (by decide)
      · have hcv : Rm.cmpW xs[m] t < 0 := Rm.cmpW_neg.2 hlt
        have HT := Lib.hid hlt
        clear hlt
        generalize Rm.cmpW xs[m] t = z at *
        generalize xs[m] = x at *
        generalize x.1 = x1 at *
        generalize x.2 = x2 at *
        go_wp2_with fail
        have y0 := after_cell d0
        have y1 := after_cell d1
        have y2 := after_cell b0
        have y3 := after_cell b1
        refine wp_region_after (by kernel_rfl) (by kernel_rfl) ?_
        repeat (go_big_quiet_step (first | (go_at_call 32; exact qafter (cC _))))
        refine wpQuiet_nil ?_
        rintro _ ⟨⟨w6, hg2⟩, rfl⟩
        go_wp2
        go_roundg (j - (m + 1))
        case measure => have := HG.out; omega
        case rel =>
          refine ⟨m + 1, j, by go_num, rfl, by omega, hjn, hg.trans hg2, Lib.hid (fun k y hk e => ?_), H2⟩
          by_cases h : k = m
          · subst h
            rw [HX.out] at e
            cases e
            exact HT.out
          · exact Rm.bef_trans (HS.out k m y x (by omega) e HX.out) HT.out
    · obtain rfl : i = j := by have := HG.out; omega
      have HL := Lib.hid HN.out.1
      by_cases hi : i < n
      · obtain ⟨ad, hi', rfl, hbl, hc0, hc1⟩ := HN.out.at_ hi
        have d0 := gr_cell hg hc0
        have d1 := gr_cell hg hc1
        dsimp only [dv1, dv2] at d0 d1
        have b0 := gr_cell hg HB0.out
        have b1 := gr_cell hg HB1.out
        have HX := Lib.hid (List.getElem?_eq_getElem hi')
        have cC := fun w => CC.out xs[i] w
        have hin : (i : Int) < (n : Int) := by omega
        have HZ := Lib.hid (Rm.cmpW_zero (a := xs[i]) (b := t))
        clear hc0 hc1
        generalize Rm.cmpW xs[i] t = z at *
        generalize xs[i] = x at *
        generalize x.1 = x1 at *
        generalize x.2 = x2 at *
        go_wp2_with fail
        have y0 := after_cell d0
        have y1 := after_cell d1
        have y2 := after_cell b0
        have y3 := after_cell b1
        refine wp_region_after (by kernel_rfl) (by kernel_rfl) ?_
        repeat (go_big_quiet_step (first | (go_at_call 32; exact qafter (cC _))))
        refine wpQuiet_nil ?_
        rintro _ ⟨⟨w6, hg2⟩, rfl⟩
        go_wp2
        go_ret2
        refine ⟨i, z == 0, rfl, hg0.trans (hg.trans hg2), by omega, H1.out, H2.out, ?_⟩
        rw [HX.out, beq_iff_eq, HZ.out, Option.some.injEq]
      · have hin : ¬ (i : Int) < (n : Int) := by omega
        go_wp2_with fail
        refine wp_region_after (by kernel_rfl) (by kernel_rfl) ?_
        repeat (go_big_quiet_step (first | fail))
        refine wpQuiet_nil ?_
        rintro _ ⟨⟨w6, hg2⟩, rfl⟩
        go_wp2
        go_ret2
        refine ⟨i, false, rfl, hg0.trans (hg.trans hg2), by omega, H1.out, H2.out, ?_⟩
        rw [List.getElem?_eq_none (by have := HL.out; omega)]
        simp
end Go.Proofs.YtleeklcpbflfhaaGreatDoor
