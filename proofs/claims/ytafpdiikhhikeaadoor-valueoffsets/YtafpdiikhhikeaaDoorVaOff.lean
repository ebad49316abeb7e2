/- What value.Offset returns. -/
import Derived.Test.YtafpdiikhhikeaaDoorVaMem
import Derived.Test.YtafpdiikhhikeaaDoorVaDur
import Derived.Test.YtafpdiikhhikeaaDoorVo
namespace Go.Proofs.YtafpdiikhhikeaaDoor
open Go.RowKit

/- bytes that the call made at w has made for itself -/
structure OB (w wc : World) (A : Option Addr) (m c : Nat) (l : List UInt8) : Prop where
  own : OwnK wc w.heap.size 5 1 A m c (bc l)
  below : Below w.heap.size w wc
  size : w.heap.size ≤ wc.heap.size
theorem ap_pairI {ops : Array Oper} {rest : List Oper} {o : Oper} {a : Act} {Q : Exit → Act → World → Prop} (w : World) (hgd : o.guard = none) (sl x : Operand)
    (ho : o.op = .call { callee := .builtin .append, args := #[sl, x], argTypes := #[54, 54] })
    (B : Nat) (A : Option Addr) (n c : Nat) (l : List UInt8) (hs : a.eval sl = .slice A n c) (hown : OwnK w B 5 1 A n c (bc l)) (x1 x2 : UInt8) (y1 y2 : Int) (e1 : (x1.toNat : Int) = y1) (e2 : (x2.toNat : Int) = y2) (hx : a.eval x = .slice (some ⟨w.heap.size, 0, none⟩) 2 2)
    (hlen : n + 2 ≤ 1000000) (hB : B ≤ w.heap.size)
    (h : ∀ A' c' w', OwnK w' B 5 1 A' (n + 2) c' (bc (l ++ [x1, x2])) → Below B w w' → wpList Tryd.prog ops Q rest (a.put o.dst (.slice A' (n + 2) c')) w') :
    wpList Tryd.prog ops Q (o :: rest) a (w.alloc (.cells #[.int .u8 y1, .int .u8 y2] 5)) := by
  subst e1 e2
  exact ap_pair w hgd sl x ho B A n c l hs hown x1 x2 hx hlen hB h
theorem two_int {k : Int} (h0 : 0 ≤ k) (h1 : k < 100) : ((UInt8.ofNat (48 + k.toNat / 10 % 10)).toNat : Int) = 48 + k / 10 ∧ ((UInt8.ofNat (48 + k.toNat % 10)).toNat : Int) = 48 + k % 10 := by
  rw [UInt8.toNat_ofNat', UInt8.toNat_ofNat']
  omega
set_option maxHeartbeats 1000000 in
theorem append2_any (k : Int) (w wc : World) (A : Option Addr) (m c : Nat) (l : List UInt8) (h0 : 0 ≤ k ∧ k < 100) (hO : OB w wc A m c l) (hm : m ≤ 100) :
    Calls Tryd.prog 35 #[.slice A m c, .int .i64 k] wc fun e w' => ∃ A' c', e = .returned (.slice A' (m + 2) c') ∧ OB w w' A' (m + 2) c' (l ++ Va.two k) := by
  obtain ⟨hown, hbl, hsz⟩ := hO
  obtain ⟨e1, e2⟩ := two_int h0.1 h0.2
  go_enter Tryd.func35, Tryd.ntmps35
  go_wp2_with (at_builtin; refine ap_pairI wc rfl (.tmp 5) (.tmp 14) rfl w.heap.size A m c l rfl hown _ _ _ _ e1 e2 rfl (by omega) hsz ?_; intro A' c' w' ho' hb')
  go_ret
  exact ⟨_, _, rfl, ho', hbl.trans hb', Nat.le_trans hsz hb'.size⟩
theorem ob_lit (w : World) (b : UInt8) (y : Int) (h : (b.toNat : Int) = y) : OB w (w.alloc (.cells #[.int .u8 y] 5)) (some ⟨w.heap.size, 0, none⟩) 1 1 [b] := by
  subst h
  exact ⟨World.ownsRow_lit w #[.int .u8 (b.toNat : Int)] 1 (Nat.le_refl _) (by unfold maxLen; omega) rfl, (Below.refl _ w).alloc (Nat.le_refl _) _, by simp⟩
set_option maxRecDepth 8000 in
set_option maxHeartbeats 2000000 in
theorem offset_yes (n : Int) (w : World) (h : Va.offB n = true) :
    Calls Tryd.prog 15 #[.int .i64 n] w fun e w' => e = .returned (.tuple #[.string ⟨(Va.off n).toArray⟩, .int .i64 0]) ∧ Gr w w' := by
  obtain ⟨h1, h2⟩ := Va.offB_iff.1 h
  clear h
  have b1 : decide (n < -86399) = false := by simp; omega
  have b2 : decide (86399 < n) = false := by simp; omega
  by_cases a : n < 0
  · obtain ⟨m, rfl⟩ : ∃ m, n = -m := ⟨-n, by omega⟩
    have m0 : 0 < m := by omega
    have m1 : m ≤ 86399 := by omega
    have hO := ob_lit w 45 45 rfl
    by_cases a2 : 0 < m % 60
    · have e : Va.off (-m) = [45] ++ Va.two (m / 3600) ++ Va.two (m % 3600 / 60) ++ Va.two (m % 60) := by
        unfold Va.off Va.ofp; rw [if_pos a, Int.neg_neg, if_pos a2]; simp
      have E := Lib.hid e
      clear e
      go_enter Tryd.func15, Tryd.ntmps15
      go_wp2_with (go_at_call 35; refine (append2_any _ w _ _ _ _ _ (by omega) hO (by omega)).mono ?_; clear hO; rintro e w1 ⟨A1, c1, rfl, hO⟩; have hcv := convB hO.own (by omega))
      go_ret2
      exact ⟨by rw [E.out] <;> rfl, ⟨hO.below⟩⟩
    · have e : Va.off (-m) = [45] ++ Va.two (m / 3600) ++ Va.two (m % 3600 / 60) := by
        unfold Va.off Va.ofp; rw [if_pos a, Int.neg_neg, if_neg a2]; simp
      have E := Lib.hid e
      clear e
      go_enter Tryd.func15, Tryd.ntmps15
      go_wp2_with (go_at_call 35; refine (append2_any _ w _ _ _ _ _ (by omega) hO (by omega)).mono ?_; clear hO; rintro e w1 ⟨A1, c1, rfl, hO⟩; have hcv := convB hO.own (by omega))
      go_ret2
      exact ⟨by rw [E.out] <;> rfl, ⟨hO.below⟩⟩
  · have hO := ob_lit w 43 43 rfl
    by_cases a2 : 0 < n % 60
    · have e : Va.off n = [43] ++ Va.two (n / 3600) ++ Va.two (n % 3600 / 60) ++ Va.two (n % 60) := by
        unfold Va.off Va.ofp; rw [if_neg a, if_pos a2]; simp
      have E := Lib.hid e
      clear e
      go_enter Tryd.func15, Tryd.ntmps15
      go_wp2_with (go_at_call 35; refine (append2_any _ w _ _ _ _ _ (by omega) hO (by omega)).mono ?_; clear hO; rintro e w1 ⟨A1, c1, rfl, hO⟩; have hcv := convB hO.own (by omega))
      go_ret2
      exact ⟨by rw [E.out] <;> rfl, ⟨hO.below⟩⟩
    · have e : Va.off n = [43] ++ Va.two (n / 3600) ++ Va.two (n % 3600 / 60) := by
        unfold Va.off Va.ofp; rw [if_neg a, if_neg a2]; simp
      have E := Lib.hid e
      clear e
      go_enter Tryd.func15, Tryd.ntmps15
      go_wp2_with (go_at_call 35; refine (append2_any _ w _ _ _ _ _ (by omega) hO (by omega)).mono ?_; clear hO; rintro e w1 ⟨A1, c1, rfl, hO⟩; have hcv := convB hO.own (by omega))
      go_ret2
      exact ⟨by rw [E.out] <;> rfl, ⟨hO.below⟩⟩
set_option maxHeartbeats 1000000 in
theorem offset_no (n : Int) (w : World) (h : Va.offB n = false) :
    Calls Tryd.prog 15 #[.int .i64 n] w fun e w' => e = .returned (.tuple #[.string ⟨#[]⟩, .int .i64 7]) ∧ Gr w w' := by
  have hn : ¬ (-86399 ≤ n ∧ n ≤ 86399) := by rw [← Va.offB_iff, h]; simp
  clear h
  by_cases b1 : n < -86399
  · clear hn
    go_enter Tryd.func15, Tryd.ntmps15
    go_wp2
    go_ret2
    exact ⟨rfl, Gr.refl _⟩
  · have b2 : 86399 < n := by omega
    have b1 : decide (n < -86399) = false := by simp; omega
    clear hn
    go_enter Tryd.func15, Tryd.ntmps15
    go_wp2
    go_ret2
    exact ⟨rfl, Gr.refl _⟩
end Go.Proofs.YtafpdiikhhikeaaDoor
