/- What the reference's number returns. -/
import Derived.Test.YtleeklcpbflfhaaGreatDoorChecked
import Derived.Test.YtleeklcpbflfhaaGreatDoorZA
import Derived.Lib.Strings
import Derived.LoopTactic
import Derived.Laws.IdiomStrings
namespace Go.Proofs.YtleeklcpbflfhaaGreatDoor
open Go.RowKit

namespace Txt
/- how far the reference's number has come: a and k are left, l is written, t is what will be -/
def st (t : List UInt8) (a : Nat) (k : Int) (l : List UInt8) : Prop := if a = 0 ∧ k ≤ 0 ∧ l ≠ [] then l = t else numb a k.toNat ++ l = t
theorem st_step {t : List UInt8} {a : Nat} {k : Int} {l : List UInt8} (h : st t a k l) (hc : 0 < a ∨ 0 < k ∨ l = []) : st t (a / 10) (k - 1) (UInt8.ofNat (48 + a % 10) :: l) := by
  unfold st at h ⊢
  have hn : ¬ (a = 0 ∧ k ≤ 0 ∧ l ≠ []) := by
    rintro ⟨h1, h2, h3⟩
    rcases hc with hc | hc | hc
    · omega
    · omega
    · exact h3 hc
  rw [if_neg hn, numb] at h
  have e1 : (k - 1).toNat = k.toNat - 1 := by omega
  by_cases hb : a < 10 ∧ k.toNat ≤ 1
  · rw [if_pos hb] at h
    rw [if_pos ⟨by omega, by omega, by simp⟩]
    exact h
  · rw [if_neg hb, List.append_assoc] at h
    rw [if_neg (by omega), e1]
    exact h
theorem st_end {t : List UInt8} {a : Nat} {k : Int} {l : List UInt8} (h : st t a k l) (h1 : a = 0) (h2 : k ≤ 0) (h3 : l ≠ []) : l = t := by
  unfold st at h
  rw [if_pos ⟨h1, h2, h3⟩] at h
  exact h
theorem st_len {t : List UInt8} {a : Nat} {k : Int} {l : List UInt8} (h : st t a k l) : l.length ≤ t.length := by
  unfold st at h
  split at h
  · rw [h]; exact Nat.le_refl _
  · rw [← h, List.length_append]; omega
theorem numb_len (n s : Nat) : (numb n s).length ≤ n + s + 1 := by
  induction n, s using numb.induct with
  | case1 n s h => rw [numb, if_pos h]; simp
  | case2 n s h ih => rw [numb, if_neg h, List.length_append, List.length_singleton]; omega
def msr (size : Int) (n k : Int) : Nat := n.toNat + k.toNat + (if k = size then 1 else 0)
theorem msr_lt {size a k : Int} (a0 : 0 ≤ a) (hk : k ≤ size) (hc : 0 < a ∨ 0 < k ∨ k = size) : msr size (a / 10) (k - 1) < msr size a k := by
  unfold msr
  rw [if_neg (by omega)]
  split <;> omega
theorem msr_step {size k : Int} {a : Nat} {l : List UInt8} (hk : k = size - l.length) (hc : 0 < a ∨ 0 < k ∨ l = []) : msr size ((a : Int) / 10) (k - 1) < msr size a k := by
  refine msr_lt (by omega) (by omega) ?_
  rcases hc with h | h | h
  · exact .inl (by omega)
  · exact .inr (.inl h)
  · subst h
    exact .inr (.inr (by simpa using hk))
end Txt

theorem conv1 (w : World) (a : Nat) : Sem.run Tryz.prog (convert 79 9 (.slice (some ⟨w.heap.size, 0, none⟩) 1 1)) (w.alloc (.cells #[.int .u8 (48 + (a : Int) % 10)] 5)) = .ok (.string ⟨#[UInt8.ofNat (48 + a % 10)]⟩) (w.alloc (.cells #[.int .u8 (48 + (a : Int) % 10)] 5)) := by
  refine run_convert_bytes_back _ 79 9 5 ⟨w.heap.size, 0, none⟩ 1 [UInt8.ofNat (48 + a % 10)] Tryz.underlying79 Tryz.underlying5 Tryz.underlying9 ?_
  intro j hj
  obtain rfl : j = 0 := by simpa using hj
  simp [Addr.add]; omega
theorem cat1 (b : UInt8) (l : List UInt8) : (⟨#[b]⟩ : ByteArray) ++ ⟨l.toArray⟩ = ⟨(b :: l).toArray⟩ := by
  rw [show (#[b] : Array UInt8) = [b].toArray from rfl, ByteArray.mk_append_mk]; rfl
set_option maxRecDepth 8000 in
set_option maxHeartbeats 1000000 in
theorem number_any (n size : Int) (w : World) (n0 : 0 ≤ n) (n1 : n ≤ 1000000000000) (s0 : 0 ≤ size) (s1 : size ≤ 100) :
    Calls Tryz.prog 90 #[.int .i64 n, .int .i64 size] w fun e w' => e = .returned (.string ⟨(Txt.numb n.toNat size.toNat).toArray⟩) ∧ Gr w w' := by
  have tl := Txt.numb_len n.toNat size.toNat
  have ST : Txt.st (Txt.numb n.toNat size.toNat) n.toNat size [] := by unfold Txt.st; rw [if_neg (by simp)]; simp
  generalize Txt.numb n.toNat size.toNat = t at *
  have ST' := Lib.hid ST
  go_enter Tryz.func90, Tryz.ntmps90
  go_wp2
  go_loopw [0, 1, 5] (fun u v x wr => ∃ (a : Nat) (k : Int) (l : List UInt8), u = .int .i64 (a : Int) ∧ v = .int .i64 k ∧ x = .string ⟨l.toArray⟩ ∧ Gr w wr ∧ (a : Int) ≤ n ∧ k = size - l.length ∧ Txt.st t a k l) (fun u v _ _ => Txt.msr size (intOf u) (intOf v))
  case atStart => exact ⟨n.toNat, size, [], by rw [Int.toNat_of_nonneg n0], rfl, rfl, Gr.refl _, by omega, by simp, ST'.out⟩
  case round =>
    obtain ⟨a, k, l, rfl, rfl, rfl, hg, an, hk, hs⟩ := hrel
    have ll := Txt.st_len hs
    have k1 : k ≤ 100 := by omega
    have k2 : -2000000000000 ≤ k := by omega
    have l1 : l.length ≤ 2000000000000 := by omega
    have a2 : (a : Int) ≤ 1000000000000 := by omega
    have HK := Lib.hid hk; have HS := Lib.hid hs; have HG := Lib.hid hg; have HL := Lib.hid ll
    clear hk hs hg ll tl ST
    obtain ⟨b, HB, hv⟩ : ∃ b : UInt8, Hid (b = UInt8.ofNat (48 + a % 10)) ∧ Sem.run Tryz.prog (convert 79 9 (.slice (some ⟨wr.heap.size, 0, none⟩) 1 1)) (wr.alloc (.cells #[.int .u8 (48 + (a : Int) % 10)] 5)) = .ok (.string ⟨#[b]⟩) (wr.alloc (.cells #[.int .u8 (48 + (a : Int) % 10)] 5)) := ⟨_, Lib.hid rfl, conv1 wr a⟩
    by_cases c1 : 0 < a
    · have d1 : (0 : Int) < a := by omega
      have hc : 0 < a ∨ 0 < k ∨ l = [] := .inl c1
      have HC := Lib.hid hc
      clear hc
      go_wp2
      go_roundw
      case rel => exact ⟨a / 10, k - 1, b :: l, by go_num, rfl, by rw [cat1], HG.out.alloc _ _, by omega, by have := HK.out; rw [List.length_cons]; omega, by rw [HB.out]; exact Txt.st_step HS.out HC.out⟩
      case measure => exact Txt.msr_step HK.out HC.out
    · have d1 : decide ((0 : Int) < a) = false := by simp; omega
      by_cases c2 : 0 < k
      · have hc : 0 < a ∨ 0 < k ∨ l = [] := .inr (.inl c2)
        have HC := Lib.hid hc
        clear hc
        go_wp2
        go_roundw
        case rel => exact ⟨a / 10, k - 1, b :: l, by go_num, rfl, by rw [cat1], HG.out.alloc _ _, by omega, by have := HK.out; rw [List.length_cons]; omega, by rw [HB.out]; exact Txt.st_step HS.out HC.out⟩
        case measure => exact Txt.msr_step HK.out HC.out
      · have d2 : decide (0 < k) = false := by simp; omega
        by_cases c3 : l = []
        · have hc : 0 < a ∨ 0 < k ∨ l = [] := .inr (.inr c3)
          have HC := Lib.hid hc
          have d3 : (l == []) = true := by rw [c3]; rfl
          clear hc
          go_wp2
          go_roundw
          case rel => exact ⟨a / 10, k - 1, b :: l, by go_num, rfl, by rw [c3]; exact congrArg Value.string (cat1 b []), HG.out.alloc _ _, by omega, by have := HK.out; rw [List.length_cons]; omega, by rw [HB.out]; exact Txt.st_step HS.out HC.out⟩
          case measure => exact Txt.msr_step HK.out HC.out
        · have he := Txt.st_end HS.out (by omega) (by omega) c3
          have HE := Lib.hid he
          have d3 : (l == []) = false := by simp [c3]
          clear he
          go_wp2
          go_ret
          exact ⟨by rw [HE.out]; rfl, HG.out⟩
end Go.Proofs.YtleeklcpbflfhaaGreatDoor
