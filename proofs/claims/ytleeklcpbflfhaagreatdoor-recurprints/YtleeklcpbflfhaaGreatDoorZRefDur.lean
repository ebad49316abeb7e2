/- What the reference's Number and Duration return. -/
import Derived.Test.YtleeklcpbflfhaaGreatDoorZRefNum
import Derived.Test.YtleeklcpbflfhaaGreatDoorZVaDur
import Derived.Deep.LoopGhost
import Derived.OwnWalk
namespace Go.Proofs.YtleeklcpbflfhaaGreatDoor
open Go.RowKit

namespace Txt
theorem numb_de : ∀ n : Nat, numb n 0 = Lib.decDigits n := by
  intro n
  induction n using Nat.strongRecOn with
  | _ n ih =>
    rw [numb, Lib.decDigits]
    by_cases h : n < 10
    · rw [if_pos ⟨h, by omega⟩, dif_pos h, Nat.mod_eq_of_lt h]
    · rw [if_neg (by omega), dif_neg h, ih (n / 10) (by omega)]
end Txt
theorem emq (l : List UInt8) (h : l ≠ []) : (ByteArray.mk l.toArray).toList.isEmpty = false := by
  rw [Lib.toList_data]; cases l <;> simp_all
set_option maxRecDepth 8000 in
set_option maxHeartbeats 1000000 in
theorem rnumber_any (n : Int) (w : World) (n0 : 0 ≤ n) (n1 : n ≤ 1000000000000) :
    Calls Tryz.prog 22 #[.int .i64 n] w fun e w' => e = .returned (.string ⟨(Va.de n).toArray⟩) ∧ Gr w w' := by
  have ed : Va.de n = Txt.numb n.toNat 0 := by unfold Va.de; rw [Txt.numb_de]
  rw [ed]
  clear ed
  have tl := Txt.numb_len n.toNat 0
  have ST : Txt.st (Txt.numb n.toNat 0) n.toNat 0 [] := by unfold Txt.st; rw [if_neg (by simp)]; simp
  generalize Txt.numb n.toNat 0 = t at *
  have ST' := Lib.hid ST
  go_enter Tryz.func22, Tryz.ntmps22
  go_wp2
  go_loopg [0, 3] (n.toNat + 1) (fun g u x wr => ∃ (a : Nat) (l : List UInt8), u = .int .i64 (a : Int) ∧ x = .string ⟨l.toArray⟩ ∧ Gr w wr ∧ (a : Int) ≤ n ∧ Txt.st t a (-(l.length : Int)) l ∧ a ≤ g ∧ (l = [] → a + 1 ≤ g))
  case atStart => exact ⟨n.toNat, [], by rw [Int.toNat_of_nonneg n0], rfl, Gr.refl _, by omega, ST'.out, by omega, by omega⟩
  case round =>
    obtain ⟨a, l, rfl, rfl, hg, an, hs, g1, g2⟩ := hrel
    have HG2 := Lib.hid g2
    clear g2
    have ll := Txt.st_len hs
    have l1 : l.length ≤ 2000000000000 := by omega
    have a2 : (a : Int) ≤ 1000000000000 := by omega
    have HS := Lib.hid hs; have HG := Lib.hid hg; have HL := Lib.hid ll
    clear hs hg ll tl ST
    obtain ⟨b, HB, hv⟩ : ∃ b : UInt8, Hid (b = UInt8.ofNat (48 + a % 10)) ∧ Sem.run Tryz.prog (convert 79 9 (.slice (some ⟨wr.heap.size, 0, none⟩) 1 1)) (wr.alloc (.cells #[.int .u8 (48 + (a : Int) % 10)] 5)) = .ok (.string ⟨#[b]⟩) (wr.alloc (.cells #[.int .u8 (48 + (a : Int) % 10)] 5)) := ⟨_, Lib.hid rfl, conv1 wr a⟩
    have step : ∀ hc : 0 < a ∨ l = [], Txt.st t (a / 10) (-((b :: l).length : Int)) (b :: l) := fun hc => by
      have := Txt.st_step HS.out (hc.elim .inl (fun h => .inr (.inr h)))
      rw [HB.out, List.length_cons]
      rwa [show (-(l.length : Int) - 1) = -((l.length + 1 : Nat) : Int) by omega] at this
    have HT := Lib.hid step
    clear step
    by_cases c1 : 0 < a
    · have d1 : (0 : Int) < a := by omega
      go_wp2
      go_roundg (a / 10)
      case rel => exact ⟨a / 10, b :: l, by go_num, by rw [cat1], HG.out.alloc _ _, by omega, HT.out (.inl c1), by omega, by simp⟩
      case measure => omega
    · have d1 : decide ((0 : Int) < a) = false := by simp; omega
      by_cases c3 : l = []
      · have d3 : (l == []) = true := by rw [c3]; rfl
        go_wp2
        go_roundg (a / 10)
        case rel => exact ⟨a / 10, b :: l, by go_num, by rw [c3]; exact congrArg Value.string (cat1 b []), HG.out.alloc _ _, by omega, HT.out (.inr c3), by omega, by simp⟩
        case measure => have := HG2.out c3; omega
      · have he := Txt.st_end HS.out (by omega) (by omega) c3
        have HE := Lib.hid he
        have d3 : (l == []) = false := by simp [c3]
        clear he
        go_wp2
        go_ret
        exact ⟨by rw [HE.out]; rfl, HG.out⟩
theorem tup2 {a : ByteArray} {l : List UInt8} (h : a.data.toList = l) : Ending.returned (.tuple #[.string a, .int .i64 0]) = .returned (.tuple #[.string ⟨l.toArray⟩, .int .i64 0]) := by rw [str_mk h]
end Go.Proofs.YtleeklcpbflfhaaGreatDoor
