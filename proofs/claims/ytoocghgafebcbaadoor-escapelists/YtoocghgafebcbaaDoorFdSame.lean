/- What the laws' Same returns at equal lists. -/
import Derived.Test.YtoocghgafebcbaaDoorFdMem
namespace Go.Proofs.YtoocghgafebcbaaDoor
open Go.RowKit

set_option maxHeartbeats 1000000 in
theorem same_yes (A A2 : Option Addr) (n c n2 c2 : Nat) (ls ms : List (List UInt8)) (w : World) (hS : Strs w w.heap.size A n ls) (hS2 : Strs w w.heap.size A2 n2 ms) (he : ls = ms) (hn : n ≤ 140737488355328) :
    Calls Tryd.prog 17 #[.slice A n c, .slice A2 n2 c2] w fun e w' => e = .returned (.bool true) ∧ Gr w w' := by
  subst he
  have hl : ls.length = n := hS.1
  obtain rfl : n = n2 := hl.symm.trans hS2.1
  have HL := Lib.hid hl
  clear hl
  go_enter Tryd.func17, Tryd.ntmps17
  go_wp2
  go_loopg [13] n (fun g v wx => ∃ k : Nat, v = .int .i64 (k : Int) ∧ k + g = n ∧ ∃ d, wx = w.drewN d)
  case atStart => exact ⟨0, rfl, by omega, 0, rfl⟩
  case round =>
    obtain ⟨k, rfl, hkg, d, rfl⟩ := hrel
    have HG := Lib.hid hkg
    clear hkg
    by_cases hk : k < n
    · obtain ⟨ad, hk', rfl, hbl, hcell⟩ := hS.at_ hk
      obtain ⟨ad2, _, rfl, hbl2, hcell2⟩ := hS2.at_ hk
      generalize (ByteArray.mk ls[k].toArray) = s at *
      go_wp2
      go_region
      all_goals (try go_wp2)
      go_roundg (n - (k + 1))
      case measure => have := HG.out; omega
      case rel => exact ⟨k + 1, by go_num, by omega, d + 1, rfl⟩
    · obtain rfl : k = n := by have := HG.out; omega
      go_wp2
      go_ret
      exact ⟨rfl, (Gr.refl _).drewN _⟩
end Go.Proofs.YtoocghgafebcbaaDoor
