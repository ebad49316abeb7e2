/- What the small functions on letters of names return: the program's inName and upper, the reference's letter. -/
import Derived.Test.YtpcmhaflmpcicaaDoorLn
import Derived.Test.YtpcmhaflmpcicaaDoorGr
import Derived.Test.YtpcmhaflmpcicaaDoorChecked
import Derived.Deep.LoopGhost
import Derived.WalkSpells
namespace Go.Proofs.YtpcmhaflmpcicaaDoor
open Go.RowKit

theorem inN_int (b : UInt8) : Ln.inN b = ((decide ((65 : Int) ≤ (b.toNat : Int)) && decide ((b.toNat : Int) ≤ 90)) || (decide ((48 : Int) ≤ (b.toNat : Int)) && decide ((b.toNat : Int) ≤ 57)) || ((b.toNat : Int) == 45)) := by
  refine Es.byte_ind (P := fun b => Ln.inN b = ((decide ((65 : Int) ≤ (b.toNat : Int)) && decide ((b.toNat : Int) ≤ 90)) || (decide ((48 : Int) ≤ (b.toNat : Int)) && decide ((b.toNat : Int) ≤ 57)) || ((b.toNat : Int) == 45))) ?_ b
  decide +kernel
set_option maxHeartbeats 1000000 in
theorem inName_any (b : UInt8) (w : World) : Calls Tryd.prog 27 #[.int .u8 (b.toNat : Int)] w fun e w' => e = .returned (.bool (Ln.inN b)) ∧ w = w' := by
  have HB := Lib.hid (inN_int b)
  generalize Ln.inN b = B at *
  generalize (b.toNat : Int) = n at *
  go_enter Tryd.func27, Tryd.ntmps27
  go_wp2
  all_goals (go_ret; refine ⟨ret_bool ?_, rfl⟩; rw [HB.out, Bool.eq_iff_iff]; simp only [Bool.or_eq_true, Bool.and_eq_true, decide_eq_true_eq, beq_iff_eq, eq_self, true_iff]; first | done | omega)
set_option maxHeartbeats 1000000 in
theorem letter_any (b : UInt8) (w : World) : Calls Tryd.prog 28 #[.int .u8 (b.toNat : Int), .bool false] w fun e w' => e = .returned (.bool (Ln.inN b)) ∧ w = w' := by
  have HB := Lib.hid (inN_int b)
  generalize Ln.inN b = B at *
  generalize (b.toNat : Int) = n at *
  go_enter Tryd.func28, Tryd.ntmps28
  go_wp2
  all_goals (go_ret; refine ⟨ret_bool ?_, rfl⟩; rw [HB.out, Bool.eq_iff_iff]; simp only [Bool.or_eq_true, Bool.and_eq_true, decide_eq_true_eq, beq_iff_eq, eq_self, true_iff]; first | done | omega)
theorem up_int (b : UInt8) : ((Ln.up b).toNat : Int) = if 97 ≤ (b.toNat : Int) ∧ (b.toNat : Int) ≤ 122 then (b.toNat : Int) - 32 else (b.toNat : Int) := by
  refine Es.byte_ind (P := fun b => ((Ln.up b).toNat : Int) = if 97 ≤ (b.toNat : Int) ∧ (b.toNat : Int) ≤ 122 then (b.toNat : Int) - 32 else (b.toNat : Int)) ?_ b
  decide +kernel
set_option maxHeartbeats 1000000 in
theorem upper_any (b : UInt8) (w : World) : Calls Tryd.prog 49 #[.int .u8 (b.toNat : Int)] w fun e w' => e = .returned (.int .u8 ((Ln.up b).toNat : Int)) ∧ w = w' := by
  have HB := Lib.hid (up_int b)
  have hlt : (b.toNat : Int) < 256 := by have := UInt8.toNat_lt b; omega
  have hge : 0 ≤ (b.toNat : Int) := by omega
  generalize ((Ln.up b).toNat : Int) = B at *
  generalize (b.toNat : Int) = n at *
  by_cases h1 : 97 ≤ n
  · by_cases h2 : n ≤ 122
    · have HE := Lib.hid (HB.out.trans (if_pos ⟨h1, h2⟩))
      go_enter Tryd.func49, Tryd.ntmps49
      go_wp2
      go_ret
      exact ⟨ret_int (by rw [HE.out]; omega), rfl⟩
    · have HE := Lib.hid (HB.out.trans (if_neg (fun h => h2 h.2)))
      go_enter Tryd.func49, Tryd.ntmps49
      go_wp2
      go_ret
      exact ⟨ret_int (by rw [HE.out]), rfl⟩
  · have HE := Lib.hid (HB.out.trans (if_neg (fun h => h1 h.1)))
    go_enter Tryd.func49, Tryd.ntmps49
    go_wp2
    go_ret
    exact ⟨ret_int (by rw [HE.out]), rfl⟩
end Go.Proofs.YtpcmhaflmpcicaaDoor
