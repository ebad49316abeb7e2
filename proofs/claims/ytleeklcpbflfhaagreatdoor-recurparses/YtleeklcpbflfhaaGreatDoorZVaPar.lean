/- What value.parseHours, parsePeriod, ParseDuration and Number return. -/
import Derived.Test.YtleeklcpbflfhaaGreatDoorZC
import Derived.Test.YtleeklcpbflfhaaGreatDoorZShelf
namespace Go.Proofs.YtleeklcpbflfhaaGreatDoor
open Go.RowKit

theorem bf {c : UInt8} (k : UInt8) (h : c ≠ k) : ((c.toNat : Int) == (k.toNat : Int)) = false := by
  rw [beq_eq_false_iff_ne]
  intro e
  exact h (UInt8.toNat_inj.1 (by omega))
theorem bn {c : UInt8} (k : UInt8) (h : c ≠ k) : ((c.toNat : Int) != (k.toNat : Int)) = true := by rw [bne, bf k h]; rfl
theorem emn_t : (ByteArray.mk ([] : List UInt8).toArray).toList.isEmpty = true := emp_t _ rfl
theorem emn_f {l : List UInt8} (h : l ≠ []) : (ByteArray.mk l.toArray).toList.isEmpty = false := emp_f _ (by rw [Lib.size_eq]; intro e; exact h (List.eq_nil_of_length_eq_zero e))
theorem emn_g {l : List UInt8} (h : l ≠ []) : l.isEmpty = false := by cases l <;> simp_all
theorem cut_no {s : ByteArray} (h : Va.cut s.data.toList = none) : cutV s.data.toList = .tuple #[.int .i64 0, .int .u8 0, .string ⟨#[]⟩] := by
  unfold cutV; rw [h]
theorem cut_yes {s : ByteArray} {n : Nat} {c : UInt8} {r : List UInt8} (h : Va.cut s.data.toList = some (n, c, r)) : cutV s.data.toList = .tuple #[.int .i64 (n : Int), .int .u8 (c.toNat : Int), .string ⟨r.toArray⟩] := by
  unfold cutV; rw [h]
theorem cut_size {l : List UInt8} {n : Nat} {c : UInt8} {r : List UInt8} (h : Va.cut l = some (n, c, r)) (hl : l.length ≤ 1000000) : (ByteArray.mk r.toArray).size ≤ 1000000 := by
  have := (Va.cut_lt h).2
  rw [Lib.size_eq]
  show r.length ≤ _
  omega

end Go.Proofs.YtleeklcpbflfhaaGreatDoor
