/- Two arrays of the same three ints are equal. -/
import Derived.Test.YtemnpnjobjeliaaDoorProg
import Derived.WalkKit
import Derived.ChangeKeysEq
namespace Go.Proofs.YtemnpnjobjeliaaDoor
open Go.RowKit Go.ChangeMaps

theorem int_info : ∃ i, Tryd.prog.info? 3 = some i := by
  rcases h : Tryd.prog.info? 3 with _ | i
  · exact absurd h (by have : (Tryd.prog.info? 3).isSome = true := by kernel_rfl
                       intro e; rw [e] at this; cases this)
  · exact ⟨i, rfl⟩
theorem int_cells : Tryd.prog.cellsOf 3 = 1 := by kernel_rfl
theorem int_plain : Tryd.prog.plainKey 3 = true := by kernel_rfl
theorem eq_int3 (w : World) (x y z : Int) : Sem.run Tryd.prog (Op.equalIn 10000 25 (.agg #[.int .i64 x, .int .i64 y, .int .i64 z]) (.agg #[.int .i64 x, .int .i64 y, .int .i64 z])) w = .ok true w := by
  obtain ⟨i, hi⟩ := int_info
  have p0 := run_part_plain w int_plain (xs := #[.int .i64 x, .int .i64 y, .int .i64 z]) (off := 0) (v := .int .i64 x) rfl
  have p1 := run_part_plain w int_plain (xs := #[.int .i64 x, .int .i64 y, .int .i64 z]) (off := 1) (v := .int .i64 y) rfl
  have p2 := run_part_plain w int_plain (xs := #[.int .i64 x, .int .i64 y, .int .i64 z]) (off := 2) (v := .int .i64 z) rfl
  have e : ∀ n : Int, Sem.run Tryd.prog (Op.equalIn 9999 3 (.int .i64 n) (.int .i64 n)) w = .ok (n == n) w := fun n => run_equalIn_int w 9998 3 .i64 .i64 n n Tryd.underlying3
  rw [run_equalIn_array w 9999 _ _ Tryd.underlying25 hi, int_cells, show List.range 3 = [0, 1, 2] from rfl]
  simp [Op.eqItems, p0, p1, p2, e]
end Go.Proofs.YtemnpnjobjeliaaDoor
