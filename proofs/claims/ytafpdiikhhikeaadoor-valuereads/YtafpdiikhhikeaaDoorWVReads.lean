/- The walk of ValueReads. -/
import Derived.Test.YtafpdiikhhikeaaDoorVaDur
import Derived.Test.YtafpdiikhhikeaaDoorVaTime
import Derived.Test.YtafpdiikhhikeaaDoorRefPt
namespace Go.Proofs.YtafpdiikhhikeaaDoor
open Go.RowKit

theorem rdV_form (o : Option (Int × Int × List UInt8)) : ∃ (k a : Int) (z : ByteArray) (e : Int), Va.rdV o = .tuple #[.agg #[.int .i64 k, .int .i64 a, .string z], .int .i64 e] := by
  rcases o with _ | ⟨k, a, z⟩
  · exact ⟨0, 0, _, 7, rfl⟩
  · exact ⟨k, a, _, 0, rfl⟩
set_option maxRecDepth 8000 in
set_option maxHeartbeats 2000000 in
theorem vreads_any (s z : ByteArray) (date : Bool) (w : World) (ht : Tab w) (hm : s.size ≤ 9223372036854775807) (hmz : z.size ≤ 9223372036854775807) :
    Calls Tryd.prog 3 #[.string s, .string z, .bool date] w fun e w' => e = .returned (.bool true) ∧ Gr w w' := by
  have cA := awake12_any w ht
  have cP := fun w => ptime_any s z date w hm
  have cR := fun w => rptime_any s z date w hm hmz
  obtain ⟨k, a, y, e, h⟩ := rdV_form (Va.rd s.data.toList z.data.toList date)
  rw [h] at cP cR
  clear h ht
  go_enter Tryd.func3, Tryd.ntmps3
  go_wp2_with fail
  refine cA.mono ?_
  rintro e w1 ⟨rfl, hb1⟩
  go_wp2_with fail
  refine (cP _).mono ?_
  rintro e w2 ⟨rfl, hb2⟩
  go_wp2_with fail
  refine (cR _).mono ?_
  rintro e w3 ⟨rfl, hb3⟩
  have hb4 := hb3.alloc #[.int .i64 k, .int .i64 a, .string y] 24
  obtain ⟨c0, c1, c2⟩ := box3 hb4
  obtain ⟨d0, d1, d2⟩ := box_now w3 (.int .i64 k) (.int .i64 a) (.string y) 24
  go_wp2
  go_ret
  exact ⟨rfl, ((hb1.trans hb2).trans (((Gr.refl _).alloc _ _).trans hb3)).alloc _ _⟩
end Go.Proofs.YtafpdiikhhikeaaDoor
