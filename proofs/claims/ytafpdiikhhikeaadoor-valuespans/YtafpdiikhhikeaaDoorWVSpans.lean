/- The walk of ValueSpans. -/
import Derived.Test.YtafpdiikhhikeaaDoorRefPd
import Derived.Test.YtafpdiikhhikeaaDoorVaDur
namespace Go.Proofs.YtafpdiikhhikeaaDoor
open Go.RowKit

theorem opV_two (o : Option Int) : ∃ a b : Int, Va.opV o = .tuple #[.int .i64 a, .int .i64 b] := by
  rcases o with _ | n
  · exact ⟨0, 7, rfl⟩
  · exact ⟨n, 0, rfl⟩
set_option maxRecDepth 8000 in
set_option maxHeartbeats 2000000 in
theorem vspans_any (s : ByteArray) (w : World) (ht : Tab w) :
    Calls Tryd.prog 5 #[.string s] w fun e w' => e = .returned (.bool true) ∧ Gr w w' := by
  have hT := TG.start ht
  clear ht
  have cA := fun (w' : World) (h : TG w w') => awake12_any w' h.1
  by_cases hl : s.size ≤ 200
  · have cN := fun w => pduration_any s w (by omega)
    have cP := fun w => rpduration_any s w hl
    obtain ⟨a, b, e⟩ := opV_two (Va.pd s.data.toList)
    rw [e] at cN cP
    clear e
    go_enter Tryd.func5, Tryd.ntmps5
    go_wp2_with (first | (go_at_call 8; refine (cA _ hT).mono ?_; rintro e w1 ⟨rfl, hb⟩; replace hT := hT.go hb; clear hb) | (go_at_call 13; refine (cN _).mono ?_; rintro e w1 ⟨rfl, hb⟩; replace hT := hT.go hb; clear hb) | (go_at_call 14; refine (cP _).mono ?_; rintro e w1 ⟨rfl, hb⟩; replace hT := hT.go hb; clear hb))
    go_ret
    exact ⟨rfl, hT.2⟩
  · go_enter Tryd.func5, Tryd.ntmps5
    go_wp2_with (first | (go_at_call 8; refine (cA _ hT).mono ?_; rintro e w1 ⟨rfl, hb⟩; replace hT := hT.go hb; clear hb))
    go_ret
    exact ⟨rfl, hT.2⟩
end Go.Proofs.YtafpdiikhhikeaaDoor
