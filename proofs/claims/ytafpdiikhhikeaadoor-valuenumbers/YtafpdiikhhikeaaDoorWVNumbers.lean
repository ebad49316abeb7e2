/- The walk of ValueNumbers. -/
import Derived.Test.YtafpdiikhhikeaaDoorVaDur
import Derived.Test.YtafpdiikhhikeaaDoorRefPl
namespace Go.Proofs.YtafpdiikhhikeaaDoor
open Go.RowKit

/- a result of two ints, in sight -/
theorem opV_form (o : Option Int) : ∃ a b : Int, Va.opV o = .tuple #[.int .i64 a, .int .i64 b] := by
  rcases o with _ | n
  · exact ⟨0, 7, rfl⟩
  · exact ⟨n, 0, rfl⟩
set_option maxRecDepth 8000 in
set_option maxHeartbeats 2000000 in
theorem vnumbers_any (s : ByteArray) (w : World) (ht : Tab w) :
    Calls Tryd.prog 7 #[.string s] w fun e w' => e = .returned (.bool true) ∧ Gr w w' := by
  have hT := TG.start ht
  clear ht
  have cA := fun (w' : World) (h : TG w w') => awake12_any w' h.1
  by_cases hl : s.size ≤ 200
  · have cN := fun w => number_parse s w
    have cP := fun w => plain_any s w (by omega)
    obtain ⟨a, b, e⟩ := opV_form (if Va.plB s.data.toList then some (Va.plV s.data.toList) else none)
    rw [e] at cN cP
    clear e
    go_enter Tryd.func7, Tryd.ntmps7
    go_wp2_with (first | (go_at_call 8; refine (cA _ hT).mono ?_; rintro e w1 ⟨rfl, hb⟩; replace hT := hT.go hb; clear hb) | (go_at_call 19; refine (cN _).mono ?_; rintro e w' ⟨rfl, rfl⟩) | (go_at_call 20; refine (cP _).mono ?_; rintro e w' ⟨rfl, rfl⟩))
    go_ret
    exact ⟨rfl, hT.2⟩
  · go_enter Tryd.func7, Tryd.ntmps7
    go_wp2_with (first | (go_at_call 8; refine (cA _ hT).mono ?_; rintro e w1 ⟨rfl, hb⟩; replace hT := hT.go hb; clear hb))
    go_ret
    exact ⟨rfl, hT.2⟩
end Go.Proofs.YtafpdiikhhikeaaDoor
