/- The walk of ValueDurations. -/
import Derived.Test.YtafpdiikhhikeaaDoorRefDur
import Derived.Test.YtafpdiikhhikeaaDoorVaPd
namespace Go.Proofs.YtafpdiikhhikeaaDoor
open Go.RowKit

theorem pd_nil : Va.pd [] = none := rfl
theorem dur_len {n : Int} (h : Va.durB n = true) : (Va.dur n).length ≤ 50 := by
  obtain ⟨h1, h2⟩ := Va.durB_iff.1 h
  unfold Va.dur
  split
  · have := Va.per_len (n := -n) (by omega) (by omega)
    simp; omega
  · have := Va.per_len (n := n) (by omega) (by omega)
    simp; omega
set_option maxRecDepth 8000 in
set_option maxHeartbeats 2000000 in
theorem vdurations_any (n : Int) (w : World) (ht : Tab w) :
    Calls Tryd.prog 4 #[.int .i64 n] w fun e w' => e = .returned (.bool true) ∧ Gr w w' := by
  have hT := TG.start ht
  clear ht
  have cA := fun (w' : World) (h : TG w w') => awake12_any w' h.1
  rcases h : Va.durB n
  · have cD := fun (w' : World) => duration_no n w' h
    have cR := fun (w' : World) => rduration_no n w' h
    have cP := fun (w' : World) => pduration_any ⟨#[]⟩ w' (by show 0 ≤ _; omega)
    have e0 : (ByteArray.mk #[]).data.toList = [] := rfl
    rw [e0, pd_nil] at cP
    clear e0 h
    unfold Va.opV at cP
    go_enter Tryd.func4, Tryd.ntmps4
    go_wp2_with (first | (go_at_call 8; refine (cA _ hT).mono ?_; rintro e w1 ⟨rfl, hb⟩; replace hT := hT.go hb; clear hb) | (go_at_call 11; refine (cD _).mono ?_; rintro e w1 ⟨rfl, hb⟩; replace hT := hT.go hb; clear hb) | (go_at_call 12; refine (cR _).mono ?_; rintro e w1 ⟨rfl, hb⟩; replace hT := hT.go hb; clear hb) | (go_at_call 13; refine (cP _).mono ?_; rintro e w1 ⟨rfl, hb⟩; replace hT := hT.go hb; clear hb))
    go_ret
    exact ⟨rfl, hT.2⟩
  · have cD := fun (w' : World) (hx : TG w w') => duration_yes n w' hx.1 h
    have cR := fun (w' : World) => rduration_yes n w' h
    have hl := dur_len h
    have cP := fun (w' : World) => pduration_any ⟨(Va.dur n).toArray⟩ w' (by rw [Lib.size_eq]; show (Va.dur n).length ≤ _; omega)
    have e0 : (ByteArray.mk (Va.dur n).toArray).data.toList = Va.dur n := rfl
    rw [e0, Va.pd_dur h] at cP
    clear e0 h
    unfold Va.opV at cP
    generalize Va.dur n = t at *
    go_enter Tryd.func4, Tryd.ntmps4
    go_wp2_with (first | (go_at_call 8; refine (cA _ hT).mono ?_; rintro e w1 ⟨rfl, hb⟩; replace hT := hT.go hb; clear hb) | (go_at_call 11; refine (cD _ hT).mono ?_; rintro e w1 ⟨rfl, hb⟩; replace hT := hT.go hb; clear hb) | (go_at_call 12; refine (cR _).mono ?_; rintro e w1 ⟨rfl, hb⟩; replace hT := hT.go hb; clear hb) | (go_at_call 13; refine (cP _).mono ?_; rintro e w1 ⟨rfl, hb⟩; replace hT := hT.go hb; clear hb))
    go_ret
    exact ⟨rfl, hT.2⟩
end Go.Proofs.YtafpdiikhhikeaaDoor
