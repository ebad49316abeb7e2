/- The walk of ValueTimes. -/
import Derived.Test.YtafpdiikhhikeaaGreatDoorVaTm
import Derived.Test.YtafpdiikhhikeaaGreatDoorVaTime
namespace Go.Proofs.YtafpdiikhhikeaaGreatDoor
open Go.RowKit

set_option maxRecDepth 8000 in
set_option maxHeartbeats 4000000 in
theorem vtimes_any (k a : Int) (z : ByteArray) (w : World) (ht : Tab w) (hm : z.size ≤ 9223372036854775807) :
    Calls Tryz.prog 3 #[.agg #[.int .i64 k, .int .i64 a, .string z]] w fun e w' => e = .returned (.bool true) ∧ Gr w w' := by
  have cA := fun (w : World) (ht : Tab w) => awake12_any w ht
  have cQ := fun w => rrt_any k a z w hm
  have cR := fun w => rt_any k a z w
  have hT : TG w (w.alloc (.cells #[.int .i64 k, .int .i64 a, .string z] 23)) := (TG.start ht).go ((Gr.refl _).alloc _ _)
  have hb := Gr.refl (w.alloc (.cells #[.int .i64 k, .int .i64 a, .string z] 23))
  clear ht
  rcases h : Va.rt k a z.data.toList
  · have cT := fun w => time_no k a z w h
    rw [h] at cQ cR
    clear h
    go_enter Tryz.func3, Tryz.ntmps3
    go_wp2_with fail
    refine (cA _ hT.1).mono ?_
    rintro e w1 ⟨rfl, hx⟩
    replace hb := hb.trans hx
    replace hT := hT.go hx
    clear hx
    obtain ⟨c0, c1, c2⟩ := box3 hb
    go_wp2_with fail
    refine (cT _).mono ?_
    rintro e w2 ⟨rfl, hx⟩
    replace hb := hb.trans hx
    replace hT := hT.go hx
    clear hx c0 c1 c2
    obtain ⟨c0, c1, c2⟩ := box3 hb
    go_wp2_with fail
    refine (cQ _).mono ?_
    rintro e w3 ⟨rfl, hx⟩
    replace hb := hb.trans hx
    replace hT := hT.go hx
    clear hx c0 c1 c2
    obtain ⟨c0, c1, c2⟩ := box3 hb
    go_wp2_with fail
    refine (cR _).mono ?_
    rintro e w4 ⟨rfl, hx⟩
    replace hT := hT.go hx
    go_wp2
    go_ret
    exact ⟨rfl, hT.2⟩
  · have ho := Va.rt_ok h
    have cT := fun (w : World) (ht : Tab w) => time_yes k a z w ht h
    have hl := Va.txt_len k a
    have cP := fun w => ptime_any ⟨(Va.txt k a).toArray⟩ z (decide (k = 0)) w (by rw [Lib.size_eq]; show (Va.txt k a).length ≤ _; omega)
    have e0 : (ByteArray.mk (Va.txt k a).toArray).data.toList = Va.txt k a := rfl
    have eV : Va.rdV (some (k, a, z.data.toList)) = .tuple #[.agg #[.int .i64 k, .int .i64 a, .string z], .int .i64 0] := by
      show Value.tuple #[.agg #[.int .i64 k, .int .i64 a, .string ⟨z.data.toList.toArray⟩], .int .i64 0] = _
      rw [Lib.mk_data]
    rw [e0, Va.rd_txt h, eV] at cP
    have cU := fun (w : World) => rtime_any k a z w ho
    rw [h] at cQ cR
    clear h ho e0 eV
    generalize Va.txt k a = t at *
    have ek : (k == 0) = decide (k = 0) := by
      rcases h0 : decide (k = 0)
      · rw [beq_eq_false_iff_ne]; exact of_decide_eq_false h0
      · rw [beq_iff_eq]; exact of_decide_eq_true h0
    generalize decide (k = 0) = d0 at *
    go_enter Tryz.func3, Tryz.ntmps3
    go_wp2_with fail
    refine (cA _ hT.1).mono ?_
    rintro e w1 ⟨rfl, hx⟩
    replace hb := hb.trans hx
    replace hT := hT.go hx
    clear hx
    obtain ⟨c0, c1, c2⟩ := box3 hb
    go_wp2_with fail
    refine (cT _ hT.1).mono ?_
    rintro e w2 ⟨rfl, hx⟩
    replace hb := hb.trans hx
    replace hT := hT.go hx
    clear hx c0 c1 c2
    obtain ⟨c0, c1, c2⟩ := box3 hb
    go_wp2_with fail
    refine (cQ _).mono ?_
    rintro e w3 ⟨rfl, hx⟩
    replace hb := hb.trans hx
    replace hT := hT.go hx
    clear hx c0 c1 c2
    obtain ⟨c0, c1, c2⟩ := box3 hb
    go_wp2_with fail
    refine (cP _).mono ?_
    rintro e w4 ⟨rfl, hx⟩
    replace hb := (hb.trans hx).alloc #[.int .i64 k, .int .i64 a, .string z] 23
    replace hT := (hT.go hx).go ((Gr.refl _).alloc #[.int .i64 k, .int .i64 a, .string z] 23)
    have hu := Gr.refl (w4.alloc (.cells #[.int .i64 k, .int .i64 a, .string z] 23))
    clear hx c0 c1 c2
    obtain ⟨c0, c1, c2⟩ := box3 hb
    go_wp2_with fail
    refine (cR _).mono ?_
    rintro e w5 ⟨rfl, hx⟩
    replace hb := hb.trans hx
    replace hT := hT.go hx
    replace hu := hu.trans hx
    clear hx c0 c1 c2
    obtain ⟨c0, c1, c2⟩ := box3 hb
    go_wp2_with fail
    refine (cU _).mono ?_
    rintro e w6 ⟨rfl, hx⟩
    replace hb := hb.trans hx
    replace hT := hT.go hx
    replace hu := hu.trans hx
    clear hx c0 c1 c2
    obtain ⟨c0, c1, c2⟩ := box3 hb
    obtain ⟨d0, d1, d2⟩ := box3 hu
    go_wp2
    go_ret
    exact ⟨rfl, hT.2⟩
end Go.Proofs.YtafpdiikhhikeaaGreatDoor
