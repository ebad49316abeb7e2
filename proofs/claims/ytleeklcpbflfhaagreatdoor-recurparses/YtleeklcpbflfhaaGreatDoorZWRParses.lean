/- The law RecurParses: it returns true. -/
import Derived.Test.YtleeklcpbflfhaaGreatDoorZK
import Derived.Test.YtleeklcpbflfhaaGreatDoorZL
import Derived.Test.YtleeklcpbflfhaaGreatDoorZV
import Derived.Test.YtleeklcpbflfhaaGreatDoorZRfParse
namespace Go.Proofs.YtleeklcpbflfhaaGreatDoor
open Go.RowKit

set_option maxRecDepth 100000 in
set_option maxHeartbeats 4000000 in
theorem rparses_any (s : ByteArray) (w : World) (hT : TbR w) :
    Calls Tryz.prog 4 #[.string s] w fun e w' => e = .returned (.bool true) ∧ Gr w w' := by
  have cA := fun w' hT => awake_any w' hT
  by_cases hs : s.size ≤ 3000
  · have hsz : ¬ (3000 : Int) < (s.size : Int) := by omega
    have cP := fun w' hT => parsed_any s w' hT (by omega)
    have cR := fun w' => rparse_any s w' (by omega)
    obtain ⟨hsm1, hsm2⟩ := Rm.rdR_small s.data.toList
    generalize Rm.rdR s.data.toList = R at *
    have H1 := Lib.hid hsm1
    have H2 := Lib.hid hsm2
    clear hsm1 hsm2 hs
    go_enter Tryz.func4, Tryz.ntmps4
    go_wp2_with fail
    refine (cA _ hT).mono ?_
    rintro e w1 ⟨rfl, hg1⟩
    have hT1 := hT.gr hg1
    go_wp2_with fail
    refine (cP _ hT1).mono ?_
    rintro e w2 ⟨V, rfl, hV, hM, hg2⟩
    have hgA : Gr w2 (w2.alloc (.cells V.val 27)) := (Gr.refl w2).allocO _
    have hbA := RBx.now w2 V 27
    have HM := Lib.hid (hM.gr hgA)
    have HV := Lib.hid hV
    have HD := Lib.hid (show V.day.n ≤ 140737488355328 by rw [← hM.d.1, hV]; exact Nat.le_trans H2.out (by decide))
    have HN := Lib.hid (show ∀ i, i < 8 → (V.sl i).n ≤ 140737488355328 from fun i hi => by rw [← (hM.l i hi).1, hV]; exact Nat.le_trans (H1.out i hi) (by decide))
    clear hM hV
    go_wp2_with (refine wpList_store_row rfl 27 (.tmp 3) (.tmp 18) rfl w2.heap.size V.val rfl rfl 27 _ (heap_alloc_new _ _) info_rule rfl (rule_one _) ?_; rw [World.setRow_alloc_new]; generalize w2.alloc (.cells V.val 27) = W3 at *)
    refine (cR _).mono ?_
    rintro e w4 ⟨V2, rfl, hV2, hM2, hg4⟩
    have hgB : Gr w4 (w4.alloc (.cells V2.val 27)) := (Gr.refl w4).allocO _
    have hbB := RBx.now w4 V2 27
    have hbA4 := (hbA.gr hg4).gr hgB
    have HM2 := Lib.hid (hM2.gr hgB)
    have HM4 := Lib.hid ((HM.out.gr hg4).gr hgB)
    have HE := Lib.hid (show V.r = V2.r by rw [HV.out, hV2])
    clear hM2 hV2 hbA
    have hgw := (((hg1.trans hg2).trans hgA).trans hg4).trans hgB
    go_wp2_with (first | (refine wpList_store_row rfl 27 (.tmp 5) (.tmp 23) rfl w4.heap.size V2.val rfl rfl 27 _ (heap_alloc_new _ _) info_rule rfl (rule_one _) ?_; rw [World.setRow_alloc_new]; generalize w4.alloc (.cells V2.val 27) = W5 at *) | (refine wpList_load_ruleg (by rfl) _ rfl rfl hbA4 ?_) | (refine wpList_load_ruleg (by rfl) _ rfl rfl hbB ?_))
    refine (rsame_any V V2 _ HM4.out HM2.out HD.out HN.out true ⟨fun _ => HE.out, fun _ => rfl⟩).mono ?_
    rintro e w6 ⟨rfl, hg6⟩
    go_wp2
    go_ret
    exact ⟨rfl, hgw.trans hg6⟩
  · have hsz : (3000 : Int) < (s.size : Int) := by omega
    clear hs
    go_enter Tryz.func4, Tryz.ntmps4
    go_wp2_with fail
    refine (cA _ hT).mono ?_
    rintro e w1 ⟨rfl, hg1⟩
    have hT1 := hT.gr hg1
    go_wp2_with fail
    refine (cA _ hT1).mono ?_
    rintro e w2 ⟨rfl, hg2⟩
    go_wp2
    go_ret
    exact ⟨rfl, hg1.trans hg2⟩
end Go.Proofs.YtleeklcpbflfhaaGreatDoor
