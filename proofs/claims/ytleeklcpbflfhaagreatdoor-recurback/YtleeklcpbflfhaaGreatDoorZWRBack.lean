/- The law RecurBack: it returns true. -/
import Derived.Test.YtleeklcpbflfhaaGreatDoorZRpPrint
import Derived.Test.YtleeklcpbflfhaaGreatDoorZK
import Derived.Test.YtleeklcpbflfhaaGreatDoorZL
import Derived.Test.YtleeklcpbflfhaaGreatDoorZV
import Derived.Test.YtleeklcpbflfhaaGreatDoorZD
namespace Go.Proofs.YtleeklcpbflfhaaGreatDoor
open Go.RowKit

set_option maxRecDepth 100000 in
set_option maxHeartbeats 4000000 in
theorem rback_any (V : Rm.Rv) (w : World) (hT : TbR w) (hP : Tab w) (hM : RuM w w.heap.size V) (hd : V.day.n ≤ 140737488355328) (hn : ∀ i, i < 8 → (V.sl i).n ≤ 140737488355328) :
    Calls Tryz.prog 5 #[.agg V.val] w fun e w' => e = .returned (.bool true) ∧ Gr w w' := by
  have hg0 : Gr w (w.alloc (.cells V.val 27)) := (Gr.refl w).allocO _
  have hbx := RBx.now w V 27
  have cA := fun w' hT => awake_any w' hT
  have cF1 := fun w' => few_any V w' hd hn
  obtain ⟨q1, hq1⟩ : ∃ q1, decide (Rm.sumN V 8 ≤ 500) = q1 := ⟨_, rfl⟩
  rw [hq1] at cF1
  clear hq1
  have hT0 := hT.gr hg0
  have HM := Lib.hid hM
  have HD := Lib.hid hd
  have HN := Lib.hid hn
  rcases hfm : Rm.fm V.r with _ | _
  · have cP := fun w' (hg : Gr w w') => print_no V w' (hM.gr hg) hfm
    clear hT hP hM hfm hn hd
    go_enter Tryz.func5, Tryz.ntmps5
    go_upto_region 1 with fail
    have HBX := Lib.hid hbx
    generalize w.alloc (.cells V.val 27) = W at *
    clear hbx
    go_wp2_with fail
    refine (cA _ hT0).mono ?_
    rintro e w1 ⟨rfl, hg1⟩
    have hT1 := hT0.gr hg1
    have hb := HBX.out.gr hg1
    go_wp2_with (first | (refine wpList_load_rule rfl _ rfl rfl hb ?_) | (refine wpList_load_ruleg (by rfl) _ rfl rfl hb ?_))
    refine (cF1 _).mono ?_
    rintro e w2 ⟨rfl, hg2⟩
    have hT2 := hT1.gr hg2
    have hb2 := hb.gr hg2
    have hgw := (hg0.trans hg1).trans hg2
    rcases q1
    · go_wp2_with fail
      refine (cA _ hT2).mono ?_
      rintro e w3 ⟨rfl, hg3⟩
      go_wp2
      go_ret
      exact ⟨rfl, hgw.trans hg3⟩
    go_wp2_with (refine wpList_load_rule rfl _ rfl rfl hb2 ?_)
    refine (cP _ hgw).mono ?_
    rintro e w3 ⟨rfl, hg3⟩
    go_wp2
    go_ret
    exact ⟨rfl, hgw.trans hg3⟩
  · have cP := fun w' (hg : Gr w w') => print_yes V w' (hP.keep hg) (hT.gr hg) (hM.gr hg) hfm
    have hlen : (Rm.ru V.r).length ≤ 100000 := by
      rw [← Rm.rs_ru hfm]
      exact Nat.le_trans (Rm.rs_len hfm (k := 13) (by decide)) (by decide)
    have cR := fun w' (hg : Gr w w') => parsed_any ⟨(Rm.ru V.r).toArray⟩ w' (hT.gr hg) (by rw [size_mk]; exact hlen)
    have e1 : (ByteArray.mk (Rm.ru V.r).toArray).data.toList = Rm.ru V.r := by simp
    rw [e1, Rm.rd_ru hfm] at cR
    have HL := Lib.hid (fun i (h : i < 8) => (hM.l i h).1)
    have HLD := Lib.hid hM.d.1
    clear hT hP hM hfm hn hd hlen e1
    generalize (ByteArray.mk (Rm.ru V.r).toArray) = t at *
    go_enter Tryz.func5, Tryz.ntmps5
    go_upto_region 1 with fail
    have HBX := Lib.hid hbx
    generalize w.alloc (.cells V.val 27) = W at *
    clear hbx
    go_wp2_with fail
    refine (cA _ hT0).mono ?_
    rintro e w1 ⟨rfl, hg1⟩
    have hT1 := hT0.gr hg1
    have hb := HBX.out.gr hg1
    go_wp2_with (first | (refine wpList_load_rule rfl _ rfl rfl hb ?_) | (refine wpList_load_ruleg (by rfl) _ rfl rfl hb ?_))
    refine (cF1 _).mono ?_
    rintro e w2 ⟨rfl, hg2⟩
    have hT2 := hT1.gr hg2
    have hb2 := hb.gr hg2
    have hgw := (hg0.trans hg1).trans hg2
    rcases q1
    · go_wp2_with fail
      refine (cA _ hT2).mono ?_
      rintro e w3 ⟨rfl, hg3⟩
      go_wp2
      go_ret
      exact ⟨rfl, hgw.trans hg3⟩
    go_wp2_with (refine wpList_load_rule rfl _ rfl rfl hb2 ?_)
    refine (cP _ hgw).mono ?_
    rintro e w3 ⟨rfl, hg3⟩
    have hb3 := hb2.gr hg3
    have hgw3 := hgw.trans hg3
    go_wp2_with fail
    refine (cR _ hgw3).mono ?_
    rintro e w4 ⟨V2, rfl, hV2, hM4, hg4⟩
    have hgw4 := hgw3.trans hg4
    have hd2 : V2.day.n ≤ 140737488355328 := by
      rw [← hM4.d.1, hV2, HLD.out]
      exact HD.out
    have hn2 : ∀ i, i < 8 → (V2.sl i).n ≤ 140737488355328 := fun i hi => by
      rw [← (hM4.l i hi).1, hV2, HL.out i hi]
      exact HN.out i hi
    have HE := Lib.hid hV2
    have hgA : Gr w4 (w4.alloc (.cells V2.val 27)) := (Gr.refl w4).allocO _
    have hbA := RBx.now w4 V2 27
    have hbB := (hb3.gr hg4).gr hgA
    have HMA := Lib.hid (hM4.gr hgA)
    have HMB := Lib.hid (HM.out.gr (hgw4.trans hgA))
    have hgw5 := hgw4.trans hgA
    clear hV2 hM4
    go_wp2_with (first | (refine wpList_store_row rfl 27 (.tmp 5) (.tmp 27) rfl w4.heap.size V2.val rfl rfl 27 _ (heap_alloc_new _ _) info_rule rfl (rule_one _) ?_; rw [World.setRow_alloc_new]; generalize w4.alloc (.cells V2.val 27) = W5 at *) | (refine wpList_load_ruleg (by rfl) _ rfl rfl hbA ?_) | (refine wpList_load_ruleg (by rfl) _ rfl rfl hbB ?_))
    refine (rsame_any V2 V _ HMA.out HMB.out hd2 hn2 true ⟨fun _ => HE.out, fun _ => rfl⟩).mono ?_
    rintro e w6 ⟨rfl, hg6⟩
    have hbA6 := hbA.gr hg6
    have hbB6 := hbB.gr hg6
    go_wp2_with (first | (refine wpList_load_ruleg (by rfl) _ rfl rfl hbA6 ?_) | (refine wpList_load_ruleg (by rfl) _ rfl rfl hbB6 ?_))
    refine (requal_any V2 V _ (HMA.out.gr hg6) (HMB.out.gr hg6) hd2 hn2 true ⟨fun _ => HE.out, fun _ => rfl⟩).mono ?_
    rintro e w7 ⟨rfl, hg7⟩
    go_wp2
    go_ret
    exact ⟨rfl, (hgw5.trans hg6).trans hg7⟩
end Go.Proofs.YtleeklcpbflfhaaGreatDoor
