/- The law RecurPrints: it returns true. -/
import Derived.Test.YtleeklcpbflfhaaGreatDoorZRpPrint
import Derived.Test.YtleeklcpbflfhaaGreatDoorZRfPrint
import Derived.Test.YtleeklcpbflfhaaGreatDoorZK
namespace Go.Proofs.YtleeklcpbflfhaaGreatDoor
open Go.RowKit

set_option maxRecDepth 100000 in
set_option maxHeartbeats 4000000 in
theorem rprints_any (V : Rm.Rv) (w : World) (hT : TbR w) (hP : Tab w) (hM : RuM w w.heap.size V) (hz : V.z.size ≤ 9223372036854775807) (hd : V.day.n ≤ 140737488355328) (hn : ∀ i, i < 8 → (V.sl i).n ≤ 140737488355328) :
    Calls Tryz.prog 3 #[.agg V.val] w fun e w' => e = .returned (.bool true) ∧ Gr w w' := by
  have hg0 : Gr w (w.alloc (.cells V.val 27)) := (Gr.refl w).allocO _
  have hbx := RBx.now w V 27
  have cA := fun w' hT => awake_any w' hT
  have cF1 := fun w' => few_any V w' hd hn
  obtain ⟨q1, hq1⟩ : ∃ q1, decide (Rm.sumN V 8 ≤ 500) = q1 := ⟨_, rfl⟩
  rw [hq1] at cF1
  clear hq1
  have hT0 := hT.gr hg0
  have cFm := fun w' (h : Gr w w') => formed_any V w' (hM.gr h)
  obtain ⟨q, t, k, hq, cP, cR⟩ : ∃ (q : Bool) (t : ByteArray) (k : Int), (q = (k == 0)) ∧ (∀ w', Gr w w' → Calls Tryz.prog 9 #[.agg V.val] w' fun e w'' => e = .returned (.tuple #[.string t, .int .i64 k]) ∧ Gr w' w'') ∧
      (∀ w', Gr w w' → Calls Tryz.prog 10 #[.agg V.val] w' fun e w'' => e = .returned (.tuple #[.string t, .int .i64 k]) ∧ Gr w' w'') ∧ Rm.fm V.r = q := by
    cases h : Rm.fm V.r
    · exact ⟨false, ⟨#[]⟩, 10, rfl, fun w' hg => print_no V w' (hM.gr hg) h, fun w' hg => rprint_no V w' (hM.gr hg) hz hd hn h, rfl⟩
    · exact ⟨true, ⟨(Rm.ru V.r).toArray⟩, 0, rfl, fun w' hg => print_yes V w' (hP.keep hg) (hT.gr hg) (hM.gr hg) h, fun w' hg => rprint_yes V w' (hM.gr hg) hz hd hn h, rfl⟩
  obtain ⟨cR, hfm⟩ := cR
  rw [hfm] at cFm
  clear hfm hT hP hM hz hn hd
  go_enter Tryz.func3, Tryz.ntmps3
  go_upto_region 1 with fail
  have HBX := Lib.hid hbx
  generalize w.alloc (.cells V.val 27) = W at *
  clear hbx
  go_wp2_with fail
  refine (cA _ hT0).mono ?_
  rintro e w1 ⟨rfl, hg1⟩
  have hT1 := hT0.gr hg1
  have hb := HBX.out.gr hg1
  go_wp2_with (first | (refine wpList_load_rule rfl _ rfl rfl hb ?_) | (refine wpList_load_ruleg (by rfl) _ rfl rfl hb ?_))
  refine (cF1 _).mono ?_
  rintro e w2 ⟨rfl, hg2⟩
  have hT2 := hT1.gr hg2
  have hb2 := hb.gr hg2
  have hgw := (hg0.trans hg1).trans hg2
  rcases q1
  · go_wp2_with fail
    refine (cA _ hT2).mono ?_
    rintro e w3 ⟨rfl, hg3⟩
    go_wp2
    go_ret
    exact ⟨rfl, hgw.trans hg3⟩
  go_wp2_with (refine wpList_load_rule rfl _ rfl rfl hb2 ?_)
  refine (cP _ hgw).mono ?_
  rintro e w3 ⟨rfl, hg3⟩
  have hb3 := hb2.gr hg3
  have hgw3 := hgw.trans hg3
  go_wp2_with (refine wpList_load_rule rfl _ rfl rfl hb3 ?_)
  refine (cR _ hgw3).mono ?_
  rintro e w4 ⟨rfl, hg4⟩
  have hb4 := hb3.gr hg4
  have hgw4 := hgw3.trans hg4
  go_wp2_with (first | (refine wpList_load_ruleg (by rfl) _ rfl rfl hb4 ?_) | (go_at_call 11; refine (cFm _ hgw4).mono ?_; rintro e w5 ⟨rfl, hg5⟩))
  go_ret
  exact ⟨ret_bool (by first | rfl | (rw [hq]; simp)), hgw4.trans hg5⟩
end Go.Proofs.YtleeklcpbflfhaaGreatDoor
