/- The walk of ClockParts. -/
import Derived.Test.YtemnpnjobjeliaaDoorAwClk
import Derived.Test.YtemnpnjobjeliaaDoorRefGreg2
import Derived.Test.YtemnpnjobjeliaaDoorEq3
namespace Go.Proofs.YtemnpnjobjeliaaDoor
open Go.RowKit

set_option maxRecDepth 8000 in
set_option maxHeartbeats 2000000 in
theorem clockparts_no (a : Int) (w : World) (ht : Tab w) (h : Clk.okB a = false) :
    Calls Tryd.prog 3 #[.int .i64 a] w fun e w' => e = .returned (.bool true) ∧ Gr w w' := by
  have H := Lib.hid h; clear h
  go_enter Tryd.func3, Tryd.ntmps3
  go_wp2_with fail
  refine (awake_any _ ht).mono ?_
  rintro e w1 ⟨rfl, hb⟩
  go_wp2_with fail
  refine (cparts_no _ _ H.out).mono ?_
  rintro e w2 ⟨rfl, hb2⟩
  go_wp2_with (first | (go_at_call 10; refine (rright_any _ _).mono ?_; rintro e w' ⟨rfl, rfl⟩; rw [H.out]) | (go_at_call 11; refine (cright_any _ _).mono ?_; rintro e w' ⟨rfl, rfl⟩; rw [H.out]) | (go_at_call 12; refine (cday_no _ _ H.out).mono ?_; rintro e w' ⟨rfl, rfl⟩) | (go_at_call 13; refine (csec_no _ _ H.out).mono ?_; rintro e w' ⟨rfl, rfl⟩))
  go_ret
  exact ⟨rfl, ((hb.trans hb2).alloc _ _).alloc _ _⟩
set_option maxRecDepth 8000 in
set_option maxHeartbeats 2000000 in
theorem clockparts_yes (a : Int) (w : World) (ht : Tab w) (h : Clk.okB a = true) :
    Calls Tryd.prog 3 #[.int .i64 a] w fun e w' => e = .returned (.bool true) ∧ Gr w w' := by
  have hb := Clk.okB_iff.1 h
  have hd := Clk.okB_day h
  have HD := Lib.hid hd
  obtain ⟨ho, hn⟩ := Cal.date_spec hd
  have HO := Lib.hid ho
  have hq : Clk.timB (a % 86400 / 3600) (a % 3600 / 60) (a % 60) = true := Clk.timB_iff.2 (by omega)
  have HQ := Lib.hid hq
  have hs : Clk.secB (a % 86400) = true := Clk.secB_iff.2 (by omega)
  have HS := Lib.hid hs
  have HN := Lib.hid hn
  have n1 : a % 86400 / 60 % 60 = a % 3600 / 60 := by omega
  have n2 : a / 86400 * 86400 + (a % 86400 / 3600 * 3600 + a % 3600 / 60 * 60 + a % 60) = a := by omega
  have n3 : a / 86400 * 86400 + a % 86400 = a := by omega
  clear hd ho hn hq hs
  have H := Lib.hid h; clear h
  have eq3 := fun w => eq_int3 w (a % 86400 / 3600) (a % 3600 / 60) (a % 60)
  go_enter Tryd.func3, Tryd.ntmps3
  go_wp2_with fail
  refine (awake_any _ ht).mono ?_
  rintro e w1 ⟨rfl, hb⟩
  go_wp2_with fail
  refine (cparts_yes _ _ H.out).mono ?_
  rintro e w2 ⟨rfl, hb2⟩
  go_wp2_with fail
  refine (rright_any _ _).mono ?_
  rintro e w' ⟨rfl, rfl⟩
  rw [H.out]
  go_wp2_with fail
  refine (refdate0_yes _ _ HD.out).mono ?_
  rintro e w3 ⟨rfl, hb3⟩
  have hz : ∀ o, (w2.alloc o).heap.size = w2.heap.size + 1 := fun o => by simp
  have hz2 : ∀ o p, ((w2.alloc o).alloc p).heap.size = w2.heap.size + 2 := fun o p => by simp
  have hg := hb3.alloc #[.int .i64 (Cal.yr (a / 86400)), .int .i64 (Cal.mon (a / 86400)), .int .i64 (Cal.dom (a / 86400))] 24
  obtain ⟨c0, c1, c2⟩ := box3 (((Gr.refl _).alloc _ _).trans hg)
  obtain ⟨p0, p1, p2⟩ := box3 hg
  rw [hz] at p0 p1 p2
  obtain ⟨l0, l1, l2⟩ := box_now w3 (.int .i64 (Cal.yr (a / 86400))) (.int .i64 (Cal.mon (a / 86400))) (.int .i64 (Cal.dom (a / 86400))) 24
  have z3 := hb3.lt
  rw [hz2] at z3
  have z4 : (w3.alloc (.cells #[.int .i64 (Cal.yr (a / 86400)), .int .i64 (Cal.mon (a / 86400)), .int .i64 (Cal.dom (a / 86400))] 24)).heap.size = w3.heap.size + 1 := by simp
  have HG := Lib.hid (((hb.trans hb2).trans (((Gr.refl w2).alloc _ _).alloc _ _)).trans hg)
  clear hg hb hb2 hb3 hz hz2
  go_wp2_with fail
  refine (cof_yes _ _ _ _ _ _ _ HO.out HQ.out).mono ?_
  rintro e w5 ⟨rfl, hb5⟩
  have c0 := hb5.keeps (by omega) c0; have c1 := hb5.keeps (by omega) c1; have c2 := hb5.keeps (by omega) c2
  have p0 := hb5.keeps (by omega) p0; have p1 := hb5.keeps (by omega) p1; have p2 := hb5.keeps (by omega) p2
  have l0 := hb5.keeps (by omega) l0; have l1 := hb5.keeps (by omega) l1; have l2 := hb5.keeps (by omega) l2
  have HG := Lib.hid (HG.out.trans hb5)
  clear hb5
  rw [HN.out]
  go_wp2_with (first | (go_at_call 12; refine (cday_yes _ _ H.out).mono ?_; rintro e w' ⟨rfl, rfl⟩) | (go_at_call 13; refine (csec_yes _ _ H.out).mono ?_; rintro e w' ⟨rfl, rfl⟩) | (go_at_call 16; refine (cat_yes _ _ _ HD.out HS.out).mono ?_; rintro e w' ⟨rfl, rfl⟩) | (go_at_call 11; refine (cright_any _ _).mono ?_; rintro e w' ⟨rfl, rfl⟩; rw [H.out]))
  go_ret
  exact ⟨rfl, HG.out⟩
theorem clockparts_any (a : Int) (w : World) (ht : Tab w) :
    Calls Tryd.prog 3 #[.int .i64 a] w fun e w' => e = .returned (.bool true) ∧ Gr w w' := by
  rcases h : Clk.okB a
  · exact clockparts_no a w ht h
  · exact clockparts_yes a w ht h
end Go.Proofs.YtemnpnjobjeliaaDoor
