/- What recur.partText returns (written by mkrppart.py). -/
import Derived.Test.YtleeklcpbflfhaaGreatDoorZRpList
namespace Go.Proofs.YtleeklcpbflfhaaGreatDoor
open Go.RowKit

namespace Rm
def pix : Nat → Nat
  | 0 => 4 | 1 => 5 | 2 => 6 | 3 => 8 | 4 => 9 | 5 => 10 | 6 => 11 | _ => 12
theorem pix_nm : ∀ i, i < 8 → nmN (pix i) = nmL i := by decide
theorem pix_tx (r : Ru) : ∀ i, i < 8 → tx r (pix i) = lt (r.ls i) := by
  intro i hi
  rcases (show i = 0 ∨ i = 1 ∨ i = 2 ∨ i = 3 ∨ i = 4 ∨ i = 5 ∨ i = 6 ∨ i = 7 by omega) with rfl | rfl | rfl | rfl | rfl | rfl | rfl | rfl <;> rfl
theorem pix_cases : ∀ k, k < 14 → k = 0 ∨ k = 1 ∨ k = 2 ∨ k = 3 ∨ k = 7 ∨ k = 13 ∨ ∃ i, i < 8 ∧ k = pix i := by
  intro k hk
  rcases (show k = 0 ∨ k = 1 ∨ k = 2 ∨ k = 3 ∨ k = 4 ∨ k = 5 ∨ k = 6 ∨ k = 7 ∨ k = 8 ∨ k = 9 ∨ k = 10 ∨ k = 11 ∨ k = 12 ∨ k = 13 by omega) with rfl | rfl | rfl | rfl | rfl | rfl | rfl | rfl | rfl | rfl | rfl | rfl | rfl | rfl
  · exact .inl rfl
  · exact .inr (.inl rfl)
  · exact .inr (.inr (.inl rfl))
  · exact .inr (.inr (.inr (.inl rfl)))
  · exact .inr (.inr (.inr (.inr (.inr (.inr ⟨0, by decide, rfl⟩)))))
  · exact .inr (.inr (.inr (.inr (.inr (.inr ⟨1, by decide, rfl⟩)))))
  · exact .inr (.inr (.inr (.inr (.inr (.inr ⟨2, by decide, rfl⟩)))))
  · exact .inr (.inr (.inr (.inr (.inl rfl))))
  · exact .inr (.inr (.inr (.inr (.inr (.inr ⟨3, by decide, rfl⟩)))))
  · exact .inr (.inr (.inr (.inr (.inr (.inr ⟨4, by decide, rfl⟩)))))
  · exact .inr (.inr (.inr (.inr (.inr (.inr ⟨5, by decide, rfl⟩)))))
  · exact .inr (.inr (.inr (.inr (.inr (.inr ⟨6, by decide, rfl⟩)))))
  · exact .inr (.inr (.inr (.inr (.inr (.inr ⟨7, by decide, rfl⟩)))))
  · exact .inr (.inr (.inr (.inr (.inr (.inl rfl)))))
theorem fine_at {r : Ru} (h : fm r = true) : ∀ i, i < 8 → fine i (r.ls i) = true := by
  obtain ⟨_, _, _, _, _, l0, l1, l2, _, l3, l4, l5, l6, l7⟩ := fm_all h
  intro i hi
  rcases (show i = 0 ∨ i = 1 ∨ i = 2 ∨ i = 3 ∨ i = 4 ∨ i = 5 ∨ i = 6 ∨ i = 7 by omega) with rfl | rfl | rfl | rfl | rfl | rfl | rfl | rfl
  · exact l0
  · exact l1
  · exact l2
  · exact l3
  · exact l4
  · exact l5
  · exact l6
  · exact l7
theorem nmL_inj : ∀ i, i < 8 → ∀ k, k < 8 → (nmL k == nmL i) = (k == i) := by decide
theorem nmL_sw : ∀ i, i < 8 → (nmL i == [70, 82, 69, 81]) = false ∧ (nmL i == [73, 78, 84, 69, 82, 86, 65, 76]) = false ∧ (nmL i == [67, 79, 85, 78, 84]) = false ∧ (nmL i == [85, 78, 84, 73, 76]) = false ∧ (nmL i == [66, 89, 68, 65, 89]) = false ∧ (nmL i == [87, 75, 83, 84]) = false := by decide
theorem frs_at : ∀ j : Nat, j < 4 → frs[j]? = some (freqT ((j : Int) + 1)) := by decide
end Rm
set_option maxRecDepth 100000 in
set_option maxHeartbeats 1000000 in
theorem pt_freq (V : Rm.Rv) (w : World) (hP : Tab w) (hT : TbR w) (hM : RuM w w.heap.size V) (h : Rm.fm V.r = true) :
    Calls Tryz.prog 18 #[.agg V.val, .string ⟨Rm.nFREQ.toArray⟩] w fun e w' => e = .returned (.string ⟨(Rm.freqT V.r.freq).toArray⟩) ∧ Gr w w' := by
  have hg0 : Gr w (w.alloc (.cells V.val 27)) := (Gr.refl w).allocO _
  have hP0 := hP.keep hg0
  have hT0 := hT.gr hg0
  have hM0 := hM.gr hg0
  have hbx := RBx.now w V 27
  obtain ⟨⟨a1, a2⟩, ⟨b1, b2⟩, ⟨c1, c2⟩, ⟨d1, d2⟩, hU, _, _, _, lD, _, _, _, _, _⟩ := Rm.fm_all h
  have hs0 : (Rm.nFREQ == [70, 82, 69, 81]) = true := by decide
  obtain ⟨j, hj⟩ := Int.eq_ofNat_of_zero_le (show 0 ≤ V.r.freq - 1 by omega)
  have hj4 : j < 4 := by omega
  have hc := hT0.f j _ (Rm.frs_at j hj4)
  have e0 := hbx.c0
  rw [show V.r.freq = (j : Int) + 1 by omega] at e0 ⊢
  have hji : (j : Int) < 4 := by omega
  clear a1 a2 b1 b2 c1 c2 d1 d2 hU lD hM hM0 hbx hP0 hT0 hj
  generalize Rm.freqT ((j : Int) + 1) = tx at *
  generalize V.val = vv at *
  generalize Rm.nFREQ = nm at *
  clear h hT hP
  go_enter Tryz.func18, Tryz.ntmps18
  go_wp2_with fail
  go_ret
  exact ⟨rfl, hg0⟩
set_option maxRecDepth 100000 in
set_option maxHeartbeats 1000000 in
theorem pt_ivl (V : Rm.Rv) (w : World) (hP : Tab w) (hT : TbR w) (hM : RuM w w.heap.size V) (h : Rm.fm V.r = true) :
    Calls Tryz.prog 18 #[.agg V.val, .string ⟨Rm.nINTERVAL.toArray⟩] w fun e w' => e = .returned (.string ⟨(if V.r.ivl = 1 then [] else Rm.nt V.r.ivl).toArray⟩) ∧ Gr w w' := by
  have hg0 : Gr w (w.alloc (.cells V.val 27)) := (Gr.refl w).allocO _
  have hP0 := hP.keep hg0
  have hT0 := hT.gr hg0
  have hM0 := hM.gr hg0
  have hbx := RBx.now w V 27
  obtain ⟨⟨a1, a2⟩, ⟨b1, b2⟩, ⟨c1, c2⟩, ⟨d1, d2⟩, hU, _, _, _, lD, _, _, _, _, _⟩ := Rm.fm_all h
  have hs0 : (Rm.nINTERVAL == [70, 82, 69, 81]) = false := by decide
  have hs1 : (Rm.nINTERVAL == [73, 78, 84, 69, 82, 86, 65, 76]) = true := by decide
  have cN := fun w (ht : Tab w) => numText_any V.r.ivl 1 w ht (by omega) (by omega)
  have e0 := hbx.c1
  clear a1 a2 b1 b2 c1 c2 d1 d2 hU lD hM hM0 hbx hT0
  generalize (if V.r.ivl = 1 then [] else Rm.nt V.r.ivl) = tx at *
  generalize V.r.ivl = x at *
  generalize V.val = vv at *
  generalize Rm.nINTERVAL = nm at *
  clear h hT hP
  go_enter Tryz.func18, Tryz.ntmps18
  go_wp2_with (go_at_call 43; refine (cN _ hP0).mono ?_; rintro e w' ⟨rfl, hg⟩)
  go_ret
  exact ⟨rfl, hg0.trans hg⟩
set_option maxRecDepth 100000 in
set_option maxHeartbeats 1000000 in
theorem pt_cnt (V : Rm.Rv) (w : World) (hP : Tab w) (hT : TbR w) (hM : RuM w w.heap.size V) (h : Rm.fm V.r = true) :
    Calls Tryz.prog 18 #[.agg V.val, .string ⟨Rm.nCOUNT.toArray⟩] w fun e w' => e = .returned (.string ⟨(if V.r.cnt = 0 then [] else Rm.nt V.r.cnt).toArray⟩) ∧ Gr w w' := by
  have hg0 : Gr w (w.alloc (.cells V.val 27)) := (Gr.refl w).allocO _
  have hP0 := hP.keep hg0
  have hT0 := hT.gr hg0
  have hM0 := hM.gr hg0
  have hbx := RBx.now w V 27
  obtain ⟨⟨a1, a2⟩, ⟨b1, b2⟩, ⟨c1, c2⟩, ⟨d1, d2⟩, hU, _, _, _, lD, _, _, _, _, _⟩ := Rm.fm_all h
  have hs0 : (Rm.nCOUNT == [70, 82, 69, 81]) = false := by decide
  have hs1 : (Rm.nCOUNT == [73, 78, 84, 69, 82, 86, 65, 76]) = false := by decide
  have hs2 : (Rm.nCOUNT == [67, 79, 85, 78, 84]) = true := by decide
  have cN := fun w (ht : Tab w) => numText_any V.r.cnt 0 w ht (by omega) (by omega)
  have e0 := hbx.c2
  clear a1 a2 b1 b2 c1 c2 d1 d2 hU lD hM hM0 hbx hT0
  generalize (if V.r.cnt = 0 then [] else Rm.nt V.r.cnt) = tx at *
  generalize V.r.cnt = x at *
  generalize V.val = vv at *
  generalize Rm.nCOUNT = nm at *
  clear h hT hP
  go_enter Tryz.func18, Tryz.ntmps18
  go_wp2_with (go_at_call 43; refine (cN _ hP0).mono ?_; rintro e w' ⟨rfl, hg⟩)
  go_ret
  exact ⟨rfl, hg0.trans hg⟩
set_option maxRecDepth 100000 in
set_option maxHeartbeats 1000000 in
theorem pt_unt (V : Rm.Rv) (w : World) (hP : Tab w) (hT : TbR w) (hM : RuM w w.heap.size V) (h : Rm.fm V.r = true) :
    Calls Tryz.prog 18 #[.agg V.val, .string ⟨Rm.nUNTIL.toArray⟩] w fun e w' => e = .returned (.string ⟨(if V.r.has = false then [] else Va.txt V.r.uk V.r.ua).toArray⟩) ∧ Gr w w' := by
  have hg0 : Gr w (w.alloc (.cells V.val 27)) := (Gr.refl w).allocO _
  have hP0 := hP.keep hg0
  have hT0 := hT.gr hg0
  have hM0 := hM.gr hg0
  have hbx := RBx.now w V 27
  obtain ⟨⟨a1, a2⟩, ⟨b1, b2⟩, ⟨c1, c2⟩, ⟨d1, d2⟩, hU, _, _, _, lD, _, _, _, _, _⟩ := Rm.fm_all h
  have hs0 : (Rm.nUNTIL == [70, 82, 69, 81]) = false := by decide
  have hs1 : (Rm.nUNTIL == [73, 78, 84, 69, 82, 86, 65, 76]) = false := by decide
  have hs2 : (Rm.nUNTIL == [67, 79, 85, 78, 84]) = false := by decide
  have hs3 : (Rm.nUNTIL == [85, 78, 84, 73, 76]) = true := by decide
  have cU := fun w (ht : Tab w) => untText_any V w ht hM.z hU
  clear a1 a2 b1 b2 c1 c2 d1 d2 hU lD hM hM0 hT0
  generalize (if V.r.has = false then [] else Va.txt V.r.uk V.r.ua) = tx at *
  generalize Rm.nUNTIL = nm at *
  clear h hT hP
  go_enter Tryz.func18, Tryz.ntmps18
  go_wp2_with (first | (refine wpList_load_rule rfl _ rfl rfl hbx ?_) | (go_at_call 44; refine (cU _ hP0).mono ?_; rintro e w' ⟨rfl, hg⟩))
  go_ret
  exact ⟨rfl, hg0.trans hg⟩
set_option maxRecDepth 100000 in
set_option maxHeartbeats 1000000 in
theorem pt_day (V : Rm.Rv) (w : World) (hP : Tab w) (hT : TbR w) (hM : RuM w w.heap.size V) (h : Rm.fm V.r = true) :
    Calls Tryz.prog 18 #[.agg V.val, .string ⟨Rm.nBYDAY.toArray⟩] w fun e w' => e = .returned (.string ⟨(Rm.ldt V.r.day).toArray⟩) ∧ Gr w w' := by
  have hg0 : Gr w (w.alloc (.cells V.val 27)) := (Gr.refl w).allocO _
  have hP0 := hP.keep hg0
  have hT0 := hT.gr hg0
  have hM0 := hM.gr hg0
  have hbx := RBx.now w V 27
  obtain ⟨⟨a1, a2⟩, ⟨b1, b2⟩, ⟨c1, c2⟩, ⟨d1, d2⟩, hU, _, _, _, lD, _, _, _, _, _⟩ := Rm.fm_all h
  have hs0 : (Rm.nBYDAY == [70, 82, 69, 81]) = false := by decide
  have hs1 : (Rm.nBYDAY == [73, 78, 84, 69, 82, 86, 65, 76]) = false := by decide
  have hs2 : (Rm.nBYDAY == [67, 79, 85, 78, 84]) = false := by decide
  have hs3 : (Rm.nBYDAY == [85, 78, 84, 73, 76]) = false := by decide
  have hs4 : (Rm.nBYDAY == [66, 89, 68, 65, 89]) = true := by decide
  have hfd := Rm.fineD_iff.1 lD
  have hdn : V.day.n ≤ 1000 := by
    have h1 := hM.d.1
    have h2 := hfd.1
    omega
  have cL := ltD_any V.day.A V.day.n V.day.c V.r.day _ hP0 hT0 hM0.d hdn hfd.2.1
  have e11 := hbx.c11
  clear a1 a2 b1 b2 c1 c2 d1 d2 hU lD hM hM0 hbx hT0 hfd hdn
  generalize Rm.ldt V.r.day = tx at *
  generalize V.day.A = A at *
  generalize V.day.n = n at *
  generalize V.day.c = c at *
  generalize V.val = vv at *
  generalize Rm.nBYDAY = nm at *
  clear h hT hP
  go_enter Tryz.func18, Tryz.ntmps18
  go_wp2_with (go_at_call 45; refine cL.mono ?_; rintro e w' ⟨rfl, hg⟩)
  go_ret
  exact ⟨rfl, hg0.trans hg⟩
set_option maxRecDepth 100000 in
set_option maxHeartbeats 1000000 in
theorem pt_wk (V : Rm.Rv) (w : World) (hP : Tab w) (hT : TbR w) (hM : RuM w w.heap.size V) (h : Rm.fm V.r = true) :
    Calls Tryz.prog 18 #[.agg V.val, .string ⟨Rm.nWKST.toArray⟩] w fun e w' => e = .returned (.string ⟨(if V.r.st = 1 then [] else Rm.wd V.r.st).toArray⟩) ∧ Gr w w' := by
  have hg0 : Gr w (w.alloc (.cells V.val 27)) := (Gr.refl w).allocO _
  have hP0 := hP.keep hg0
  have hT0 := hT.gr hg0
  have hM0 := hM.gr hg0
  have hbx := RBx.now w V 27
  obtain ⟨⟨a1, a2⟩, ⟨b1, b2⟩, ⟨c1, c2⟩, ⟨d1, d2⟩, hU, _, _, _, lD, _, _, _, _, _⟩ := Rm.fm_all h
  have hs0 : (Rm.nWKST == [70, 82, 69, 81]) = false := by decide
  have hs1 : (Rm.nWKST == [73, 78, 84, 69, 82, 86, 65, 76]) = false := by decide
  have hs2 : (Rm.nWKST == [67, 79, 85, 78, 84]) = false := by decide
  have hs3 : (Rm.nWKST == [85, 78, 84, 73, 76]) = false := by decide
  have hs4 : (Rm.nWKST == [66, 89, 68, 65, 89]) = false := by decide
  have hs5 : (Rm.nWKST == [87, 75, 83, 84]) = true := by decide
  have cS := fun w (ht : TbR w) => startText_any V.r.st w ht d1 d2
  have e7 := hbx.c7
  clear a1 a2 b1 b2 c1 c2 d1 d2 hU lD hM hM0 hbx hP0
  generalize (if V.r.st = 1 then [] else Rm.wd V.r.st) = tx at *
  generalize V.r.st = x at *
  generalize V.val = vv at *
  generalize Rm.nWKST = nm at *
  clear h hT hP
  go_enter Tryz.func18, Tryz.ntmps18
  go_wp2_with (go_at_call 47; refine (cS _ hT0).mono ?_; rintro e w' ⟨rfl, hg⟩)
  go_ret
  exact ⟨rfl, hg0.trans hg⟩
set_option maxRecDepth 100000 in
set_option maxHeartbeats 2000000 in
theorem pt_nums (V : Rm.Rv) (w : World) (hP : Tab w) (hM : RuM w w.heap.size V) (h : Rm.fm V.r = true) (i : Nat) (hi : i < 8) :
    Calls Tryz.prog 18 #[.agg V.val, .string ⟨(Rm.nmL i).toArray⟩] w fun e w' => e = .returned (.string ⟨(Rm.lt (V.r.ls i)).toArray⟩) ∧ Gr w w' := by
  have hg0 : Gr w (w.alloc (.cells V.val 27)) := (Gr.refl w).allocO _
  have hbx := RBx.now w V 27
  have hfi := Rm.fine_iff.1 (Rm.fine_at h i hi)
  have hin : (V.sl i).n ≤ 1000 := by
    have h1 := (hM.l i hi).1
    have h2 := hfi.1
    omega
  have cL := fun w1 (hg : Gr w w1) => ltI_any (V.sl i).A (V.sl i).n (V.sl i).c (V.r.ls i) w1 (hP.keep hg) ((hM.gr hg).l i hi) hin (fun x hx => Rm.may_bd (hfi.2.1 x hx))
  have cN := fun w' => numberLists_any w.heap.size w'
  obtain ⟨hs0, hs1, hs2, hs3, hs4, hs5⟩ := Rm.nmL_sw i hi
  have HI := Lib.hid (Rm.nmL_inj i hi)
  generalize Rm.lt (V.r.ls i) = tx at *
  generalize hnm : Rm.nmL i = nm at *
  have HM := Lib.hid hnm
  clear hnm hfi hin h hM hP
  go_enter Tryz.func18, Tryz.ntmps18
  go_wp2_with (go_at_call 28; refine (cN _).mono ?_; rintro e w1 ⟨rfl, hg1⟩)
  have hbx1 := hbx.gr hg1
  have hgw := hg0.trans hg1
  clear hbx hg0 hg1 cN hs0 hs1 hs2 hs3 hs4 hs5
  go_loopg [40] 8 (fun g v wx => ∃ k : Nat, v = .int .i64 (k : Int) ∧ k + g = 8 ∧ k ≤ i ∧ Gr w wx ∧ RBx wx w.heap.size V)
  case atStart => exact ⟨0, rfl, rfl, Nat.zero_le _, hgw, hbx1⟩
  case round =>
    obtain ⟨k, rfl, hkg, hki, hg, hb⟩ := hrel
    have HG := Lib.hid hkg
    clear hkg hgw hbx1
    have hk : k < 8 := by omega
    have hix := nl_ix wr w.heap.size k hk
    have hkn : (k : Int) < 8 := by omega
    have hga : Gr wr (wr.alloc (.cells #[.string ⟨(Rm.nmL k).toArray⟩, .pointer (some ⟨w.heap.size, Rm.off k, none⟩), .int .i64 (Rm.lo k), .int .i64 (Rm.hi k)] 53)) := (Gr.refl wr).allocO _
    have hcmp := HI.out k hk
    have cL1 := cL _ (hg.trans hga)
    by_cases he : k = i
    · subst he
      have hc := gr_cell hga (hb.at_ hk)
      have hcmp2 : (Rm.nmL k == nm) = true := by rw [hcmp]; simp
      clear hcmp cL hki HI
      rw [HM.out] at hix cL1 hc hcmp2 hga
      clear HM
      generalize (V.sl k).A = A at *
      generalize (V.sl k).n = n at *
      generalize (V.sl k).c = c at *
      go_wp2_with (go_at_call 48; refine cL1.mono ?_; rintro e w' ⟨rfl, hg2⟩)
      go_ret
      exact ⟨rfl, (hg.trans hga).trans hg2⟩
    · have hcmp2 : (Rm.nmL k == nm) = false := by rw [hcmp]; simp [he]
      clear hcmp cL1
      go_wp2
      go_roundg (8 - (k + 1))
      case measure => have := HG.out; omega
      case rel => exact ⟨k + 1, by go_num, by omega, by omega, hg.trans hga, hb.gr hga⟩
theorem ptext_any (V : Rm.Rv) (w : World) (hP : Tab w) (hT : TbR w) (hM : RuM w w.heap.size V) (h : Rm.fm V.r = true) (k : Nat) (hk : k < 14) :
    Calls Tryz.prog 18 #[.agg V.val, .string ⟨(Rm.nmN k).toArray⟩] w fun e w' => e = .returned (.string ⟨(Rm.tx V.r k).toArray⟩) ∧ Gr w w' := by
  rcases Rm.pix_cases k hk with rfl | rfl | rfl | rfl | rfl | rfl | ⟨i, hi, rfl⟩
  · exact pt_freq V w hP hT hM h
  · exact pt_ivl V w hP hT hM h
  · exact pt_cnt V w hP hT hM h
  · exact pt_unt V w hP hT hM h
  · exact pt_day V w hP hT hM h
  · exact pt_wk V w hP hT hM h
  · rw [Rm.pix_nm i hi, Rm.pix_tx V.r i hi]
    exact pt_nums V w hP hM h i hi
end Go.Proofs.YtleeklcpbflfhaaGreatDoor
