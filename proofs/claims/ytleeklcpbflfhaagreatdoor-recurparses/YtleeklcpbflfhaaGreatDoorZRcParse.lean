/- What recur.Parse returns, where its parts are read as runP says. -/
import Derived.Test.YtleeklcpbflfhaaGreatDoorZH
import Derived.Test.YtleeklcpbflfhaaGreatDoorZE
import Derived.Test.YtleeklcpbflfhaaGreatDoorZD
import Derived.Test.YtleeklcpbflfhaaGreatDoorZRcFmM
import Derived.Deep.WholeRow
import Derived.Laws.CopyRow
import Derived.Laws.ResultCell
namespace Go.Proofs.YtleeklcpbflfhaaGreatDoor
open Go.RowKit

namespace Rm
def V0 : Rv := ⟨rz, ⟨#[]⟩, ⟨none, 0, 0⟩, ⟨none, 0, 0⟩, ⟨none, 0, 0⟩, ⟨none, 0, 0⟩, ⟨none, 0, 0⟩, ⟨none, 0, 0⟩, ⟨none, 0, 0⟩, ⟨none, 0, 0⟩, ⟨none, 0, 0⟩⟩
def V1 : Rv := ⟨r0, ⟨#[]⟩, ⟨none, 0, 0⟩, ⟨none, 0, 0⟩, ⟨none, 0, 0⟩, ⟨none, 0, 0⟩, ⟨none, 0, 0⟩, ⟨none, 0, 0⟩, ⟨none, 0, 0⟩, ⟨none, 0, 0⟩, ⟨none, 0, 0⟩⟩
end Rm
namespace Rm
def endP : Option Ru → Ru × Nat
  | none => (rz, 7)
  | some r => if fm r then (r, 0) else (rz, 10)
end Rm
theorem Rm.runP_none (p : List UInt8 × List UInt8) : Rm.runP none p = none := rfl
theorem Rm.fold_none : ∀ ps : List (List UInt8 × List UInt8), ps.foldl Rm.runP none = none
  | [] => rfl
  | p :: ps => by rw [List.foldl_cons, Rm.runP_none, Rm.fold_none ps]
theorem Rm.fold_cut {ps : List (List UInt8 × List UInt8)} {s : Option Rm.Ru} {k : Nat} (h : (ps.take k).foldl Rm.runP s = none) : ps.foldl Rm.runP s = none := by
  rw [← List.take_append_drop k ps, List.foldl_append, h, Rm.fold_none]
theorem Sm.setRow (w : World) (b : Nat) (cs : Array Value) : Sm (fun k => k ≠ b) w (w.setRow b cs) := ⟨rfl, rfl, rfl, by simp, fun k _ hk => setRow_other w b k cs hk⟩
theorem V0_mem (w : World) (B : Nat) : RuM w B Rm.V0 :=
  ⟨rfl, fun i hi => by
    rcases (show i = 0 ∨ i = 1 ∨ i = 2 ∨ i = 3 ∨ i = 4 ∨ i = 5 ∨ i = 6 ∨ i = 7 by omega) with rfl | rfl | rfl | rfl | rfl | rfl | rfl | rfl <;> exact Nums.nil _ _ _, Pr2.nil _ _ _⟩
theorem V1_mem (w : World) (B : Nat) : RuM w B Rm.V1 :=
  ⟨rfl, fun i hi => by
    rcases (show i = 0 ∨ i = 1 ∨ i = 2 ∨ i = 3 ∨ i = 4 ∨ i = 5 ∨ i = 6 ∨ i = 7 by omega) with rfl | rfl | rfl | rfl | rfl | rfl | rfl | rfl <;> exact Nums.nil _ _ _, Pr2.nil _ _ _⟩
theorem V1_off (B b : Nat) : ∀ i, i < 8 → 0 < (Rm.V1.sl i).n → ∀ ad, (Rm.V1.sl i).A = some ad → ad.block ≠ b ∧ B ≤ ad.block := fun i hi h => by
  rcases (show i = 0 ∨ i = 1 ∨ i = 2 ∨ i = 3 ∨ i = 4 ∨ i = 5 ∨ i = 6 ∨ i = 7 by omega) with rfl | rfl | rfl | rfl | rfl | rfl | rfl | rfl <;> cases h
theorem info_rule : (Tryz.prog.info? 27).map (·.size) = some 17 := by kernel_rfl
theorem rule_one (V : Rm.Rv) : (V.val.all (·.oneCell')) = true := by simp [Rm.Rv.val, Value.oneCell']
theorem RBx.of_row {w : World} {b : Nat} {V : Rm.Rv} {t : TypeId} {fr : Nat × Nat} (h : w.heap[b]? = some (.cells V.val t fr)) : RBx w b V := by
  constructor <;> (rw [show ∀ o, w.cell? ⟨b, o, none⟩ = V.val[o]? from fun o => by simp [World.cell?, h]]; rfl)
theorem res_rule {fn : Func} {p u : Tmp} (h : fn.results = #[.cell p 27, .tmp u]) (tmps : Array Value) (w : World) {g : Nat} {V : Rm.Rv} {fr : Nat × Nat} (hp : tmps.getD p undef = .pointer (some ⟨g, 0, none⟩)) (hg : w.heap[g]? = some (.cells V.val 27 fr)) :
    (results fn tmps).run Tryz.prog w = .ok (.tuple #[.agg V.val, tmps.getD u undef]) w := by
  rw [results_cell_tmp h, hp]
  simp [asAddr, Result.andThen, run_loadVar_row w g 27 27 V.val fr _ hg Tryz.underlying27 rfl info_rule]
set_option maxRecDepth 100000 in
set_option maxHeartbeats 8000000 in
theorem parse_any (fm : ∀ (V : Rm.Rv) (w : World), RuM w w.heap.size V → Calls Tryz.prog 11 #[.agg V.val] w fun e w' => e = .returned (.bool (Rm.fm V.r)) ∧ Gr w w')
    (s : ByteArray) (w : World) (hT : TbR w) (hs : s.size ≤ 100000) (hR : ∀ ps, Rm.cps (s.data.toList.map Rm.up) = some ps → ∀ p ∈ ps, RdOk p) :
    Calls Tryz.prog 12 #[.string s] w fun e w' => ∃ V : Rm.Rv, e = .returned (.tuple #[.agg V.val, .int .i64 ((Rm.rdR s.data.toList).2 : Int)]) ∧ V.r = (Rm.rdR s.data.toList).1 ∧ RuM w' w'.heap.size V ∧ Gr w w' := by
  have cU := fun w' => rupper_any s w' (by omega)
  have cC := fun w' hT => cutParts_any ⟨(s.data.toList.map Rm.up).toArray⟩ w' hT (by
    have := Lib.size_eq s
    show (s.data.toList.map Rm.up).toArray.size ≤ 100000
    rw [List.size_toArray, List.length_map]
    omega)
  have HQ := Lib.hid (Rm.rdR_eq s.data.toList)
  have HR := Lib.hid hR
  have e1 : (ByteArray.mk (s.data.toList.map Rm.up).toArray).data.toList = s.data.toList.map Rm.up := by simp
  rw [e1] at cC
  obtain ⟨R, hRR⟩ : ∃ R, Rm.rdR s.data.toList = R := ⟨_, rfl⟩
  rw [hRR] at HQ
  rw [hRR]
  clear hRR e1 hR
  have hg0 : Gr w (w.alloc (.cells Rm.V0.val 27)) := (Gr.refl w).allocO _
  have hk2 : (w.alloc (.cells Rm.V0.val 27)).heap[w.heap.size]? = some (.cells Rm.V0.val 27 (0, 0)) := heap_alloc_new w _
  have hT0 := hT.gr hg0
  have HK := Lib.hid hk2
  clear hk2
  go_enter Tryz.func12, Tryz.ntmps12
  go_upto_region 1 with fail
  have hsz : w.heap.size < (w.alloc (.cells Rm.V0.val 27)).heap.size := by simp
  go_upto_region 2 with (first | (go_at_call 35; refine (cU _).mono ?_; rintro e w1 ⟨rfl, hg1⟩; have hg01 := hg0.trans hg1; have hT1 := hT0.gr hg1) | (go_at_call 34; refine (cC _ hT1).mono ?_; rintro e w2 ⟨A, n, c, q, ps, rfl, hg2, hP, hcq⟩))
  have hg02 := hg01.trans hg2
  have hT2 := hT1.gr hg2
  have hk2 : w2.heap[w.heap.size]? = some (.cells Rm.V0.val 27 (0, 0)) := by
    rw [(hg1.trans hg2).below.block _ hsz]
    exact HK.out
  have hbl : w.heap.size < w2.heap.size := Nat.lt_of_lt_of_le hsz (hg1.trans hg2).lt
  have HK := Lib.hid hk2
  clear hk2 hsz hg1 hg2 hT0 hT1 hg0 hg01 cU cC hT
  rcases q
  · have h5 : R = (Rm.rz, 5) := by
      rw [HQ.out]
      rcases hcq with ⟨h1, _⟩ | ⟨h1, h2⟩
      · rw [h1]
      · rw [h1]
        dsimp only
        rw [if_pos h2.symm]
    have H5 := Lib.hid h5
    clear h5 hcq hP
    go_wp2_with (refine wpList_store_row rfl 27 (.tmp 2) (.tmp 17) rfl w.heap.size Rm.V0.val rfl rfl 27 Rm.V0.val HK.out info_rule rfl (rule_one _) ?_; rw [setRow_self _ _ _ _ _ HK.out])
    refine bodyPost_ret (v := .tuple #[.agg Rm.V0.val, .int .i64 5]) ?_ rfl ⟨Rm.V0, ?_, ?_, ?_, ?_⟩
    · refine res_rule (p := 2) (u := 3) ?_ _ _ ?_ HK.out
      · rfl
      · rfl
    · rw [H5.out]; rfl
    · rw [H5.out]; rfl
    · exact V0_mem _ _
    · exact hg02
  · have hc2 : Rm.cps (s.data.toList.map Rm.up) = some ps := by
      rcases hcq with ⟨_, h⟩ | ⟨h, _⟩
      · cases h
      · exact h
    have hq2 : R = Rm.endP (ps.foldl Rm.runP (some Rm.r0)) := by
      rw [HQ.out, hc2]
      rcases hcq with ⟨_, h⟩ | ⟨_, h⟩
      · cases h
      · dsimp only
        rw [← h, if_neg (by decide)]
        rfl
    have hnb : n ≤ 100001 := by
      have h1 := Rm.stepC_len _ _ _ (show (Rm.cutB 59 (s.data.toList.map Rm.up)).foldl Rm.stepC (some []) = some ps from hc2)
      have h2 := (Rm.cutB_len 59 (s.data.toList.map Rm.up)).1
      have h3 := Lib.size_eq s
      have h4 := hP.1
      rw [List.length_map] at h2
      rw [List.length_nil] at h1
      omega
    have HQ2 := Lib.hid hq2
    have HO := Lib.hid (HR.out ps hc2)
    have HL := Lib.hid hP.1
    clear hq2 hc2 hcq HQ HR
    go_upto_region 5 with (refine wpList_store_row rfl 27 (.tmp 6) (.tmp 18) rfl w2.heap.size Rm.V1.val rfl rfl 27 _ (heap_alloc_new _ _) info_rule rfl (rule_one _) ?_; rw [World.setRow_alloc_new])
    have hgA : Gr w2 (w2.alloc (.cells Rm.V1.val 27)) := (Gr.refl _).allocO _
    have hB6 : RdM (w2.alloc (.cells Rm.V1.val 27)) w2.heap.size w2.heap.size Rm.V1 := ⟨RBx.now _ _ _, fun o => box_free (Gr.refl _) o, V1_mem _ _, V1_off _ _, fun h => absurd h (by decide)⟩
    generalize w2.alloc (.cells Rm.V1.val 27) = W at *
    go_wp2
    go_loopg [21] n (fun g v wx => ∃ k : Nat, ∃ V : Rm.Rv, v = .int .i64 (k : Int) ∧ k + g = n ∧ Gr w2 wx ∧ RdM wx w2.heap.size w2.heap.size V ∧ Hid ((ps.take k).foldl Rm.runP (some Rm.r0) = some V.r))
    case atStart => exact ⟨0, Rm.V1, rfl, by omega, hgA, hB6, Lib.hid rfl⟩
    case round =>
      obtain ⟨k, V, rfl, hkg, hg, hB, HF⟩ := hrel
      have HG := Lib.hid hkg
      have hkx : wr.heap[w.heap.size]? = some (.cells Rm.V0.val 27 (0, 0)) := by
        rw [hg.below.block _ hbl]
        exact HK.out
      have HK1 := Lib.hid hkx
      clear hkg hgA hB6 hkx
      by_cases hk : k < n
      · have HKN := Lib.hid hk
        obtain ⟨ad, hk', rfl, hab, hc0, hc1⟩ := hP.at_ hk
        have d0 := (hg.below.cell (p := ad.add (k * 2)) (by rw [add_block]; exact hab)).trans hc0
        have d1 := (hg.below.cell (p := ⟨(ad.add (k * 2)).block, (ad.add (k * 2)).off + 1, none⟩) (by show (ad.add (k * 2)).block < _; rw [add_block]; exact hab)).trans hc1
        have HT := Lib.hid (List.take_succ_eq_append_getElem hk')
        have hR := HO.out ps[k] (List.getElem_mem hk')
        have hga : Gr wr (wr.alloc (.cells #[sv1 ps[k], sv2 ps[k]] 65)) := (Gr.refl wr).allocO _
        have cR := hR _ w2.heap.size w2.heap.size V ((hT2.gr hg).gr hga) (Nat.le_trans hg.lt hga.lt) (hB.gr hga)
        generalize ps[k] = p at *
        dsimp only [sv1, sv2] at *
        clear hR hc0 hc1 hP
        have HGA := Lib.hid hga
        have HG2 := Lib.hid hg
        clear hga hg hB
        go_wp2_with (first | (go_at_call 36; refine cR.mono ?_; rintro e w3 ⟨q, rfl, hsm, hcs⟩; have hg3 : Gr w2 w3 := ⟨((HG2.out.trans HGA.out).below).trans (hsm.below (fun _ h => Nat.ne_of_lt h) (HG2.out.trans HGA.out).lt)⟩; have HK3 : Hid (w3.heap[w.heap.size]? = some (.cells Rm.V0.val 27 (0, 0))) := Lib.hid (by rw [hg3.below.block _ hbl]; exact HK.out)) | (refine wpList_store_row rfl 27 (.tmp 2) (.tmp 28) rfl w.heap.size Rm.V0.val rfl rfl 27 Rm.V0.val HK3.out info_rule rfl (rule_one _) ?_; rw [setRow_self _ _ _ _ _ HK3.out]))
        · rcases hcs with ⟨rfl, _⟩ | ⟨rfl, hn⟩
          · rename_i hx
            cases hx
          · have hN : R = (Rm.rz, 7) := by
              rw [HQ2.out, Rm.fold_cut (k := k + 1) (by rw [HT.out, List.foldl_append, HF.out]; exact hn)]
              rfl
            refine bodyPost_ret (v := .tuple #[.agg Rm.V0.val, .int .i64 7]) ?_ rfl ⟨Rm.V0, ?_, ?_, ?_, ?_⟩
            · refine res_rule (p := 2) (u := 3) ?_ _ _ ?_ HK3.out
              · rfl
              · rfl
            · rw [hN]; rfl
            · rw [hN]; rfl
            · exact V0_mem _ _
            · exact hg02.trans hg3
        · rcases hcs with ⟨rfl, V', hV, hB'⟩ | ⟨rfl, hn⟩
          · go_roundg (n - (k + 1))
            case measure => have := HG.out; have := HKN.out; omega
            case rel => exact ⟨k + 1, V', by go_num, by have := HKN.out; omega, hg3, hB', Lib.hid (by rw [HT.out, List.foldl_append, HF.out]; exact hV)⟩
          · rename_i hx
            cases hx
      · obtain rfl : k = n := by have := HG.out; omega
        have hF := HF.out
        rw [List.take_of_length_le (by rw [HL.out]; exact Nat.le_refl _)] at hF
        have hR2 : R = if Rm.fm V.r then (V.r, 0) else (Rm.rz, 10) := by
          rw [HQ2.out, hF]
          rfl
        have HR2 := Lib.hid hR2
        have cF := fm V wr hB.m
        have HX := Lib.hid hB
        have HGG := Lib.hid hg
        have hlw : w.heap.size < wr.heap.size := Nat.lt_of_lt_of_le hbl hg.lt
        obtain ⟨e0, e1, e2, e3, e4, e5, e6, e7, e8, e9, e10, e11, e12, e13, e14, e15, e16⟩ := hB.box
        clear hF hR2 hB hP hg
        dsimp only [Rm.Rv.val] at *
        rcases hf : Rm.fm V.r
        · rw [hf] at cF
          have hN : R = (Rm.rz, 10) := by rw [HR2.out, hf]; rfl
          have HN := Lib.hid hN
          clear hf hN
          go_wp2_with (first | (go_at_call 11; refine cF.mono ?_; rintro e w3 ⟨rfl, hg3⟩; have HK3 : Hid (w3.heap[w.heap.size]? = some (.cells Rm.V0.val 27 (0, 0))) := Lib.hid (by rw [hg3.below.block _ hlw]; exact HK1.out)) | (refine wpList_store_row rfl 27 (.tmp 2) (.tmp 33) rfl w.heap.size Rm.V0.val rfl rfl 27 Rm.V0.val HK3.out info_rule rfl (rule_one _) ?_; rw [setRow_self _ _ _ _ _ HK3.out]))
          refine bodyPost_ret (v := .tuple #[.agg Rm.V0.val, .int .i64 10]) ?_ rfl ⟨Rm.V0, ?_, ?_, ?_, ?_⟩
          · refine res_rule (p := 2) (u := 3) ?_ _ _ ?_ HK3.out
            · rfl
            · rfl
          · rw [HN.out]; rfl
          · rw [HN.out]; rfl
          · exact V0_mem _ _
          · exact (hg02.trans HGG.out).trans hg3
        · rw [hf] at cF
          have hN : R = (V.r, 0) := by rw [HR2.out, hf]; rfl
          have HN := Lib.hid hN
          clear hf hN
          go_wp2_with (first | (go_at_call 11; refine cF.mono ?_; rintro e w3 ⟨rfl, hg3⟩; have HK3 : Hid (w3.heap[w.heap.size]? = some (.cells Rm.V0.val 27 (0, 0))) := Lib.hid (by rw [hg3.below.block _ hlw]; exact HK1.out); clear e0 e1 e2 e3 e4 e5 e6 e7 e8 e9 e10 e11 e12 e13 e14 e15 e16; obtain ⟨e0, e1, e2, e3, e4, e5, e6, e7, e8, e9, e10, e11, e12, e13, e14, e15, e16⟩ := (HX.out.gr hg3).box) | (refine wpList_store_row rfl 27 (.tmp 2) (.tmp 34) rfl w.heap.size V.val rfl rfl 27 Rm.V0.val HK3.out info_rule rfl (rule_one _) ?_))
          refine bodyPost_ret (v := .tuple #[.agg V.val, .int .i64 0]) ?_ rfl ⟨V, ?_, ?_, ?_, ?_⟩
          · refine res_rule (p := 2) (u := 3) ?_ _ _ ?_ (setRow_heap _ _ _ _ _ _ HK3.out)
            · rfl
            · rfl
          · rw [HN.out]; rfl
          · rw [HN.out]
          · exact (HX.out.m.gr hg3).sm (fun i hi hn ad e => Nat.ne_of_gt (Nat.lt_of_lt_of_le hbl (HX.out.off i hi hn ad e).2)) (fun hn ad e => Nat.ne_of_gt (Nat.lt_of_lt_of_le hbl (HX.out.offd hn ad e).2)) (Sm.setRow _ _ _)
          · exact ⟨((hg02.trans HGG.out).trans hg3).below.trans ((Sm.setRow w3 w.heap.size V.val).below (fun _ h => Nat.ne_of_lt h) ((hg02.trans HGG.out).trans hg3).lt)⟩
end Go.Proofs.YtleeklcpbflfhaaGreatDoor
