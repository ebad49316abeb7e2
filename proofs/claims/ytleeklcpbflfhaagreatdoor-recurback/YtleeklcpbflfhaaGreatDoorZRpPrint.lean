/- What recur.Print returns. -/
import Derived.Test.YtleeklcpbflfhaaGreatDoorZRpPart
import Derived.Test.YtleeklcpbflfhaaGreatDoorZK
namespace Go.Proofs.YtleeklcpbflfhaaGreatDoor
open Go.RowKit

namespace Rm
theorem upto_next (r : Ru) (k : Nat) : (upto r (k + 1)).map partT = (upto r k).map partT ++ if tx r k = [] then [] else [partT (nmN k, tx r k)] := by
  rw [upto, List.map_append]
  unfold one
  split <;> rfl
end Rm
set_option maxRecDepth 100000 in
set_option maxHeartbeats 1000000 in
theorem print_no (V : Rm.Rv) (w : World) (hM : RuM w w.heap.size V) (h : Rm.fm V.r = false) :
    Calls Tryz.prog 9 #[.agg V.val] w fun e w' => e = .returned (.tuple #[.string ⟨#[]⟩, .int .i64 10]) ∧ Gr w w' := by
  have hg0 : Gr w (w.alloc (.cells V.val 27)) := (Gr.refl w).allocO _
  have cF := formed_any V _ (hM.gr hg0)
  have hbx := RBx.now w V 27
  rw [h] at cF
  clear h hM
  go_enter Tryz.func9, Tryz.ntmps9
  go_wp2_with (first | (refine wpList_load_rule rfl _ rfl rfl hbx ?_) | (go_at_call 11; refine cF.mono ?_; rintro e w1 ⟨rfl, hg⟩))
  go_ret2
  exact ⟨rfl, hg0.trans hg⟩
set_option maxRecDepth 100000 in
set_option maxHeartbeats 1000000 in
theorem print_yes (V : Rm.Rv) (w : World) (hP : Tab w) (hT : TbR w) (hM : RuM w w.heap.size V) (h : Rm.fm V.r = true) :
    Calls Tryz.prog 9 #[.agg V.val] w fun e w' => e = .returned (.tuple #[.string ⟨(Rm.ru V.r).toArray⟩, .int .i64 0]) ∧ Gr w w' := by
  have hg0 : Gr w (w.alloc (.cells V.val 27)) := (Gr.refl w).allocO _
  have cF := formed_any V _ (hM.gr hg0)
  have hbx := RBx.now w V 27
  rw [h] at cF
  have HF := Lib.hid h
  have HT := Lib.hid hT
  have HP := Lib.hid hP
  have HM := Lib.hid hM
  have HR := Lib.hid (show Rm.ru V.r = Rm.joinB 59 ((Rm.upto V.r 14).map Rm.partT) by rw [← Rm.rs_ru h]; rfl)
  have hJ : (Rm.joinB 59 ((Rm.upto V.r 14).map Rm.partT)).length ≤ 140737488355328 := Nat.le_trans (Rm.rs_len h (k := 13) (by decide)) (by decide)
  have HJ := Lib.hid hJ
  clear hP hT hM h hJ
  generalize Rm.ru V.r = J at *
  go_enter Tryz.func9, Tryz.ntmps9
  go_upto_region 4 with (first | (refine wpList_load_rule rfl _ rfl rfl hbx ?_) | (go_at_call 11; refine cF.mono ?_; rintro e w1 ⟨rfl, hg1⟩))
  have hgw := hg0.trans hg1
  have hbx := hbx.gr hg1
  clear cF hg0 hg1
  have hTw := HT.out.gr hgw
  have p0 := hTw.p 0 _ rfl
  have p1 := hTw.p 1 _ rfl
  have p2 := hTw.p 2 _ rfl
  have p3 := hTw.p 3 _ rfl
  have p4 := hTw.p 4 _ rfl
  have p5 := hTw.p 5 _ rfl
  have p6 := hTw.p 6 _ rfl
  have p7 := hTw.p 7 _ rfl
  have p8 := hTw.p 8 _ rfl
  have p9 := hTw.p 9 _ rfl
  have p10 := hTw.p 10 _ rfl
  have p11 := hTw.p 11 _ rfl
  have p12 := hTw.p 12 _ rfl
  have p13 := hTw.p 13 _ rfl
  go_wp2
  generalize hA : (#[Value.string ⟨Rm.nFREQ.toArray⟩, Value.string ⟨Rm.nINTERVAL.toArray⟩, Value.string ⟨Rm.nCOUNT.toArray⟩, Value.string ⟨Rm.nUNTIL.toArray⟩, Value.string ⟨Rm.nBYSECOND.toArray⟩, Value.string ⟨Rm.nBYMINUTE.toArray⟩, Value.string ⟨Rm.nBYHOUR.toArray⟩, Value.string ⟨Rm.nBYDAY.toArray⟩, Value.string ⟨Rm.nBYMONTHDAY.toArray⟩, Value.string ⟨Rm.nBYYEARDAY.toArray⟩, Value.string ⟨Rm.nBYWEEKNO.toArray⟩, Value.string ⟨Rm.nBYMONTH.toArray⟩, Value.string ⟨Rm.nBYSETPOS.toArray⟩, Value.string ⟨Rm.nWKST.toArray⟩] : Array Value) = arr
  have HA := Lib.hid (show arr = (Rm.names.map fun x => Value.string ⟨x.toArray⟩).toArray by rw [← hA]; rfl)
  clear hA p0 p1 p2 p3 p4 p5 p6 p7 p8 p9 p10 p11 p12 p13 hTw
  go_loopg [4, 12] 14 (fun g v4 v wx => ∃ k : Nat, ∃ A n c, v = .int .i64 (k : Int) ∧ v4 = .slice A n c ∧ k + g = 14 ∧ n ≤ k ∧ Gr w wx ∧ RBx wx w.heap.size V ∧ OwnV wx (w.heap.size + 1) 9 A n c (sc ((Rm.upto V.r k).map Rm.partT)))
  case atStart => exact ⟨0, none, 0, 0, rfl, rfl, rfl, Nat.le_refl _, hgw, hbx, by simpa [sc, Rm.upto] using OwnV.nil w1 (w.heap.size + 1) 9⟩
  case round =>
    obtain ⟨k, A, n, c, rfl, rfl, hkg, hnk, hg, hb, hown⟩ := hrel
    have HG := Lib.hid hkg
    clear hkg hgw hbx
    by_cases hk : k < 14
    · have he : arr[k]? = some (.string ⟨(Rm.nmN k).toArray⟩) := by rw [HA.out, List.getElem?_toArray, List.getElem?_map, Rm.nmN_at k hk]; rfl
      have hix := run_ix wr arr k _ Tryz.underlying41 (Tryz.isAgg9 wr) (Tryz.sizeOf9 wr) hk he
      have hkn : (k : Int) < 14 := by omega
      have cP := ptext_any V wr (HP.out.keep hg) (HT.out.gr hg) (HM.out.gr hg) HF.out k hk
      have HN := Lib.hid (Rm.upto_next V.r k)
      have hz1 : (ByteArray.mk (Rm.nmN k).toArray).size ≤ 10 := by rw [Lib.size_eq]; exact Rm.nmN_len k hk
      have hz2 : (ByteArray.mk (Rm.tx V.r k).toArray).size ≤ 320 := by rw [Lib.size_eq]; exact Rm.tx_len HF.out k hk
      have hwb : w.heap.size + 1 ≤ wr.heap.size := World.block_lt_of_cell? _ _ hb.c0
      have HW := Lib.hid (show ByteArray.mk (Rm.nmN k).toArray ++ ByteArray.mk #[61] ++ ByteArray.mk (Rm.tx V.r k).toArray = ByteArray.mk (Rm.partT (Rm.nmN k, Rm.tx V.r k)).toArray by
        rw [show (ByteArray.mk #[61]) = ByteArray.mk ([61] : List UInt8).toArray from rfl, cat, cat]
        unfold Rm.partT
        simp)
      clear he
      generalize Rm.nmN k = nm at *
      generalize Rm.tx V.r k = tx at *
      by_cases hx : tx = []
      · subst hx
        rw [if_pos rfl, List.append_nil] at HN
        clear hz1 hz2 HW
        go_wp2_with (first | (refine wpList_load_rule rfl _ rfl rfl hb ?_) | (go_at_call 18; refine cP.mono ?_; rintro e w2 ⟨rfl, hg2⟩))
        go_roundg (14 - (k + 1))
        case measure => have := HG.out; omega
        case rel => exact ⟨k + 1, A, n, c, by go_num, rfl, by omega, by omega, hg.trans hg2, hb.gr hg2, by rw [HN.out]; exact hown.gr hg2⟩
      · rw [if_neg hx] at HN
        have hx1 : ((ByteArray.mk tx.toArray).toList == []) = false := by
          rw [Lib.toList_data]
          exact beq_eq_false_iff_ne.2 hx
        clear hx
        generalize ByteArray.mk nm.toArray = nB at *
        generalize ByteArray.mk tx.toArray = tB at *
        have hz3 : (nB ++ ByteArray.mk #[61]).size ≤ 11 := by
          rw [ByteArray.size_append]
          show _ + 1 ≤ 11
          omega
        go_wp2_with (first | (refine wpList_load_rule rfl _ rfl rfl hb ?_) | (go_at_call 18; refine cP.mono ?_; rintro e w2 ⟨rfl, hg2⟩; have hown2 := hown.gr hg2; have hb2 := hb.gr hg2; have hwb2 := Nat.le_trans hwb hg2.lt) | (at_builtin; refine ap_lit w2 rfl (.tmp 20) (.tmp 25) 40 9 (.string ⟨#[]⟩) 16 Tryz.underlying40 info_str rfl (by omega) rfl (w.heap.size + 1) A n c _ [.string (nB ++ ByteArray.mk #[61] ++ tB)] rfl hown2 1 1 rfl rfl (by intro u hu; simp at hu; subst hu; rfl) (by omega) hwb2 ?_; intro A5 c5 w5 hown5 hb5))
        go_roundg (14 - (k + 1))
        case measure => have := HG.out; omega
        case rel =>
          refine ⟨k + 1, A5, n + 1, c5, by go_num, rfl, by omega, by omega, ⟨(hg.trans hg2).below.trans (hb5.mono (Nat.le_succ _))⟩, hb2.keep hb5 (Nat.lt_succ_self _), ?_⟩
          rw [HN.out, sc_append]
          rw [HW.out] at hown5
          exact hown5
    · obtain rfl : k = 14 := by have := HG.out; omega
      have cJ := joinO_any 59 A n c (w.heap.size + 1) _ wr hown (by omega) HJ.out
      rw [← HR.out] at cJ
      clear hown
      go_wp2_with (go_at_call 19; refine cJ.mono ?_; rintro e w2 ⟨rfl, hg2⟩)
      go_ret2
      exact ⟨rfl, hg.trans hg2⟩
end Go.Proofs.YtleeklcpbflfhaaGreatDoor
