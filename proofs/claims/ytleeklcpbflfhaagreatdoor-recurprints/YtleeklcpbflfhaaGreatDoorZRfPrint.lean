/- What the reference's Print returns (written by mkrfprint.py). -/
import Derived.Test.YtleeklcpbflfhaaGreatDoorZRfForm
import Derived.Test.YtleeklcpbflfhaaGreatDoorZRfNum
import Derived.Test.YtleeklcpbflfhaaGreatDoorZRpPart
import Derived.Test.YtleeklcpbflfhaaGreatDoorZVaTm
namespace Go.Proofs.YtleeklcpbflfhaaGreatDoor
open Go.RowKit

namespace Rm
theorem lt_nil {i : Nat} {l : List Int} (h : fine i l = true) : lt l = [] ↔ l = [] := by
  constructor
  · intro e
    by_cases hl : l = []
    · exact hl
    · exact absurd e (lt_ne h hl)
  · intro e
    rw [e]
    rfl
theorem rs_nmb {r : Ru} (h : fm r = true) {i : Nat} (hi : i < 8) {k : Nat} (hk : pix i = k + 1) : rs r (k + 1) = rs r k ++ nmb i (r.ls i) := by
  have hf := fine_at h i hi
  have ht : tx r (k + 1) = lt (r.ls i) := by rw [← hk, pix_tx r i hi]
  have hn : nmN (k + 1) = nmL i := by rw [← hk, pix_nm i hi]
  unfold nmb
  by_cases e : r.ls i = []
  · rw [if_pos e, List.append_nil]
    exact rs_skip (by rw [ht, e]; rfl)
  · rw [if_neg e, rs_step (by rw [ht]; exact lt_ne hf e), ht, hn]
/- the text behind the first j weekdays -/
def dj (r : Ru) (j : Nat) : List UInt8 := rs r 6 ++ if j = 0 then [] else 59 :: (nBYDAY ++ 61 :: joinB 44 ((r.day.take j).map dt))
theorem dj_zero (r : Ru) : dj r 0 = rs r 6 := by unfold dj; simp
theorem dj_one (r : Ru) (h : 0 < r.day.length) : dj r 1 = rs r 6 ++ (59 : UInt8) :: (nBYDAY ++ (61 : UInt8) :: dt (r.day[0])) := by
  unfold dj
  rw [if_neg (by decide), List.take_succ_eq_append_getElem h]
  rfl
theorem dj_next (r : Ru) {j : Nat} (hj : j < r.day.length) (h0 : 0 < j) : dj r (j + 1) = dj r j ++ 44 :: dt (r.day[j]) := by
  unfold dj
  rw [if_neg (by omega), if_neg (by omega), List.take_succ_eq_append_getElem hj, List.map_append, List.map_singleton, joinB_app 44 _ _ (by
    intro e
    have := congrArg List.length e
    rw [List.length_map, List.length_take, List.length_nil] at this
    omega)]
  simp
theorem dj_all {r : Ru} (h : fm r = true) : dj r r.day.length = rs r 7 := by
  have hD := (fm_all h).2.2.2.2.2.2.2.2.1
  unfold dj
  by_cases e : r.day = []
  · rw [e, if_pos List.length_nil, List.append_nil]
    exact (rs_skip (k := 6) (by show ldt r.day = []; rw [e]; rfl)).symm
  · rw [if_neg (by intro h0; exact e (List.eq_nil_of_length_eq_zero h0)), List.take_length, rs_step (k := 6) (ldt_ne hD e)]
    rfl
theorem dj_len {r : Ru} (h : fm r = true) (j : Nat) : (dj r j).length ≤ 5100 := by
  have h1 := rs_len h (k := 6) (by decide)
  have hD := (fm_all h).2.2.2.2.2.2.2.2.1
  obtain ⟨h0, h2, _⟩ := fineD_iff.1 hD
  have h3 := joinB_len (c := 44) (k := 7) ((r.day.take j).map dt) (fun x hx => by
    obtain ⟨n, hn, rfl⟩ := List.mem_map.1 hx
    exact dt_len (h2 n (List.mem_of_mem_take hn)))
  rw [List.length_map] at h3
  have h4 : (r.day.take j).length ≤ 40 := by rw [List.length_take]; omega
  have h5 : (r.day.take j).length * (7 + 1) ≤ 40 * (7 + 1) := Nat.mul_le_mul_right _ h4
  unfold dj
  rw [List.length_append]
  split
  · simp; omega
  · rw [List.length_cons, List.length_append, List.length_cons]
    have : nBYDAY.length = 5 := rfl
    omega
end Rm
set_option maxRecDepth 100000 in
set_option maxHeartbeats 4000000 in
theorem rprint_no (V : Rm.Rv) (w : World) (hM : RuM w w.heap.size V) (hz : V.z.size ≤ 9223372036854775807) (hd : V.day.n ≤ 140737488355328) (hn : ∀ i, i < 8 → (V.sl i).n ≤ 140737488355328) (h : Rm.fm V.r = false) :
    Calls Tryz.prog 10 #[.agg V.val] w fun e w' => e = .returned (.tuple #[.string ⟨#[]⟩, .int .i64 10]) ∧ Gr w w' := by
  have hg0 : Gr w (w.alloc (.cells V.val 27)) := (Gr.refl w).allocO _
  have cF := rformed_any V _ (hM.gr hg0) hz hd hn
  have hbx := RBx.now w V 27
  rw [h] at cF
  clear h hM hz hn
  go_enter Tryz.func10, Tryz.ntmps10
  go_wp2_with (first | (refine wpList_load_rule rfl _ rfl rfl hbx ?_) | (go_at_call 20; refine cF.mono ?_; rintro e w1 ⟨rfl, hg⟩))
  go_ret2
  exact ⟨rfl, hg0.trans hg⟩
set_option maxRecDepth 100000 in
set_option maxHeartbeats 8000000 in
theorem rprint_yes (V : Rm.Rv) (w : World) (hM : RuM w w.heap.size V) (hz : V.z.size ≤ 9223372036854775807) (hd : V.day.n ≤ 140737488355328) (hn : ∀ i, i < 8 → (V.sl i).n ≤ 140737488355328) (h : Rm.fm V.r = true) :
    Calls Tryz.prog 10 #[.agg V.val] w fun e w' => e = .returned (.tuple #[.string ⟨(Rm.ru V.r).toArray⟩, .int .i64 0]) ∧ Gr w w' := by
  have hg0 : Gr w (w.alloc (.cells V.val 27)) := (Gr.refl w).allocO _
  have cF := rformed_any V _ (hM.gr hg0) hz hd hn
  have hbx := RBx.now w V 27
  have cL := fun w' => reflists_any V w'
  rw [h] at cF
  obtain ⟨⟨a1, a2⟩, ⟨b1, b2⟩, ⟨c1, c2⟩, ⟨d1, d2⟩, hU, _⟩ := Rm.fm_all h
  have HF := Lib.hid h
  have HM := Lib.hid hM
  have HU := Lib.hid hU
  have HSZ := Lib.hid (fun k (hk : k < 14) => Rm.rs_len h hk)
  have HR := Lib.hid (Rm.rs_ru h)
  generalize Rm.ru V.r = J at *
  clear hM hz hn hU h
  go_enter Tryz.func10, Tryz.ntmps10
  go_upto_region 3 with (first | (refine wpList_load_rule rfl _ rfl rfl hbx ?_) | (go_at_call 20; refine cF.mono ?_; rintro e w1 ⟨rfl, hg1⟩))
  have hgw := hg0.trans hg1
  have hbx := hbx.gr hg1
  clear cF hg0 hg1
  obtain ⟨j, hj⟩ := Int.eq_ofNat_of_zero_le (show 0 ≤ V.r.freq - 1 by omega)
  have hj4 : j < 4 := by omega
  have cQ := fun w' => rfreq_any j hj4 w'
  have hfq : V.r.freq = (j : Int) + 1 := by omega
  have e0 := hbx.c0
  have HB := Lib.hid hbx
  have HZ0 := Lib.hid (show (ByteArray.mk #[70, 82, 69, 81, 61] ++ ByteArray.mk (Rm.freqT V.r.freq).toArray).data.toList = Rm.rs V.r 0 from by rw [Rm.rs_zero]; simp [ByteArray.data_append]; rfl)
  have hzf : (ByteArray.mk (Rm.freqT V.r.freq).toArray).size ≤ 7 := by rw [Lib.size_eq]; exact Rm.freqT_len _
  rw [← hfq] at cQ
  clear hbx hfq hj
  generalize Value.agg V.val = vv
  generalize ByteArray.mk (Rm.freqT V.r.freq).toArray = fT at *
  go_upto_region 4 with (go_at_call 21; refine (cQ _).mono ?_; rintro e w' ⟨rfl, rfl⟩)
  obtain ⟨s, hs⟩ : ∃ s, ByteArray.mk #[70, 82, 69, 81, 61] ++ fT = s := ⟨_, rfl⟩
  rw [hs] at HZ0
  rw [hs]
  clear hs hzf cQ e0
  have hsz : s.size ≤ 4648 := by rw [Lib.size_eq, HZ0.out]; exact HSZ.out 0 (by decide)
  have e0 := HB.out.c1
  go_upto_if 18 with fail
  go_cut [4] from 16 (fun v wx => ∃ s : ByteArray, v = .string s ∧ s.size ≤ 4648 ∧ Hid (s.data.toList = Rm.rs V.r 1) ∧ Gr w1 wx)
  case first =>
    as_aux_lemma =>
    have HSK := Lib.hid (HSZ.out 1 (by decide))
    by_cases hx : V.r.ivl = 1
    · have HE := Lib.hid (show s.data.toList = Rm.rs V.r 1 from by rw [Rm.rs_skip (show Rm.tx V.r 1 = [] from if_pos hx)]; exact HZ0.out)
      rw [hx] at e0
      clear HZ0
      have hdb : (V.r.ivl != 1) = false := by rw [hx]; rfl
      clear hx
      generalize V.r.ivl = x at *
      go_wp2
      go_meet
      case rel => exact ⟨s, rfl, hsz, HE, Gr.refl _⟩
    · have cN := fun w' => rnum_any V.r.ivl w' (by omega) (by omega)
      have hzn : (ByteArray.mk (Rm.nt V.r.ivl).toArray).size ≤ 5 := by rw [Lib.size_eq]; exact Rm.nt_len (by omega) (by omega)
      have HE := Lib.hid (show (s ++ ByteArray.mk #[59, 73, 78, 84, 69, 82, 86, 65, 76, 61] ++ ByteArray.mk (Rm.nt V.r.ivl).toArray).data.toList = Rm.rs V.r 1 from by
        have e : Rm.tx V.r 1 = Rm.nt V.r.ivl := if_neg hx
        rw [Rm.rs_step (by rw [e]; exact Rm.nt_ne (by omega) (by omega)), e, ← HZ0.out]
        simp [ByteArray.data_append]
        rfl)
      have hdb : (V.r.ivl != 1) = true := by simpa using hx
      clear hx HZ0
      generalize ByteArray.mk (Rm.nt V.r.ivl).toArray = t at *
      generalize V.r.ivl = x at *
      have hp1 : (s ++ ByteArray.mk #[59, 73, 78, 84, 69, 82, 86, 65, 76, 61]).size ≤ 4660 := by rw [ByteArray.size_append]; show _ + 10 ≤ 4660; omega
      go_wp2_with (go_at_call 22; refine (cN _).mono ?_; rintro e w2 ⟨rfl, hg2⟩)
      go_meet
      case rel => exact ⟨_, rfl, by rw [Lib.size_eq, HE.out]; exact HSK.out, HE, hg2⟩
  case rest =>
  obtain ⟨s1, rfl, hsz, HZ1, hgc⟩ := hcut
  clear e0 HZ0
  have hgw := hgw.trans hgc
  have HB := Lib.hid (HB.out.gr hgc)
  clear hgc
  generalize wc = w1 at *
  generalize s1 = s at *
  have e0 := HB.out.c2
  go_upto_if 27 with fail
  go_cut [4] from 25 (fun v wx => ∃ s : ByteArray, v = .string s ∧ s.size ≤ 4648 ∧ Hid (s.data.toList = Rm.rs V.r 2) ∧ Gr w1 wx)
  case first =>
    as_aux_lemma =>
    have HSK := Lib.hid (HSZ.out 2 (by decide))
    by_cases hx : V.r.cnt = 0
    · have HE := Lib.hid (show s.data.toList = Rm.rs V.r 2 from by rw [Rm.rs_skip (show Rm.tx V.r 2 = [] from if_pos hx)]; exact HZ1.out)
      rw [hx] at e0
      clear HZ1
      have hdb : (V.r.cnt != 0) = false := by rw [hx]; rfl
      clear hx
      generalize V.r.cnt = x at *
      go_wp2
      go_meet
      case rel => exact ⟨s, rfl, hsz, HE, Gr.refl _⟩
    · have cN := fun w' => rnum_any V.r.cnt w' (by omega) (by omega)
      have hzn : (ByteArray.mk (Rm.nt V.r.cnt).toArray).size ≤ 5 := by rw [Lib.size_eq]; exact Rm.nt_len (by omega) (by omega)
      have HE := Lib.hid (show (s ++ ByteArray.mk #[59, 67, 79, 85, 78, 84, 61] ++ ByteArray.mk (Rm.nt V.r.cnt).toArray).data.toList = Rm.rs V.r 2 from by
        have e : Rm.tx V.r 2 = Rm.nt V.r.cnt := if_neg hx
        rw [Rm.rs_step (by rw [e]; exact Rm.nt_ne (by omega) (by omega)), e, ← HZ1.out]
        simp [ByteArray.data_append]
        rfl)
      have hdb : (V.r.cnt != 0) = true := by simpa using hx
      clear hx HZ1
      generalize ByteArray.mk (Rm.nt V.r.cnt).toArray = t at *
      generalize V.r.cnt = x at *
      have hp1 : (s ++ ByteArray.mk #[59, 67, 79, 85, 78, 84, 61]).size ≤ 4660 := by rw [ByteArray.size_append]; show _ + 7 ≤ 4660; omega
      go_wp2_with (go_at_call 22; refine (cN _).mono ?_; rintro e w2 ⟨rfl, hg2⟩)
      go_meet
      case rel => exact ⟨_, rfl, by rw [Lib.size_eq, HE.out]; exact HSK.out, HE, hg2⟩
  case rest =>
  obtain ⟨s2, rfl, hsz, HZ2, hgc⟩ := hcut
  clear e0 HZ1
  have hgw := hgw.trans hgc
  have HB := Lib.hid (HB.out.gr hgc)
  clear hgc
  generalize wc = w1 at *
  generalize s2 = s at *
  have e6 := HB.out.c6
  go_upto_if 35 with fail
  go_cut [4] from 34 (fun v wx => ∃ s : ByteArray, v = .string s ∧ s.size ≤ 4648 ∧ Hid (s.data.toList = Rm.rs V.r 3) ∧ Gr w1 wx)
  case first =>
    as_aux_lemma =>
    have HSK := Lib.hid (HSZ.out 3 (by decide))
    rcases hh : V.r.has
    · have HE := Lib.hid (show s.data.toList = Rm.rs V.r 3 from by rw [Rm.rs_skip (show Rm.tx V.r 3 = [] from if_pos hh)]; exact HZ2.out)
      rw [hh] at e6
      clear HZ2 hh
      go_wp2
      go_meet
      case rel => exact ⟨s, rfl, hsz, HE, Gr.refl _⟩
    · have hrt : Va.rt V.r.uk V.r.ua V.z.data.toList = true := by
        have h := HU.out
        unfold Rm.fmU at h
        rw [if_pos hh, Bool.and_eq_true, Bool.and_eq_true] at h
        rw [HM.out.z]
        exact h.1.2
      have cT := fun w' => rtime_any V.r.uk V.r.ua V.z w' (Va.rt_ok hrt)
      have hzn : (ByteArray.mk (Va.txt V.r.uk V.r.ua).toArray).size ≤ 16 := by rw [Lib.size_eq]; exact Rm.txt_len _ _
      have HE := Lib.hid (show (s ++ ByteArray.mk #[59, 85, 78, 84, 73, 76, 61] ++ ByteArray.mk (Va.txt V.r.uk V.r.ua).toArray).data.toList = Rm.rs V.r 3 from by
        have e : Rm.tx V.r 3 = Va.txt V.r.uk V.r.ua := if_neg (by rw [hh]; decide)
        rw [Rm.rs_step (by rw [e]; exact Rm.txt_ne _ _), e, ← HZ2.out]
        simp [ByteArray.data_append]
        rfl)
      have e3 := HB.out.c3
      have e4 := HB.out.c4
      have e5 := HB.out.c5
      rw [hh] at e6
      clear hh HZ2 hrt
      generalize ByteArray.mk (Va.txt V.r.uk V.r.ua).toArray = t at *
      generalize V.r.uk = x1 at *
      generalize V.r.ua = x2 at *
      generalize V.z = x3 at *
      have hp1 : (s ++ ByteArray.mk #[59, 85, 78, 84, 73, 76, 61]).size ≤ 4660 := by rw [ByteArray.size_append]; show _ + 7 ≤ 4660; omega
      go_wp2_with (go_at_call 23; refine (cT _).mono ?_; rintro e w2 ⟨rfl, hg2⟩)
      go_meet
      case rel => exact ⟨_, rfl, by rw [Lib.size_eq, HE.out]; exact HSK.out, HE, hg2⟩
  case rest =>
  obtain ⟨s3, rfl, hsz, HZ3, hgc⟩ := hcut
  clear e6 HZ2
  have hgw := hgw.trans hgc
  have hbx := HB.out.gr hgc
  clear hgc HB HU
  generalize wc = w1 at *
  generalize s3 = s at *
  go_upto_region 11 with (first | (refine wpList_load_rule rfl _ rfl rfl hbx ?_) | (go_at_call 16; refine (cL _).mono ?_; rintro e w2 ⟨rfl, hg2⟩) | (refine wpList_store_row rfl 37 (.tmp 5) (.tmp 43) rfl w2.heap.size (Rm.arr8 V) rfl rfl 37 _ (heap_alloc_new _ _) info_arr8 rfl (arr8_one V) ?_; rw [World.setRow_alloc_new]))
  have hg3 : Gr w2 (w2.alloc (.cells (Rm.arr8 V) 37)) := (Gr.refl _).allocO _
  have hcA := fun k hk => arr8_cell (k := k) (heap_alloc_new w2 (.cells (Rm.arr8 V) 37)) hk
  have HC8 := Lib.hid hcA
  have hgX := (hgw.trans hg2).trans hg3
  have hbX := (hbx.gr hg2).gr hg3
  generalize Value.agg (Rm.arr8 V) = va
  generalize Value.agg V.val = vb
  clear hcA hg2 hg3 hgw hbx cL
  generalize w2.alloc (.cells (Rm.arr8 V) 37) = X at *
  have HBX := Lib.hid hbX
  clear hbX
  have cNm := Lib.hid (show ∀ (i : Nat) (hi : i < 8) (w' : World), Gr w w' → Calls Tryz.prog 24 #[.int .i64 (i : Int), .slice (V.sl i).A (V.sl i).n (V.sl i).c] w' fun e w'' => e = .returned (.string ⟨(Rm.nmb i (V.r.ls i)).toArray⟩) ∧ Gr w' w'' from fun i hi w' hg => by
    have hf := Rm.fine_iff.1 (Rm.fine_at HF.out i hi)
    have hN := HM.out.l i hi
    refine rnumbers_any i hi _ _ _ _ w' (hN.gr hg) ?_ (fun x hx => Rm.may_bd (hf.2.1 x hx))
    have h1 := hN.1
    have h2 := hf.1
    omega)
  have HNZ := Lib.hid (show ∀ i, i < 8 → (ByteArray.mk (Rm.nmb i (V.r.ls i)).toArray).size ≤ 6012 from fun i hi => by
    have hf := Rm.fine_iff.1 (Rm.fine_at HF.out i hi)
    have h2 := hf.1
    rw [Lib.size_eq]
    exact Rm.nmb_len hi (by omega) (fun x hx => Rm.may_bd (hf.2.1 x hx)))
  have GRX : Gr X X := Gr.refl X
  go_wp2
  go_loopg [4, 44] 8 (fun g v4 v wx => ∃ (i : Nat) (s : ByteArray), v = .int .i64 (i : Int) ∧ v4 = .string s ∧ i + g = 8 ∧ 0 ≤ i ∧ i ≤ 3 ∧ s.size ≤ 4648 ∧ Gr X wx ∧ Hid (s.data.toList = Rm.rs V.r (i + 3)))
  case atStart => exact ⟨0, s, rfl, rfl, rfl, by decide, by decide, hsz, Gr.refl _, HZ3⟩
  case round =>
    obtain ⟨i, s, rfl, rfl, hig, hi0, hi3, hsz, hg, HS⟩ := hrel
    have HG := Lib.hid hig
    clear hig
    have HI0 := Lib.hid hi0
    by_cases hi : i < 3
    · as_aux_lemma =>
      have hkn : (i : Int) < 3 := by omega
      have hk8 : (i : Int) < 8 := by omega
      have hc := gr_cell (GRX.trans hg) (HC8.out i (by omega))
      have cN := cNm.out i (by omega) wr ((hgX.trans GRX).trans hg)
      have hzn := HNZ.out i (by omega)
      have HSK := Lib.hid (HSZ.out (i + 3 + 1) (by omega))
      have HE := Lib.hid (show (s ++ ByteArray.mk (Rm.nmb i (V.r.ls i)).toArray).data.toList = Rm.rs V.r (i + 3 + 1) from by
        rw [Rm.rs_nmb HF.out (show i < 8 by omega) (k := i + 3) (by
          rcases (show i = 0 ∨ i = 1 ∨ i = 2 by omega) with rfl | rfl | rfl <;> rfl), ← HS.out]
        simp [ByteArray.data_append])
      generalize ByteArray.mk (Rm.nmb i (V.r.ls i)).toArray = t at *
      generalize (V.sl i).A = A at *
      generalize (V.sl i).n = n at *
      generalize (V.sl i).c = c at *
      clear HS
      go_wp2_with (go_at_call 24; refine cN.mono ?_; rintro e w3 ⟨rfl, hg3⟩)
      go_roundg (8 - (i + 1))
      case measure => have := HG.out; omega
      case rel => exact ⟨i + 1, _, by go_num, rfl, by have := HG.out; omega, by omega, by omega, by rw [Lib.size_eq, HE.out]; exact HSK.out, hg.trans hg3, Lib.hid (by rw [HE.out, show i + 3 + 1 = i + 1 + 3 by omega])⟩
    · obtain rfl : i = 3 := by omega
      have hgd := GRX.trans hg
      have hbd := HBX.out.gr hgd
      have c11 := hbd.c11
      have hN := HM.out.d
      have hgwD := hgX.trans hgd
      have hfD := Rm.fineD_iff.1 (Rm.fm_all HF.out).2.2.2.2.2.2.2.2.1
      have hn40 : V.day.n ≤ 40 := by
        have h1 := hN.1
        have h2 := hfD.1
        omega
      have HMD := Lib.hid hfD.2.1
      have HDL := Lib.hid (Rm.dj_len HF.out)
      have HDA := Lib.hid (show Rm.dj V.r V.day.n = Rm.rs V.r 7 from by rw [← hN.1]; exact Rm.dj_all HF.out)
      have HLL := Lib.hid hN.1
      have HS6 := Lib.hid (show s.data.toList = Rm.dj V.r 0 from by rw [Rm.dj_zero]; exact HS.out)
      have HBD := Lib.hid hbd
      clear hfD hbd HS
      generalize V.day.A = A at *
      generalize V.day.n = n at *
      generalize V.day.c = c at *
      generalize wr = wo at *
      go_wp2
      go_loopg [4, 58] n (fun g v4 v wx => ∃ (j : Nat) (s : ByteArray), v = .int .i64 (j : Int) ∧ v4 = .string s ∧ j + g = n ∧ s.size ≤ 5100 ∧ Gr wo wx ∧ Hid (s.data.toList = Rm.dj V.r j))
      case atStart => exact ⟨0, s, rfl, rfl, by omega, by omega, Gr.refl _, HS6⟩
      case round =>
        obtain ⟨j, s, rfl, rfl, hjg, hsz, hgi, HS⟩ := hrel
        have HJ := Lib.hid hjg
        clear hjg
        by_cases hj : j < n
        · obtain ⟨ad, hj', rfl, hbl, hc0, hc1⟩ := hN.at_ hj
          have hgwi := hgwD.trans hgi
          have d0 := gr_cell hgwi hc0
          have d1 := gr_cell hgwi hc1
          have ds := gr_cell hgi c11
          dsimp only [dv1, dv2] at d0 d1
          have hjn : (j : Int) < (n : Int) := by omega
          have hmd := Rm.mayD_iff.1 (HMD.out _ (List.getElem_mem hj'))
          have hq0 := hmd.1
          have hq1 := hmd.2.1
          have cN := fun w' => rnum_any (V.r.day[j]).1 w' (by omega) (by omega)
          have hzn : (ByteArray.mk (Rm.nt (V.r.day[j]).1).toArray).size ≤ 5 := by rw [Lib.size_eq]; exact Rm.nt_len (by omega) (by omega)
          obtain ⟨dd, hdd⟩ := Int.eq_ofNat_of_zero_le hq0
          have cW := fun w' => rwd_any dd (by omega) w'
          rw [← hdd] at cW
          have hzw : (ByteArray.mk (Rm.wd (V.r.day[j]).2).toArray).size ≤ 2 := by rw [Lib.size_eq]; exact Nat.le_of_eq (Rm.wd_len hq0 hq1)
          have HSK := Lib.hid (HDL.out (j + 1))
          have HD1 := Lib.hid (show ∀ x : List UInt8, x = (if j = 0 then Rm.rs V.r 6 ++ 59 :: (Rm.nBYDAY ++ 61 :: Rm.dt V.r.day[j]) else Rm.dj V.r j ++ 44 :: Rm.dt V.r.day[j]) → x = Rm.dj V.r (j + 1) from fun x hx => by
            rw [hx]
            by_cases h : j = 0
            · subst h
              rw [if_pos rfl, Rm.dj_one V.r hj']
            · rw [if_neg h, Rm.dj_next V.r hj' (by omega)])
          clear hmd hdd hq0 hq1 hN hc0 hc1
          obtain ⟨L, pre, hL, hLz, hbr⟩ : ∃ (L : ByteArray) (pre : Bool), (if j = 0 then L = ByteArray.mk #[59, 66, 89, 68, 65, 89, 61] else L = ByteArray.mk #[44]) ∧ L.size ≤ 7 ∧ pre = decide (j = 0) := by
            by_cases h : j = 0
            · exact ⟨ByteArray.mk #[59, 66, 89, 68, 65, 89, 61], true, by rw [if_pos h], by decide, by simp [h]⟩
            · exact ⟨ByteArray.mk #[44], false, by rw [if_neg h], by decide, by simp [h]⟩
          have HTX := Lib.hid (show ∀ t : List UInt8, t = Rm.dt V.r.day[j] → (s.data.toList ++ L.data.toList ++ t) = Rm.dj V.r (j + 1) from fun t ht => by
            refine HD1.out _ ?_
            by_cases h : j = 0
            · subst h
              rw [if_pos rfl] at hL
              rw [if_pos rfl, hL, HS.out, Rm.dj_zero, ht, List.append_assoc]
              rfl
            · rw [if_neg h] at hL
              rw [if_neg h, hL, HS.out, ht, List.append_assoc]
              rfl)
          have hp1 : (s ++ L).size ≤ 5110 := by rw [ByteArray.size_append]; omega
          have hdt : Rm.dt V.r.day[j] = (if (V.r.day[j]).1 = 0 then [] else Rm.nt (V.r.day[j]).1) ++ Rm.wd (V.r.day[j]).2 := rfl
          have HDT := Lib.hid hdt
          clear hdt HD1 HS
          go_upto_if 62 with fail
          go_cut [4] from 63 to 66 (fun v wx => v = .string (s ++ L) ∧ wr = wx)
          case first =>
            as_aux_lemma =>
            by_cases h : j = 0
            · rw [if_pos h] at hL
              subst h
              subst hL
              clear HTX HDT
              go_wp2
              go_meet
              case rel => exact ⟨rfl, rfl⟩
            · rw [if_neg h] at hL
              subst hL
              have hjb : ((j : Int) == 0) = false := by rw [beq_eq_false_iff_ne]; omega
              clear HTX HDT
              go_wp2
              go_meet
              case rel => exact ⟨rfl, rfl⟩
          case rest =>
          obtain ⟨rfl, rfl⟩ := hcut
          clear hL hbr
          generalize hsL : s ++ L = sL at *
          have HSL := Lib.hid (show sL.data.toList = s.data.toList ++ L.data.toList from by rw [← hsL, ByteArray.data_append, Array.toList_append])
          rw [← HSL.out] at HTX
          clear hsL HSL
          by_cases hx : (V.r.day[j]).1 = 0
          · as_aux_lemma =>
            rw [if_pos hx, List.nil_append] at HDT
            have HE := Lib.hid (show (sL ++ ByteArray.mk (Rm.wd (V.r.day[j]).2).toArray).data.toList = Rm.dj V.r (j + 1) from by rw [← HTX.out _ HDT.out.symm]; simp [ByteArray.data_append])
            rw [hx] at d0
            clear hx HTX HDT cN hzn
            generalize ByteArray.mk (Rm.wd (V.r.day[j]).2).toArray = t at *
            generalize (V.r.day[j]).2 = x2 at *
            go_wp2_with (go_at_call 25; refine (cW _).mono ?_; rintro e w3 ⟨rfl, rfl⟩)
            go_roundg (n - (j + 1))
            case measure => have := HJ.out; omega
            case rel => exact ⟨j + 1, _, by go_num, rfl, by omega, by rw [Lib.size_eq, HE.out]; exact HSK.out, hgi, HE⟩
          · as_aux_lemma =>
            rw [if_neg hx] at HDT
            have HE := Lib.hid (show (sL ++ ByteArray.mk (Rm.nt (V.r.day[j]).1).toArray ++ ByteArray.mk (Rm.wd (V.r.day[j]).2).toArray).data.toList = Rm.dj V.r (j + 1) from by rw [← HTX.out _ HDT.out.symm]; simp [ByteArray.data_append])
            have hxb : ((V.r.day[j]).1 != 0) = true := by simpa using hx
            clear hx HTX HDT
            generalize ByteArray.mk (Rm.wd (V.r.day[j]).2).toArray = t at *
            generalize ByteArray.mk (Rm.nt (V.r.day[j]).1).toArray = t1 at *
            generalize (V.r.day[j]).2 = x2 at *
            generalize (V.r.day[j]).1 = x1 at *
            have hp2 : (sL ++ t1).size ≤ 5120 := by rw [ByteArray.size_append]; omega
            go_wp2_with (first | (go_at_call 22; refine (cN _).mono ?_; rintro e w2 ⟨rfl, hg2⟩; have d0 := gr_cell hg2 d0; have d1 := gr_cell hg2 d1; have ds := gr_cell hg2 ds) | (go_at_call 25; refine (cW _).mono ?_; rintro e w3 ⟨rfl, rfl⟩))
            go_roundg (n - (j + 1))
            case measure => have := HJ.out; omega
            case rel => exact ⟨j + 1, _, by go_num, rfl, by omega, by rw [Lib.size_eq, HE.out]; exact HSK.out, hgi.trans hg2, HE⟩
        · obtain rfl : j = n := by have := HJ.out; omega
          have HZ7 := Lib.hid (show s.data.toList = Rm.rs V.r (3 + 4) from by rw [← HDA.out]; exact HS.out)
          have hsz : s.size ≤ 4648 := by rw [Lib.size_eq, HZ7.out]; exact HSZ.out 7 (by decide)
          have GRX := hgd.trans hgi
          clear HS HS6 hN c11 HMD HDL HDA HLL
          generalize wr = wp at *
          go_wp2
          go_loopg [4, 8] 5 (fun g v4 v wx => ∃ (i : Nat) (s : ByteArray), v = .int .i64 (i : Int) ∧ v4 = .string s ∧ i + g = 8 ∧ 3 ≤ i ∧ i ≤ 8 ∧ s.size ≤ 4648 ∧ Gr wp wx ∧ Hid (s.data.toList = Rm.rs V.r (i + 4)))
          case atStart => exact ⟨3, s, rfl, rfl, rfl, by decide, by decide, hsz, Gr.refl _, HZ7⟩
          case round =>
            obtain ⟨i, s, rfl, rfl, hig, hi0, hi3, hsz, hg, HS⟩ := hrel
            have HG := Lib.hid hig
            clear hig
            have HI0 := Lib.hid hi0
            by_cases hi : i < 8
            · as_aux_lemma =>
              have hkn : (i : Int) < 8 := by omega
              have hk8 : (i : Int) < 8 := by omega
              have hc := gr_cell (GRX.trans hg) (HC8.out i (by omega))
              have cN := cNm.out i (by omega) wr ((hgX.trans GRX).trans hg)
              have hzn := HNZ.out i (by omega)
              have HSK := Lib.hid (HSZ.out (i + 4 + 1) (by omega))
              have HE := Lib.hid (show (s ++ ByteArray.mk (Rm.nmb i (V.r.ls i)).toArray).data.toList = Rm.rs V.r (i + 4 + 1) from by
                rw [Rm.rs_nmb HF.out (show i < 8 by omega) (k := i + 4) (by
                  rcases (show i = 3 ∨ i = 4 ∨ i = 5 ∨ i = 6 ∨ i = 7 by omega) with rfl | rfl | rfl | rfl | rfl <;> rfl), ← HS.out]
                simp [ByteArray.data_append])
              generalize ByteArray.mk (Rm.nmb i (V.r.ls i)).toArray = t at *
              generalize (V.sl i).A = A at *
              generalize (V.sl i).n = n at *
              generalize (V.sl i).c = c at *
              clear HS
              go_wp2_with (go_at_call 24; refine cN.mono ?_; rintro e w3 ⟨rfl, hg3⟩)
              go_roundg (8 - (i + 1))
              case measure => have := HG.out; omega
              case rel => exact ⟨i + 1, _, by go_num, rfl, by have := HG.out; omega, by omega, by omega, by rw [Lib.size_eq, HE.out]; exact HSK.out, hg.trans hg3, Lib.hid (by rw [HE.out, show i + 4 + 1 = i + 1 + 4 by omega])⟩
            · obtain rfl : i = 8 := by omega
              have HZ12 := Lib.hid (show s.data.toList = Rm.rs V.r 12 from HS.out)
              have hgz := GRX.trans hg
              have hgf := hgX.trans hgz
              have e7 := (HBX.out.gr hgz).c7
              clear HS
              obtain ⟨dd, hdd⟩ := Int.eq_ofNat_of_zero_le d1
              have cW := fun w' => rwd_any dd (by omega) w'
              rw [← hdd] at cW
              have HJ2 := Lib.hid (show s.data.toList ++ (if V.r.st = 1 then [] else 59 :: (Rm.nWKST ++ 61 :: Rm.wd V.r.st)) = J from by
                rw [← HR.out, HZ12.out]
                by_cases h : V.r.st = 1
                · rw [if_pos h, List.append_nil]
                  exact (Rm.rs_skip (k := 12) (if_pos h)).symm
                · rw [if_neg h]
                  have e : Rm.tx V.r 13 = Rm.wd V.r.st := if_neg h
                  rw [Rm.rs_step (k := 12) (by rw [e]; intro h0; have := Rm.wd_len d1 d2; rw [h0] at this; cases this), e]
                  rfl)
              have hzw : (ByteArray.mk (Rm.wd V.r.st).toArray).size ≤ 2 := by rw [Lib.size_eq]; exact Nat.le_of_eq (Rm.wd_len d1 d2)
              clear hdd
              by_cases hx : V.r.st = 1
              · as_aux_lemma =>
                rw [if_pos hx, List.append_nil] at HJ2
                rw [hx] at e7
                clear hx cW hzw HZ12
                go_wp2
                go_ret2
                exact ⟨by rw [← HJ2.out, Lib.mk_data]; rfl, hgf⟩
              · as_aux_lemma =>
                rw [if_neg hx] at HJ2
                have HE := Lib.hid (show s ++ ByteArray.mk #[59, 87, 75, 83, 84, 61] ++ ByteArray.mk (Rm.wd V.r.st).toArray = ByteArray.mk J.toArray from by
                  rw [← HJ2.out]
                  refine z_eq2 ?_
                  simp [ByteArray.data_append]
                  rfl)
                have hxb : (V.r.st != 1) = true := by simpa using hx
                clear hx HJ2 HZ12
                generalize ByteArray.mk (Rm.wd V.r.st).toArray = t at *
                generalize V.r.st = x at *
                have hp1 : (s ++ ByteArray.mk #[59, 87, 75, 83, 84, 61]).size ≤ 4660 := by rw [ByteArray.size_append]; show _ + 6 ≤ 4660; omega
                go_wp2_with (go_at_call 25; refine (cW _).mono ?_; rintro e w3 ⟨rfl, rfl⟩)
                go_ret2
                exact ⟨by rw [HE.out]; rfl, hgf⟩
end Go.Proofs.YtleeklcpbflfhaaGreatDoor
