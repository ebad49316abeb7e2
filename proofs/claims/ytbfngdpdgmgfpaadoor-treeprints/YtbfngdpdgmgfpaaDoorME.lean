/- The texts FdApp, FdFold, FdSplit, FdUnf, one behind the other. -/
import Derived.Test.YtbfngdpdgmgfpaaDoorMB
import Derived.Deep.Onto
namespace Go.Proofs.YtbfngdpdgmgfpaaDoor
open Go.RowKit

set_option maxHeartbeats 4000000 in
set_option maxRecDepth 100000 in
theorem appendFolded_any (B : Nat) (A : Option Addr) (n c : Nat) (l : List UInt8) (s : ByteArray) (w : World) (ht : Tab w) (h0 : 0 < B) (h1 : 1 < B) (hB : B ≤ w.heap.size)
    (hown : OwnV w B 5 A n c (bc l)) (hl : n ≤ 100000) (hs : s.size ≤ 100000) (hne : 0 < s.size) :
    Calls Tryd.prog 46 #[.slice A n c, .string s] w fun e w' => ∃ A' n' c', e = .returned (.slice A' n' c') ∧ OwnV w' B 5 A' n' c' (bc (l ++ Fd.line s.data.toList)) ∧ Below B w w' := by
  have hn : l.length = n := by simpa [bc] using hown.len
  have hsz := Lib.size_eq s
  have hsn : s.data.toList ≠ [] := by intro h; rw [h, List.length_nil] at hsz; omega
  have hfl := Fd.fit_le 75 s.data.toList
  have hfp := Fd.fit_pos 75 s.data.toList hsn (by omega)
  have hll := Fd.line_len s.data.toList
  have cF := fitting_any s 75 w ht (by omega) (by omega)
  have hle := Fd.line_eq s.data.toList
  rw [← hsz] at hfl hll
  obtain ⟨k0, hk0⟩ : ∃ k, Fd.fit 75 s.data.toList = k := ⟨_, rfl⟩
  rw [hk0] at hfl hfp hle cF
  have hfl1 := hfl.1
  obtain ⟨u0, hu0⟩ : ∃ u, s.extract 0 k0 = u := ⟨_, rfl⟩
  have hud : u0.data.toList = s.data.toList.take k0 := by rw [← hu0, extract_to]
  have hus : u0.size = k0 := by rw [Lib.size_eq, hud, List.length_take]; omega
  have HE := Lib.hid (And.intro hle (And.intro hsz (And.intro hud (And.intro hk0 hn))))
  clear hle hsz hud hk0 hn hsn hfl
  go_enter Tryd.func46, Tryd.ntmps46
  go_wp2_with (first
    | (go_at_call 67; refine cF.mono ?_; rintro e w1 ⟨rfl, hg1⟩)
    | (at_builtin; refine ap_text _ rfl (.tmp 8) (.tmp 11) rfl B A n c l rfl (hown.gr hg1) u0 rfl (by omega) (by have := hg1.lt; omega) ?_; intro A1 c1 w2 hown1 hb1))
  go_loopg [0, 1, 5] s.size (fun g v0 v1 v5 wx => ∃ A2 n2 c2 acc, ∃ t : ByteArray, ∃ k : Nat, v0 = .slice A2 n2 c2 ∧ v1 = .string t ∧ v5 = .int .i64 (k : Int) ∧ OwnV wx B 5 A2 n2 c2 (bc acc) ∧ Below B w wx ∧ Tab wx ∧ B ≤ wx.heap.size ∧
    t.size = g ∧ k ≤ t.size ∧ (0 < t.size → 1 ≤ k) ∧ t.size ≤ s.size ∧ Hid (acc ++ Fd.rest t.data.toList k ++ [13, 10] = l ++ Fd.line s.data.toList))
  case atStart =>
    rw [hus] at hown1
    refine ⟨_, _, _, _, s, k0, rfl, rfl, rfl, hown1, ((hg1.low hB).trans hb1), (ht.keep hg1).low hb1 h0 h1, ?_, rfl, hfl1, fun _ => hfp, Nat.le_refl _, ?_⟩
    · have := hg1.lt; have := hb1.size; omega
    · obtain ⟨e1, _, e3, _⟩ := HE.out
      exact Lib.hid (by rw [e1, e3]; simp)
  case round =>
    obtain ⟨A2, n2, c2, acc, t, k, rfl, rfl, rfl, hownr, hbr, htr, hBr, rfl, hkt, hkp, hts, HR⟩ := hrel
    have hacc : acc.length = n2 := by simpa [bc] using hownr.len
    have hRl := congrArg List.length HR.out
    simp only [List.length_append, List.length_cons, List.length_nil] at hRl
    have hnl := HE.out.2.2.2.2
    have htz := Lib.size_eq t
    by_cases hlt : k < t.size
    · have hrs := Fd.rest_step t.data.toList k (by omega)
      obtain ⟨t2, ht2⟩ : ∃ t2, t.extract k t.size = t2 := ⟨_, rfl⟩
      have htd : t2.data.toList = t.data.toList.drop k := by rw [← ht2, extract_from]
      have ht2s : t2.size = t.size - k := by rw [Lib.size_eq, htd, List.length_drop, ← htz]
      rw [← htd] at hrs
      have hk2l := Fd.fit_le 74 t2.data.toList
      have ht2n : t2.data.toList ≠ [] := by intro h; have := Lib.size_eq t2; rw [h, List.length_nil] at this; omega
      have hk2p := Fd.fit_pos 74 t2.data.toList ht2n (by omega)
      have cG := fitting_any t2 74 wr htr (by omega) (by omega)
      rw [← Lib.size_eq] at hk2l
      obtain ⟨k2, hk2⟩ : ∃ k2, Fd.fit 74 t2.data.toList = k2 := ⟨_, rfl⟩
      rw [hk2] at hk2l hk2p cG hrs
      have hk2m := hk2l.1
      obtain ⟨u, hu⟩ : ∃ u, t2.extract 0 k2 = u := ⟨_, rfl⟩
      have hud2 : u.data.toList = t2.data.toList.take k2 := by rw [← hu, extract_to]
      have hus2 : u.size = k2 := by rw [Lib.size_eq, hud2, List.length_take, ← Lib.size_eq]; omega
      rw [← hud2] at hrs
      have hrl := congrArg List.length hrs
      simp only [List.length_append, List.length_cons] at hrl
      rw [← Lib.size_eq u] at hrl
      have HX := Lib.hid (And.intro hrs (And.intro hacc hRl))
      have hbound : n2 + 3 + u.size ≤ 600000 := by omega
      clear hrs htd hk2 hud2 hrl hacc hRl hnl htz hk2l ht2n
      go_wp2_with (first
        | (go_at_call 67; refine cG.mono ?_; rintro e w3 ⟨rfl, hg3⟩)
        | (at_builtin; refine ap_text _ rfl (.tmp 22) (.const (.string ⟨#[13, 10, 32]⟩)) rfl B A2 n2 c2 acc rfl (hownr.gr hg3) ⟨#[13, 10, 32]⟩ rfl (by show n2 + 3 ≤ _; omega) (by have := hg3.lt; omega) ?_; intro A3 c3 w4 hown3 hb3)
        | (at_builtin; refine ap_text _ rfl (.tmp 24) (.tmp 27) rfl B A3 (n2 + 3) c3 _ rfl hown3 u rfl (by omega) (by have := hg3.lt; have := hb3.size; omega) ?_; intro A4 c4 w5 hown4 hb4))
      go_roundg t2.size
      case measure => omega
      case rel =>
        rw [hus2] at hown4
        have hbb := ((hg3.low hBr).trans hb3).trans hb4
        refine ⟨_, _, _, _, t2, k2, rfl, rfl, rfl, hown4, hbr.trans hbb, htr.low hbb h0 h1, by have := hbb.size; omega, rfl, hk2m, fun _ => hk2p, by omega, ?_⟩
        have e1 := HR.out
        rw [HX.out.1] at e1
        refine Lib.hid ?_
        rw [← e1]
        simp
    · have hre := Fd.rest_end t.data.toList k (by omega)
      have HX := Lib.hid hre
      have hb2 : n2 + 2 ≤ 600000 := by omega
      clear hre hRl hacc hnl htz
      go_wp2_with (at_builtin; refine ap_text _ rfl (.tmp 29) (.const (.string ⟨#[13, 10]⟩)) rfl B A2 n2 c2 acc rfl hownr ⟨#[13, 10]⟩ rfl (by show n2 + 2 ≤ _; omega) hBr ?_; intro A3 c3 w4 hown3 hb3)
      go_ret
      refine ⟨_, _, _, rfl, ?_, hbr.trans hb3⟩
      have e1 := HR.out
      rw [HX.out, List.append_nil] at e1
      rw [← e1]
      exact hown3
end Go.Proofs.YtbfngdpdgmgfpaaDoor
namespace Go.Proofs.YtbfngdpdgmgfpaaDoor
open Go.RowKit

namespace Fd
theorem all_take_fine (ls : List (List UInt8)) (k : Nat) (h : k < ls.length) (h0 : (ls.take k).all fine = true) (h1 : fine ls[k] = true) : (ls.take (k + 1)).all fine = true := by
  rw [List.take_succ_eq_append_getElem h, List.all_append, h0]; simp [h1]
theorem not_all_fine (ls : List (List UInt8)) (k : Nat) (h : k < ls.length) (h1 : fine ls[k] = false) : ls.all fine = false := by
  rw [List.all_eq_false]; exact ⟨ls[k], List.getElem_mem h, by simp [h1]⟩
theorem foldE_bad (ls : List (List UInt8)) (h : ls.all fine = false) : foldE ls = 5 ∧ foldT ls = [] := by
  have : foldE ls = 5 := by unfold foldE; rw [if_pos h]
  exact ⟨this, by unfold foldT; rw [this]; simp⟩
theorem foldE_long (ls : List (List UInt8)) (h : ls.all fine = true) (hl : long ls = true) : foldE ls = 4 ∧ foldT ls = [] := by
  have : foldE ls = 4 := by unfold foldE; rw [if_neg (by simp [h]), if_pos hl]
  exact ⟨this, by unfold foldT; rw [this]; simp⟩
theorem foldE_ok (ls : List (List UInt8)) (h : ls.all fine = true) (hl : long ls = false) : foldE ls = 0 ∧ foldT ls = all ls := by
  have : foldE ls = 0 := by unfold foldE; rw [if_neg (by simp [h]), if_neg (by simp [hl])]
  exact ⟨this, by unfold foldT; rw [this]; simp⟩
end Fd

set_option maxHeartbeats 4000000 in
set_option maxRecDepth 100000 in
theorem fold_any (A : Option Addr) (n c : Nat) (ls : List (List UInt8)) (w : World) (ht : Tab w) (hS : Strs w w.heap.size A n ls) (hn : n ≤ 40000) (hlen : ∀ l ∈ ls, l.length ≤ 40000) :
    Calls Tryd.prog 27 #[.slice A n c] w fun e w' => e = .returned (.tuple #[.string ⟨(Fd.foldT ls).toArray⟩, .int .i64 (Fd.foldE ls)]) ∧ Gr w w' := by
  have hl : ls.length = n := hS.1
  have HL := Lib.hid hl
  have hlt0 := ht.lt
  clear hl
  go_enter Tryd.func27, Tryd.ntmps27
  go_wp2
  go_loopg [11] n (fun g v wx => ∃ k : Nat, v = .int .i64 (k : Int) ∧ k + g = n ∧ Gr w wx ∧ (ls.take k).all Fd.fine = true)
  case atStart => exact ⟨0, rfl, by omega, Gr.refl _, by simp⟩
  case round =>
    obtain ⟨k, rfl, hkg, hg, hf⟩ := hrel
    have HG := Lib.hid (And.intro hkg hf)
    by_cases hk : k < n
    · obtain ⟨ad, hk', rfl, hbl, hcell⟩ := (hS.keep hg.below).at_ hk
      have hle := hlen _ (List.getElem_mem hk')
      have cF := foldable_any ⟨ls[k].toArray⟩ wr (by rw [size_mk]; omega)
      have ed : (ByteArray.mk ls[k].toArray).data.toList = ls[k] := rfl
      rw [ed] at cF
      have HN := Lib.hid (fun h => Fd.not_all_fine ls k hk' h)
      have HY := Lib.hid (fun h => Fd.all_take_fine ls k hk' HG.out.2 h)
      obtain ⟨F, hF⟩ : ∃ F, Fd.fine ls[k] = F := ⟨_, rfl⟩
      rw [hF] at cF
      have HF := Lib.hid hF
      clear hF hkg hf ed hle
      generalize (ByteArray.mk ls[k].toArray) = s at *
      cases F
      · go_wp2_with (go_at_call 45; refine cF.mono ?_; rintro e w1 ⟨rfl, hg1⟩)
        go_ret2
        obtain ⟨e1, e2⟩ := Fd.foldE_bad ls (HN.out HF.out)
        rw [e1, e2]
        exact ⟨rfl, hg.trans hg1⟩
      · go_wp2_with (go_at_call 45; refine cF.mono ?_; rintro e w1 ⟨rfl, hg1⟩)
        go_roundg (n - (k + 1))
        case measure => have := HG.out.1; omega
        case rel => exact ⟨k + 1, by go_num, by omega, hg.trans hg1, HY.out HF.out⟩
    · have e1 : ls.take k = ls := List.take_of_length_le (by rw [HL.out]; omega)
      rw [e1] at hf
      have HA := Lib.hid hf
      obtain rfl : k = n := by omega
      clear hf e1 hkg HG
      have htr := ht.keep hg
      go_wp2
      go_loopg [6, 21] k (fun g v6 v wx => ∃ A2 n2 c2, ∃ j : Nat, v6 = .slice A2 n2 c2 ∧ v = .int .i64 (j : Int) ∧ j + g = k ∧ Below w.heap.size w wx ∧ w.heap.size ≤ wx.heap.size ∧ Tab wx ∧ OwnV wx w.heap.size 5 A2 n2 c2 (bc (Fd.all (ls.take j))) ∧ Hid (Fd.long (ls.take j) = false))
      case atStart => exact ⟨_, _, _, 0, rfl, rfl, by omega, hg.below, hg.lt, htr, OwnV.nil _ _ _, Lib.hid (by simp [Fd.long, Fd.all])⟩
      case round =>
        obtain ⟨A2, n2, c2, j, rfl, rfl, hjg, hb2, hsz2, ht2, hown2, HLo⟩ := hrel
        have HJ := Lib.hid hjg
        have hn2 : (Fd.all (ls.take j)).length = n2 := by simpa [bc] using hown2.len
        have hn20 : n2 ≤ 20000 := by
          have := HLo.out
          unfold Fd.long at this
          rw [Bool.or_eq_false_iff] at this
          have := this.2
          simp at this
          omega
        clear hjg
        by_cases hj : j < k
        · obtain ⟨ad, hj', rfl, hbl, hcell⟩ := (hS.keep hb2).at_ hj
          have hle := hlen _ (List.getElem_mem hj')
          have hls := Fd.long_succ ls j hj' HLo.out
          have has := Fd.all_take_succ ls j hj'
          have hfj : Fd.fine ls[j] = true := List.all_eq_true.1 HA.out _ (List.getElem_mem hj')
          have hne : ls[j] ≠ [] := (Fd.fine_parts hfj).1
          have hz : (ByteArray.mk ls[j].toArray).size = ls[j].length := size_mk _
          have hpos : 0 < ls[j].length := List.length_pos_iff.2 hne
          have HX := Lib.hid (And.intro hls (And.intro has hn2))
          have ed : (ByteArray.mk ls[j].toArray).data.toList = ls[j] := rfl
          have cA := fun (h : ls[j].length ≤ 100000) => appendFolded_any w.heap.size A2 n2 c2 (Fd.all (ls.take j)) ⟨ls[j].toArray⟩ wr ht2 hlt0.1 hlt0.2 hsz2 hown2 (by omega) (by rw [hz]; exact h) (by rw [hz]; exact hpos)
          have cA := cA (by omega)
          rw [ed] at cA
          rw [← hz] at hpos hle
          have HZ := Lib.hid hz
          clear hls has hne hfj hz ed hn2
          generalize (ByteArray.mk ls[j].toArray) = s at *
          by_cases h2000 : 2000 < s.size
          · go_wp2
            go_ret2
            have hl1 : Fd.long ls = true := Fd.long_take ls (j + 1) (by rw [HX.out.1, ← HZ.out]; simp [h2000])
            obtain ⟨e1, e2⟩ := Fd.foldE_long ls HA.out hl1
            rw [e1, e2]
            exact ⟨rfl, ⟨hb2⟩⟩
          · go_wp2_with (go_at_call 46; refine cA.mono ?_; rintro e w3 ⟨A3, n3, c3, rfl, hown3, hb3⟩)
            · go_ret2
              have hh : 20000 < n3 := by omega
              have hln : (Fd.all (ls.take j) ++ Fd.line ls[j]).length = n3 := by simpa [bc] using hown3.len
              have hl1 : Fd.long ls = true := Fd.long_take ls (j + 1) (by rw [HX.out.1, HX.out.2.1, hln]; simp [hh])
              obtain ⟨e1, e2⟩ := Fd.foldE_long ls HA.out hl1
              rw [e1, e2]
              exact ⟨rfl, ⟨hb2.trans hb3⟩⟩
            · go_roundg (k - (j + 1))
              case measure => have := HJ.out; omega
              case rel =>
                have hln : (Fd.all (ls.take j) ++ Fd.line ls[j]).length = n3 := by simpa [bc] using hown3.len
                refine ⟨_, _, _, j + 1, rfl, by go_num, by omega, hb2.trans hb3, by have := hb3.size; omega, ht2.low hb3 hlt0.1 hlt0.2, ?_, ?_⟩
                · rw [HX.out.2.1]; exact hown3
                · refine Lib.hid ?_
                  rw [HX.out.1, HX.out.2.1, hln, ← HZ.out]
                  simp
                  omega
        · obtain rfl : j = k := by have := HJ.out; omega
          have e1 : ls.take j = ls := List.take_of_length_le (by rw [HL.out]; omega)
          rw [e1] at hown2 HLo
          have hcv := conv_back hown2
          obtain ⟨f1, f2⟩ := Fd.foldE_ok ls HA.out HLo.out
          have HF := Lib.hid (And.intro f1 f2)
          clear e1 f1 f2 hn2
          go_wp2
          go_ret2
          rw [HF.out.1, HF.out.2]
          exact ⟨rfl, ⟨hb2⟩⟩
end Go.Proofs.YtbfngdpdgmgfpaaDoor
namespace Go.Proofs.YtbfngdpdgmgfpaaDoor
open Go.RowKit

namespace Fd
theorem bl_len (l : List UInt8) : (bl l).length ≤ l.length := by
  unfold bl; exact (List.takeWhile_prefix _).length_le
theorem tc_len (l : List UInt8) : (tc l).length ≤ l.length := by
  unfold tc; split
  · rw [List.length_dropLast]; omega
  · exact Nat.le_refl _
end Fd
set_option maxHeartbeats 4000000 in
set_option maxRecDepth 100000 in
theorem split_any (s : ByteArray) (w : World) (hs : s.size ≤ 20000) :
    Calls Tryd.prog 53 #[.string s] w fun e w' => ∃ A n c, e = .returned (.tuple #[.slice A n c, .int .i64 ((Fd.sp 0 s.data.toList).1 : Int)]) ∧ OwnV w' w.heap.size 9 A n c (sc (Fd.sp 0 s.data.toList).2) ∧ Gr w w' := by
  obtain ⟨R, hR⟩ : ∃ R, Fd.sp 0 s.data.toList = R := ⟨_, rfl⟩
  rw [hR]
  have HR := Lib.hid hR
  clear hR
  go_enter Tryd.func53, Tryd.ntmps53
  go_wp2
  go_loopg [0, 4] s.size (fun g v0 v4 wx => ∃ A2 n2 c2 ps, ∃ t : ByteArray, v0 = .string t ∧ v4 = .slice A2 n2 c2 ∧ OwnV wx w.heap.size 9 A2 n2 c2 (sc ps) ∧ Below w.heap.size w wx ∧ w.heap.size ≤ wx.heap.size ∧ t.size ≤ g ∧ t.size + n2 ≤ 20000 ∧ Hid (Fd.cmb ps (Fd.sp ps.length t.data.toList) = R))
  case atStart =>
    exact ⟨_, _, _, [], s, rfl, rfl, OwnV.nil _ _ _, Below.refl _ _, Nat.le_refl _, Nat.le_refl _, by omega, Lib.hid (by rw [Fd.cmb_nil _ (Fd.sp_err _ _)]; exact HR.out)⟩
  case round =>
    obtain ⟨A2, n2, c2, ps, t, rfl, rfl, hown2, hb2, hsz2, htg, htn, HC⟩ := hrel
    have hpl : ps.length = n2 := by simpa [sc] using hown2.len
    have HP := Lib.hid hpl
    clear hpl
    by_cases h0 : t.size = 0
    · have hem : t.toList.isEmpty = true := by rw [Lib.toList_data, isEmpty_size]; simp [h0]
      have htl : t.data.toList = [] := List.eq_nil_of_length_eq_zero (by rw [← Lib.size_eq]; exact h0)
      have hRe : R = (0, ps) := by rw [← HC.out, htl, Fd.cmb_end]
      subst hRe
      clear htl h0
      go_wp2
      go_ret2
      exact ⟨_, _, _, rfl, hown2, ⟨hb2⟩⟩
    · have hem : t.toList.isEmpty = false := by rw [Lib.toList_data, isEmpty_size]; simp [h0]
      have htl : t.data.toList ≠ [] := by intro h; have := Lib.size_eq t; rw [h, List.length_nil] at this; omega
      have cC := cut_any t wr (by omega)
      have HB := Lib.hid (fun n b => Fd.cmb_bad ps n t.data.toList htl b)
      have HG := Lib.hid (fun n b => Fd.cmb_good ps n t.data.toList htl b)
      have hal := Fd.al_len _ htl
      rw [← Lib.size_eq] at hal
      have hbl := Fd.bl_len t.data.toList
      have htc := Fd.tc_len (Fd.bl t.data.toList)
      rw [← Lib.size_eq] at hbl
      have cT := fun w => trim_any ⟨(Fd.bl t.data.toList).toArray⟩ w (by rw [size_mk]; omega)
      have cH := fun w => has_any ⟨(Fd.tc (Fd.bl t.data.toList)).toArray⟩ w
      have e1 : (ByteArray.mk (Fd.bl t.data.toList).toArray).data.toList = Fd.bl t.data.toList := rfl
      have e2 : (ByteArray.mk (Fd.tc (Fd.bl t.data.toList)).toArray).data.toList = Fd.tc (Fd.bl t.data.toList) := rfl
      rw [e1] at cT
      rw [e2] at cH
      have cK := fun h w => continues_any ⟨(Fd.tc (Fd.bl t.data.toList)).toArray⟩ w (by rw [size_mk]; exact h)
      rw [e2] at cK
      have hpe : (ByteArray.mk (Fd.tc (Fd.bl t.data.toList)).toArray).toList.isEmpty = (Fd.tc (Fd.bl t.data.toList)).isEmpty := by rw [Lib.toList_data]
      have HBP : Hid (Fd.badp t.data.toList = ((Fd.al t.data.toList).isEmpty || (Fd.tc (Fd.bl t.data.toList)).isEmpty || (Fd.tc (Fd.bl t.data.toList)).contains 13)) := Lib.hid rfl
      have hrs : (ByteArray.mk (Fd.al t.data.toList).tail.toArray).size = (Fd.al t.data.toList).tail.length := size_mk _
      have HRT : Hid ((ByteArray.mk (Fd.al t.data.toList).tail.toArray).data.toList = (Fd.al t.data.toList).tail) := Lib.hid rfl
      rw [← hrs] at hal
      clear e1 e2 hbl htc htl hrs
      generalize (ByteArray.mk (Fd.al t.data.toList).tail.toArray) = rest at *
      generalize (ByteArray.mk (Fd.bl t.data.toList).toArray) = bef at *
      obtain ⟨E, hE⟩ : ∃ E, (Fd.al t.data.toList).isEmpty = E := ⟨_, rfl⟩
      obtain ⟨M, hM⟩ : ∃ M, (Fd.tc (Fd.bl t.data.toList)).isEmpty = M := ⟨_, rfl⟩
      obtain ⟨C, hC⟩ : ∃ C, (Fd.tc (Fd.bl t.data.toList)).contains 13 = C := ⟨_, rfl⟩
      obtain ⟨T, hT⟩ : ∃ T, Fd.ct (Fd.tc (Fd.bl t.data.toList)) = T := ⟨_, rfl⟩
      rw [hE] at cC HBP
      rw [hM] at hpe HBP
      rw [hC] at cH HBP
      rw [hT] at cK HB HG
      have HPC : Hid (sc [Fd.tc (Fd.bl t.data.toList)] = [Value.string ⟨(Fd.tc (Fd.bl t.data.toList)).toArray⟩]) := Lib.hid rfl
      have HM := Lib.hid hM
      clear hE hM hC hT
      generalize (ByteArray.mk (Fd.tc (Fd.bl t.data.toList)).toArray) = pc at *
      cases E
      · cases M
        · have hpos : 0 < (Fd.tc (Fd.bl t.data.toList)).length := by
            have := HM.out
            exact List.length_pos_iff.2 (by simpa using this)
          have cK := cK hpos
          clear hpos
          cases C
          · by_cases hbad : n2 = 0 ∧ T = true
            · obtain ⟨rfl, rfl⟩ := hbad
              have hRe : R = (1, []) := by
                rw [← HC.out, HP.out]
                exact HB.out 0 (by rw [HBP.out]; rfl)
              subst hRe
              go_wp2_with (first
                | (go_at_call 76; refine cC.mono ?_; rintro e w3 ⟨rfl, hg3⟩)
                | (go_at_call 77; refine (cT _).mono ?_; rintro e w4 ⟨rfl, rfl⟩)
                | (go_at_call 78; refine (cH _).mono ?_; rintro e w5 ⟨rfl, rfl⟩)
                | (go_at_call 54; refine (cK _).mono ?_; rintro e w6 ⟨rfl, rfl⟩))
              go_ret2
              exact ⟨_, _, _, rfl, OwnV.nil _ _ _, ⟨hb2.trans (hg3.low hsz2)⟩⟩
            · have hgood : (Fd.badp t.data.toList || (decide (n2 = 0) && T)) = false := by
                rw [HBP.out]
                by_cases hz : n2 = 0
                · have : T = false := by cases T; rfl; exact absurd ⟨hz, rfl⟩ hbad
                  simp [this]
                · simp [hz]
              have HGG := Lib.hid (HG.out n2 hgood)
              clear hgood
              by_cases hz : n2 = 0
              · have hTf : T = false := by cases T; rfl; exact absurd ⟨hz, rfl⟩ hbad
                subst hTf hz
                go_wp2_with (first
                  | (go_at_call 76; refine cC.mono ?_; rintro e w3 ⟨rfl, hg3⟩)
                  | (go_at_call 77; refine (cT _).mono ?_; rintro e w4 ⟨rfl, rfl⟩)
                  | (go_at_call 78; refine (cH _).mono ?_; rintro e w5 ⟨rfl, rfl⟩)
                  | (go_at_call 54; refine (cK _).mono ?_; rintro e w6 ⟨rfl, rfl⟩)
                  | (at_builtin; refine ap_lit w3 rfl (.tmp 38) (.tmp 40) 60 9 (.string ⟨#[]⟩) 16 Tryd.underlying60 info_str rfl (by omega) rfl w.heap.size A2 0 c2 (sc ps) [.string pc] rfl (hown2.gr hg3) 1 1 rfl rfl (by intro u hu; simp at hu; subst hu; rfl) (by omega) (by have := hg3.lt; omega) ?_; intro A5 c5 w5 hown5 hb5))
                go_roundg rest.size
                case measure => omega
                case rel =>
                  have hbb := (hg3.low hsz2).trans hb5
                  refine ⟨A5, _, c5, ps ++ [Fd.tc (Fd.bl t.data.toList)], rest, rfl, rfl, ?_, hb2.trans hbb, by have := hbb.size; omega, Nat.le_refl _, by omega, Lib.hid ?_⟩
                  · rw [sc_append, HPC.out]; exact hown5
                  · rw [← HC.out, HP.out, HGG.out, HRT.out, List.length_append, HP.out]; rfl
              · have hz2 : ((n2 : Int) == 0) = false := by simp; omega
                go_wp2_with (first
                  | (go_at_call 76; refine cC.mono ?_; rintro e w3 ⟨rfl, hg3⟩)
                  | (go_at_call 77; refine (cT _).mono ?_; rintro e w4 ⟨rfl, rfl⟩)
                  | (go_at_call 78; refine (cH _).mono ?_; rintro e w5 ⟨rfl, rfl⟩)
                  | (at_builtin; refine ap_lit w3 rfl (.tmp 38) (.tmp 40) 60 9 (.string ⟨#[]⟩) 16 Tryd.underlying60 info_str rfl (by omega) rfl w.heap.size A2 n2 c2 (sc ps) [.string pc] rfl (hown2.gr hg3) 1 1 rfl rfl (by intro u hu; simp at hu; subst hu; rfl) (by omega) (by have := hg3.lt; omega) ?_; intro A5 c5 w5 hown5 hb5))
                go_roundg rest.size
                case measure => omega
                case rel =>
                  have hbb := (hg3.low hsz2).trans hb5
                  refine ⟨A5, _, c5, ps ++ [Fd.tc (Fd.bl t.data.toList)], rest, rfl, rfl, ?_, hb2.trans hbb, by have := hbb.size; omega, Nat.le_refl _, by omega, Lib.hid ?_⟩
                  · rw [sc_append, HPC.out]; exact hown5
                  · rw [← HC.out, HP.out, HGG.out, HRT.out, List.length_append, HP.out]; rfl
          · skip
            have hRe : R = (n2 + 1, []) := by
              rw [← HC.out, HP.out]
              exact HB.out n2 (by rw [HBP.out]; simp)
            subst hRe
            go_wp2_with (first
              | (go_at_call 76; refine cC.mono ?_; rintro e w3 ⟨rfl, hg3⟩)
              | (go_at_call 77; refine (cT _).mono ?_; rintro e w4 ⟨rfl, rfl⟩)
              | (go_at_call 78; refine (cH _).mono ?_; rintro e w5 ⟨rfl, rfl⟩))
            go_ret2
            exact ⟨_, _, _, rfl, OwnV.nil _ _ _, ⟨hb2.trans (hg3.low hsz2)⟩⟩
        · skip
          have hRe : R = (n2 + 1, []) := by
            rw [← HC.out, HP.out]
            exact HB.out n2 (by rw [HBP.out]; simp)
          subst hRe
          go_wp2_with (first
            | (go_at_call 76; refine cC.mono ?_; rintro e w3 ⟨rfl, hg3⟩)
            | (go_at_call 77; refine (cT _).mono ?_; rintro e w4 ⟨rfl, rfl⟩)
            | (go_at_call 78; refine (cH _).mono ?_; rintro e w5 ⟨rfl, rfl⟩))
          go_ret2
          exact ⟨_, _, _, rfl, OwnV.nil _ _ _, ⟨hb2.trans (hg3.low hsz2)⟩⟩
      · skip
        have hRe : R = (n2 + 1, []) := by
          rw [← HC.out, HP.out]
          exact HB.out n2 (by rw [HBP.out]; simp)
        subst hRe
        go_wp2_with (first
          | (go_at_call 76; refine cC.mono ?_; rintro e w3 ⟨rfl, hg3⟩)
          | (go_at_call 77; refine (cT _).mono ?_; rintro e w4 ⟨rfl, rfl⟩)
          | (go_at_call 78; refine (cH _).mono ?_; rintro e w5 ⟨rfl, rfl⟩))
        go_ret2
        exact ⟨_, _, _, rfl, OwnV.nil _ _ _, ⟨hb2.trans (hg3.low hsz2)⟩⟩
end Go.Proofs.YtbfngdpdgmgfpaaDoor
namespace Go.Proofs.YtbfngdpdgmgfpaaDoor
open Go.RowKit

namespace Fd
theorem sp_props (n : Nat) (s : List UInt8) : (∀ p ∈ (sp n s).2, p ≠ []) ∧ (sp n s).2.flatten.length ≤ s.length := by
  generalize hm : s.length = m
  induction m using Nat.strongRecOn generalizing s n with
  | _ m ih =>
    by_cases h : s = []
    · subst h; rw [sp_nil]; simp
    · have h1 := al_len s h
      by_cases b : (badp s || (decide (n = 0) && ct (tc (bl s)))) = true
      · rw [sp_bad n s h b]; simp
      · have b' : (badp s || (decide (n = 0) && ct (tc (bl s)))) = false := by simpa using b
        rw [sp_good n s h b']
        have i := ih (al s).tail.length (by omega) (n + 1) (al s).tail rfl
        split
        · constructor
          · intro p hp
            rcases List.mem_cons.1 hp with rfl | hp
            · rw [Bool.or_eq_false_iff] at b'
              unfold badp at b'
              simp at b'
              exact b'.1.1.2
            · exact i.1 p hp
          · simp only [List.flatten_cons, List.length_append]
            have h2 := tc_len (bl s)
            have h3 : (bl s).length + (al s).length = s.length := by
              unfold bl al
              rw [← List.length_append, List.takeWhile_append_dropWhile]
            have h4 : (al s).tail.length ≤ (al s).length := by rw [List.length_tail]; omega
            omega
        · simp
theorem sp_head (s : List UInt8) (p : List UInt8) (h : (sp 0 s).2.head? = some p) : ct p = false := by
  by_cases hs : s = []
  · subst hs; rw [sp_nil] at h; cases h
  · by_cases b : (badp s || (decide (0 = 0) && ct (tc (bl s)))) = true
    · rw [sp_bad 0 s hs b] at h; cases h
    · have b' : (badp s || (decide (0 = 0) && ct (tc (bl s)))) = false := by simpa using b
      rw [sp_good 0 s hs b'] at h
      split at h
      · simp only [List.head?_cons, Option.some.injEq] at h
        subst h
        rw [Bool.or_eq_false_iff] at b'
        simpa using b'.2
      · cases h
theorem tail_flat (cs : List (List UInt8)) : (cs.flatMap List.tail).length ≤ cs.flatten.length := by
  induction cs with
  | nil => simp
  | cons c cs ih =>
    simp only [List.flatMap_cons, List.flatten_cons, List.length_append, List.length_tail]
    omega
theorem flat_part (ps : List (List UInt8)) (k j : Nat) : ((ps.drop k).take j).flatten.length ≤ ps.flatten.length := by
  have e := congrArg (fun x => x.flatten.length) (List.take_append_drop k ps)
  have e2 := congrArg (fun x => x.flatten.length) (List.take_append_drop j (ps.drop k))
  simp only [List.flatten_append, List.length_append] at e e2
  omega
theorem grp_step (ps : List (List UInt8)) (k j : Nat) (hk : k < ps.length) (hkj : k < j) (hc : ct ps[k] = false) (hT : ∀ p ∈ (ps.drop (k + 1)).take (j - (k + 1)), ct p = true)
    (hend : ∀ p, (ps.drop j).head? = some p → ct p = false) (hchk : chk (gs [] 0 (ps.take k)) = none) (L : List UInt8) (hL : L = ps[k] ++ ((ps.drop (k + 1)).take (j - (k + 1))).flatMap List.tail) :
    (ps.drop k).take (j - k) = ps[k] :: (ps.drop (k + 1)).take (j - (k + 1)) ∧ gs [] 0 (ps.take j) = gs [] 0 (ps.take k) ++ [(L, k + 1)] ∧
    (chk [(L, k + 1)] = none → chk (gs [] 0 (ps.take j)) = none) ∧ (∀ x, chk [(L, k + 1)] = some x → chk (gs [] 0 ps) = some x) := by
  have e1 : (ps.drop k).take (j - k) = ps[k] :: (ps.drop (k + 1)).take (j - (k + 1)) := by
    rw [List.drop_eq_getElem_cons hk, show j - k = (j - (k + 1)) + 1 by omega, List.take_succ_cons]
  have e2 : ps.take j = ps.take k ++ (ps[k] :: (ps.drop (k + 1)).take (j - (k + 1))) := by
    rw [← e1]
    conv => lhs; rw [show j = k + (j - k) by omega]
    rw [List.take_add]
  have hl : (ps.take k).length = k := by rw [List.length_take]; omega
  have e3 : gs [] 0 (ps.take j) = gs [] 0 (ps.take k) ++ [(L, k + 1)] := by
    rw [e2, gs_append, hl, Nat.zero_add, gs_line _ _ _ _ hc (List.all_eq_true.2 hT), hL]
  refine ⟨e1, e3, fun h => ?_, fun x h => ?_⟩
  · rw [e3, chk_append _ _ hchk]; exact h
  · have e4 : gs [] 0 ps = gs (gs [] 0 (ps.take j)) (0 + (ps.take j).length) (ps.drop j) := by
      rw [← gs_append, List.take_append_drop]
    obtain ⟨r, hr⟩ := gs_more (ps.drop j) (gs [] 0 (ps.take j)) (0 + (ps.take j).length) hend
    rw [e4, hr]
    refine chk_err _ _ x ?_
    rw [e3, chk_append _ _ hchk]; exact h
end Fd
theorem Strs.capd {w : World} {B : Nat} {A : Option Addr} {n : Nat} {ls : List (List UInt8)} (h : Strs w B A n ls) {k j : Nat} (hk : k < j) (hj : j ≤ n) :
    ∃ ad : Addr, A = some ad ∧ ad.block < B ∧ Strs w B (some (ad.add k)) (j - k) ((ls.drop k).take (j - k)) := by
  obtain ⟨ad, rfl, hb, hc⟩ := h.2 (by omega)
  refine ⟨ad, rfl, hb, ⟨by rw [List.length_take, List.length_drop, h.1]; omega, fun _ => ⟨ad.add k, rfl, by rw [add_block]; exact hb, fun i u hu => ?_⟩⟩⟩
  rw [add_add]
  refine hc (k + i) u ?_
  rw [List.getElem?_take] at hu
  split at hu
  · rw [List.getElem?_drop] at hu; exact hu
  · cases hu

set_option maxHeartbeats 8000000 in
set_option maxRecDepth 100000 in
theorem unfold_any (s : ByteArray) (w : World) (ht : Tab w) (hs : s.size ≤ 1000000) :
    Calls Tryd.prog 34 #[.string s] w fun e w' => ∃ A n c, e = .returned (.tuple #[.slice A n c, .int .i64 ((Fd.unf s.data.toList).2.1 : Int), .int .i64 (Fd.unf s.data.toList).2.2]) ∧ OwnV w' w.heap.size 9 A n c (sc (Fd.unf s.data.toList).1) ∧ Gr w w' := by
  obtain ⟨U, hU⟩ : ∃ U, Fd.unf s.data.toList = U := ⟨_, rfl⟩
  rw [hU]
  have HU := Lib.hid hU
  have hsz := Lib.size_eq s
  have hlt0 := ht.lt
  by_cases hl : 20000 < s.size
  · have hUe := Fd.unf_long s.data.toList (by omega)
    rw [hU] at hUe
    subst hUe
    clear hU HU hsz
    go_enter Tryd.func34, Tryd.ntmps34
    go_wp2
    go_ret3
    exact ⟨_, _, _, rfl, OwnV.nil _ _ _, Gr.refl _⟩
  · have cS := split_any s w (by omega)
    obtain ⟨hne, hfl⟩ := Fd.sp_props 0 s.data.toList
    have hhd := Fd.sp_head s.data.toList
    have herr := Fd.sp_err 0 s.data.toList
    have hspl := Fd.sp_len 0 s.data.toList
    rw [← hsz] at hfl hspl
    obtain ⟨ps, hps⟩ : ∃ ps, (Fd.sp 0 s.data.toList).2 = ps := ⟨_, rfl⟩
    obtain ⟨iv, hiv⟩ : ∃ iv, (Fd.sp 0 s.data.toList).1 = iv := ⟨_, rfl⟩
    have hspe : Fd.sp 0 s.data.toList = (iv, ps) := by rw [← hps, ← hiv]
    rw [hspe] at cS hne hfl hhd herr hspl
    simp only at cS hne hfl hhd herr hspl
    have HSP := Lib.hid hspe
    have hlen : ¬ 20000 < s.data.toList.length := by omega
    have HPS := Lib.hid (And.intro hne (And.intro hfl (And.intro hhd (And.intro herr hlen))))
    have hivb := hspl.2
    have hpsb := hspl.1
    clear hU hps hiv hspe hne hfl hhd herr hspl hlen hsz
    by_cases hiv0 : iv = 0
    · subst hiv0
      go_enter Tryd.func34, Tryd.ntmps34
      go_wp2_with (go_at_call 53; refine cS.mono ?_; rintro e w1 ⟨PA, pn, pc, rfl, hownp, hg1⟩)
      have hpn : ps.length = pn := by simpa [sc] using hownp.len
      have hcap := hownp.cap
      have hSp := Strs.of_own hownp
      have HPN := Lib.hid hpn
      rw [hpn] at hpsb
      have ht1 := ht.keep hg1
      have hlt1 := ht1.lt
      clear hpn
      go_loopg [7, 8] pn (fun g v7 v8 wx => ∃ A2 n2 c2, ∃ k : Nat, v7 = .slice A2 n2 c2 ∧ v8 = .int .i64 (k : Int) ∧ k + g = pn ∧ n2 ≤ k ∧ Below w1.heap.size w1 wx ∧ w1.heap.size ≤ wx.heap.size ∧ Tab wx ∧ OwnV wx w1.heap.size 9 A2 n2 c2 (sc ((Fd.gs [] 0 (ps.take k)).map Prod.fst)) ∧ Hid (Fd.chk (Fd.gs [] 0 (ps.take k)) = none ∧ ∀ p, (ps.drop k).head? = some p → Fd.ct p = false))
      case atStart => exact ⟨_, _, _, 0, rfl, rfl, by omega, by omega, Below.refl _ _, Nat.le_refl _, ht1, OwnV.nil _ _ _, Lib.hid ⟨rfl, fun p hp => HPS.out.2.2.1 p (by simpa using hp)⟩⟩
      case round =>
        obtain ⟨A2, n2, c2, k, rfl, rfl, hkg, hn2k, hb2, hsz2, ht2, hown2, HC⟩ := hrel
        have HG := Lib.hid hkg
        clear hkg
        by_cases hk : k < pn
        · have hSr := hSp.keep hb2
          obtain ⟨ad, hk', rfl, hbl, hcellk⟩ := hSr.at_ hk
          go_wp2
          go_loopg [9] (pn - (k + 1)) (fun g v wx => ∃ j : Nat, v = .int .i64 (j : Int) ∧ j + g = pn ∧ k < j ∧ wr = wx ∧ Hid (∀ p ∈ (ps.drop (k + 1)).take (j - (k + 1)), Fd.ct p = true))
          case atStart => exact ⟨k + 1, by go_num, by omega, by omega, rfl, Lib.hid (by simp)⟩
          case round =>
            obtain ⟨j, rfl, hjg, hkj, rfl, HT⟩ := hrel
            have HJ := Lib.hid hjg
            have hjp : j ≤ pn := by omega
            clear hjg
            have hstep : (∃ hj : j < ps.length, Fd.ct ps[j] = true) ∨ (∀ p, (ps.drop j).head? = some p → Fd.ct p = false) := by
              rcases Nat.lt_or_ge j ps.length with hj | hj
              · cases hc : Fd.ct ps[j]
                · right
                  intro p hp
                  rw [List.drop_eq_getElem_cons hj] at hp
                  cases hp; exact hc
                · exact .inl ⟨hj, hc⟩
              · right
                intro p hp
                rw [List.drop_eq_nil_of_le hj] at hp; cases hp
            rcases hstep with ⟨hj, hct⟩ | hend
            · have hjn : j < pn := by rw [← HPN.out]; exact hj
              obtain ⟨_, hj', e0, _, hcellj⟩ := hSr.at_ hjn
              obtain rfl := Option.some.inj e0
              have hpe := HPS.out.1 _ (List.getElem_mem hj')
              have cK := fun w => continues_any ⟨ps[j].toArray⟩ w (by rw [size_mk]; exact List.length_pos_iff.2 hpe)
              have e1 : (ByteArray.mk ps[j].toArray).data.toList = ps[j] := rfl
              rw [e1, hct] at cK
              have HCT := Lib.hid hct
              clear hct e0 hpe e1
              generalize (ByteArray.mk ps[j].toArray) = pj at *
              go_wp2_with (go_at_call 54; refine (cK _).mono ?_; rintro e w' ⟨rfl, rfl⟩)
              go_roundg (pn - (j + 1))
              case measure => have := HJ.out; omega
              case rel =>
                refine ⟨j + 1, by go_num, by omega, by omega, rfl, Lib.hid ?_⟩
                intro p hp
                rw [show j + 1 - (k + 1) = (j - (k + 1)) + 1 by omega, List.take_succ_eq_append_getElem (by rw [List.length_drop]; omega)] at hp
                rcases List.mem_append.1 hp with hp | hp
                · exact HT.out p hp
                · simp only [List.mem_singleton, List.getElem_drop] at hp
                  subst hp
                  have := HCT.out
                  simp only [show k + 1 + (j - (k + 1)) = j by omega]
                  exact this
            · have hck : Fd.ct ps[k] = false := HC.out.2 _ (by rw [List.drop_eq_getElem_cons hk']; rfl)
              obtain ⟨L, hL⟩ : ∃ L, L = ps[k] ++ ((ps.drop (k + 1)).take (j - (k + 1))).flatMap List.tail := ⟨_, rfl⟩
              obtain ⟨g1, g2, g3, g4⟩ := Fd.grp_step ps k j hk' hkj hck HT.out hend HC.out.1 L hL
              obtain ⟨_, e0, _, hSub⟩ := hSr.capd hkj hjp
              obtain rfl := Option.some.inj e0
              rw [g1] at hSub
              have hfk : (ps[k] :: (ps.drop (k + 1)).take (j - (k + 1))).flatten.length ≤ s.size := by rw [← g1]; exact Nat.le_trans (Fd.flat_part ps k (j - k)) HPS.out.2.1
              rw [List.flatten_cons, List.length_append] at hfk
              have cJ := join_any (ad.add k) (j - k) (pc - k) ps[k] ((ps.drop (k + 1)).take (j - (k + 1))) wr (hSub.more hsz2) (by omega)
                (fun q hq => HPS.out.1 q (List.mem_of_mem_drop (List.mem_of_mem_take hq))) (by omega) (fun i _ => by
                  have h1 := Fd.tail_flat (((ps.drop (k + 1)).take (j - (k + 1))).take i)
                  have h2 := Fd.flat_part ((ps.drop (k + 1)).take (j - (k + 1))) 0 i
                  rw [List.drop_zero] at h2
                  omega)
              rw [← hL] at cJ
              have hLl : L.length ≤ s.size := by
                have h1 := Fd.tail_flat ((ps.drop (k + 1)).take (j - (k + 1)))
                rw [hL, List.length_append]; omega
              have hLz : (ByteArray.mk L.toArray).size = L.length := size_mk L
              have cV := fun w ht => valid_any ⟨L.toArray⟩ w ht (by rw [hLz]; omega)
              have e5 : (ByteArray.mk L.toArray).data.toList = L := rfl
              rw [e5] at cV
              have HEND := Lib.hid hend
              have HLL : Hid (sc [L] = [Value.string ⟨L.toArray⟩]) := Lib.hid rfl
              have HQ := Lib.hid (And.intro g2 (And.intro g3 (And.intro g4 hLz)))
              rw [← hLz] at hLl
              clear g1 g2 g3 g4 hck hL e0 hSub hfk e5 hLz
              generalize (ByteArray.mk L.toArray) = lb at *
              obtain ⟨V, hV⟩ : ∃ V, Lib.validD L = V := ⟨_, rfl⟩
              rw [hV] at cV
              have HV := Lib.hid hV
              clear hV
              rcases Nat.lt_or_ge j pn with hjn | hjn
              · obtain ⟨_, hj', e0, _, hcellj⟩ := hSr.at_ hjn
                obtain rfl := Option.some.inj e0
                have hpe := HPS.out.1 _ (List.getElem_mem hj')
                have cK := fun w => continues_any ⟨ps[j].toArray⟩ w (by rw [size_mk]; exact List.length_pos_iff.2 hpe)
                have e1 : (ByteArray.mk ps[j].toArray).data.toList = ps[j] := rfl
                rw [e1, hend ps[j] (by rw [List.drop_eq_getElem_cons hj']; rfl)] at cK
                clear e0 hpe e1
                generalize (ByteArray.mk ps[j].toArray) = pj at *
                go_wp2_with (go_at_call 54; refine (cK _).mono ?_; rintro e w' ⟨rfl, rfl⟩)
                refine cJ.mono ?_
                rintro e w3 ⟨rfl, hg3⟩
                cases V
                · go_wp2_with (go_at_call 56; refine (cV _ (ht2.keep hg3)).mono ?_; rintro e w4 ⟨rfl, hg4⟩)
                  have hUe := Fd.unf_err s.data.toList HPS.out.2.2.2.2 ps HSP.out (k + 1, 3) (HQ.out.2.2.1 _ (by rw [Fd.chk_one, if_pos HV.out]))
                  rw [HU.out] at hUe
                  subst hUe
                  go_ret3
                  exact ⟨_, _, _, by simp, OwnV.nil _ _ _, ⟨hg1.below.trans ((hb2.trans ((hg3.trans hg4).low hsz2)).mono hg1.lt)⟩⟩
                · by_cases hL2 : 2000 < lb.size
                  · have hUe := Fd.unf_err s.data.toList HPS.out.2.2.2.2 ps HSP.out (k + 1, 4) (HQ.out.2.2.1 _ (by rw [Fd.chk_one, if_neg (by simp [HV.out]), if_pos (by rw [← HQ.out.2.2.2]; exact hL2)]))
                    rw [HU.out] at hUe
                    subst hUe
                    clear HU
                    go_wp2_with (go_at_call 56; refine (cV _ (ht2.keep hg3)).mono ?_; rintro e w4 ⟨rfl, hg4⟩)
                    go_ret3
                    exact ⟨_, _, _, by simp, OwnV.nil _ _ _, ⟨hg1.below.trans ((hb2.trans ((hg3.trans hg4).low hsz2)).mono hg1.lt)⟩⟩
                  · go_wp2_with (first
                      | (go_at_call 56; refine (cV _ (ht2.keep hg3)).mono ?_; rintro e w4 ⟨rfl, hg4⟩)
                      | (at_builtin; refine ap_lit w4 rfl (.tmp 56) (.tmp 58) 60 9 (.string ⟨#[]⟩) 16 Tryd.underlying60 info_str rfl (by omega) rfl w1.heap.size A2 n2 c2 _ [.string lb] rfl (hown2.gr (hg3.trans hg4)) 1 1 rfl rfl (by intro u hu; simp at hu; subst hu; rfl) (by omega) (by have := (hg3.trans hg4).lt; omega) ?_; intro A5 c5 w5 hown5 hb5))
                    go_roundg (pn - j)
                    case measure => have := HG.out; omega
                    case rel =>
                      have hbb := ((hg3.trans hg4).low hsz2).trans hb5
                      refine ⟨A5, _, c5, j, rfl, rfl, by omega, by omega, hb2.trans hbb, by have := hbb.size; omega, ht2.low hbb hlt1.1 hlt1.2, ?_, Lib.hid ⟨?_, HEND.out⟩⟩
                      · rw [HQ.out.1, List.map_append, sc_append]
                        have e6 : sc (List.map Prod.fst [(L, k + 1)]) = [.string lb] := HLL.out
                        rw [e6]
                        exact hown5
                      · refine HQ.out.2.1 ?_
                        rw [Fd.chk_one, if_neg (by simp [HV.out]), if_neg (by rw [← HQ.out.2.2.2]; exact hL2)]
              · go_wp2_with fail
                refine cJ.mono ?_
                rintro e w3 ⟨rfl, hg3⟩
                cases V
                · go_wp2_with (go_at_call 56; refine (cV _ (ht2.keep hg3)).mono ?_; rintro e w4 ⟨rfl, hg4⟩)
                  have hUe := Fd.unf_err s.data.toList HPS.out.2.2.2.2 ps HSP.out (k + 1, 3) (HQ.out.2.2.1 _ (by rw [Fd.chk_one, if_pos HV.out]))
                  rw [HU.out] at hUe
                  subst hUe
                  go_ret3
                  exact ⟨_, _, _, by simp, OwnV.nil _ _ _, ⟨hg1.below.trans ((hb2.trans ((hg3.trans hg4).low hsz2)).mono hg1.lt)⟩⟩
                · by_cases hL2 : 2000 < lb.size
                  · have hUe := Fd.unf_err s.data.toList HPS.out.2.2.2.2 ps HSP.out (k + 1, 4) (HQ.out.2.2.1 _ (by rw [Fd.chk_one, if_neg (by simp [HV.out]), if_pos (by rw [← HQ.out.2.2.2]; exact hL2)]))
                    rw [HU.out] at hUe
                    subst hUe
                    clear HU
                    go_wp2_with (go_at_call 56; refine (cV _ (ht2.keep hg3)).mono ?_; rintro e w4 ⟨rfl, hg4⟩)
                    go_ret3
                    exact ⟨_, _, _, by simp, OwnV.nil _ _ _, ⟨hg1.below.trans ((hb2.trans ((hg3.trans hg4).low hsz2)).mono hg1.lt)⟩⟩
                  · go_wp2_with (first
                      | (go_at_call 56; refine (cV _ (ht2.keep hg3)).mono ?_; rintro e w4 ⟨rfl, hg4⟩)
                      | (at_builtin; refine ap_lit w4 rfl (.tmp 56) (.tmp 58) 60 9 (.string ⟨#[]⟩) 16 Tryd.underlying60 info_str rfl (by omega) rfl w1.heap.size A2 n2 c2 _ [.string lb] rfl (hown2.gr (hg3.trans hg4)) 1 1 rfl rfl (by intro u hu; simp at hu; subst hu; rfl) (by omega) (by have := (hg3.trans hg4).lt; omega) ?_; intro A5 c5 w5 hown5 hb5))
                    go_roundg (pn - j)
                    case measure => have := HG.out; omega
                    case rel =>
                      have hbb := ((hg3.trans hg4).low hsz2).trans hb5
                      refine ⟨A5, _, c5, j, rfl, rfl, by omega, by omega, hb2.trans hbb, by have := hbb.size; omega, ht2.low hbb hlt1.1 hlt1.2, ?_, Lib.hid ⟨?_, HEND.out⟩⟩
                      · rw [HQ.out.1, List.map_append, sc_append]
                        have e6 : sc (List.map Prod.fst [(L, k + 1)]) = [.string lb] := HLL.out
                        rw [e6]
                        exact hown5
                      · refine HQ.out.2.1 ?_
                        rw [Fd.chk_one, if_neg (by simp [HV.out]), if_neg (by rw [← HQ.out.2.2.2]; exact hL2)]
        · obtain rfl : k = pn := by have := HG.out; omega
          have e1 : ps.take k = ps := List.take_of_length_le (by rw [HPN.out]; exact Nat.le_refl _)
          rw [e1] at hown2 HC
          have hUe := Fd.unf_ok s.data.toList HPS.out.2.2.2.2 ps HSP.out HC.out.1
          rw [HU.out] at hUe
          subst hUe
          clear e1 HU
          go_wp2
          go_ret3
          refine ⟨_, _, _, rfl, ?_, ⟨hg1.below.trans (hb2.mono hg1.lt)⟩⟩
          exact World.ownsRow.mono hown2 hg1.lt
    · have hpse : ps = [] := HPS.out.2.2.2.1 hiv0
      subst hpse
      have hUe := Fd.unf_bad s.data.toList HPS.out.2.2.2.2 iv HSP.out hiv0
      rw [HU.out] at hUe
      subst hUe
      have hivn : ((iv : Int) == 0) = false := by simpa using hiv0
      clear HU
      go_enter Tryd.func34, Tryd.ntmps34
      go_wp2_with (go_at_call 53; refine cS.mono ?_; rintro e w1 ⟨PA, pn, pc, rfl, hownp, hg1⟩)
      go_ret3
      exact ⟨_, _, _, rfl, OwnV.nil _ _ _, hg1⟩
end Go.Proofs.YtbfngdpdgmgfpaaDoor
