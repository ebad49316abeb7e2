/- EscapeLists: the walk. -/
import Derived.Test.YtoocghgafebcbaaDoorEsAw
import Derived.Test.YtoocghgafebcbaaDoorEsLs
import Derived.Test.YtoocghgafebcbaaDoorEsIt
import Derived.Test.YtoocghgafebcbaaDoorRefTx
import Derived.Test.YtoocghgafebcbaaDoorFdSame
namespace Go.Proofs.YtoocghgafebcbaaDoor
open Go.RowKit

theorem lsB_keep (ls : List (List UInt8)) (k : Nat) (h0 : Es.lsB (ls.take k) ≠ 0) : Es.lsB (ls.take (k + 1)) = Es.lsB (ls.take k) := by
  have e : (ls.take (k + 1)).take k = ls.take k := by rw [List.take_take, Nat.min_eq_left (by omega)]
  have := Es.lsB_more (ls.take (k + 1)) k (by rw [e]; exact h0)
  rw [e] at this
  exact this
set_option maxHeartbeats 4000000 in
set_option maxRecDepth 100000 in
theorem esclists_any (A : Option Addr) (n c : Nat) (ls : List (List UInt8)) (w : World) (ht : Tab w) (hS : Strs w w.heap.size A n ls) (hn : n ≤ 140737488355328) (hlen : ∀ l ∈ ls, l.length ≤ 140737488355328) :
    Calls Tryd.prog 6 #[.slice A n c] w fun e w' => e = .returned (.bool true) ∧ Gr w w' := by
  by_cases h6 : 60 < n
  · have h6d : decide ((60 : Int) < (n : Int)) = true := by simp; omega
    have h6i : (60 : Int) < (n : Int) := by omega
    clear h6
    go_enter Tryd.func6, Tryd.ntmps6
    go_wp2_with fail
    refine (awake9_any _ ht).mono ?_
    rintro e w1 ⟨rfl, hg1⟩
    go_wp2_with fail
    refine (awake9_any _ (ht.keep hg1)).mono ?_
    rintro e w2 ⟨rfl, hg2⟩
    go_wp2
    go_ret
    exact ⟨rfl, hg1.trans hg2⟩
  · have h6d : decide ((60 : Int) < (n : Int)) = false := by simp; omega
    have h6i : (n : Int) ≤ 60 := by omega
    clear h6
    go_enter Tryd.func6, Tryd.ntmps6
    go_wp2_with fail
    refine (awake9_any _ ht).mono ?_
    rintro e w1 ⟨rfl, hg1⟩
    have ht1 := ht.keep hg1
    have hS1 := (hS.keep hg1.below).more hg1.lt
    go_wp2
    go_loopg [3, 20] n (fun g v3 v wx => ∃ k : Nat, ∃ b : Int, v3 = .int .i64 b ∧ v = .int .i64 (k : Int) ∧ k + g = n ∧ w1 = wx ∧ Hid (Es.lsB (ls.take k) = b) ∧ Hid (∀ l ∈ ls.take k, l.length ≤ 500))
    case atStart => exact ⟨0, 0, rfl, rfl, by omega, rfl, Lib.hid rfl, Lib.hid (by simp)⟩
    case round =>
      obtain ⟨k, b, rfl, rfl, hkg, rfl, HB, H5⟩ := hrel
      have HG := Lib.hid hkg
      clear hkg
      by_cases hk : k < n
      · obtain ⟨ad, hk', rfl, hbl, hcell⟩ := hS1.at_ hk
        have hle := hlen _ (List.getElem_mem hk')
        have hz : (ByteArray.mk ls[k].toArray).size = ls[k].length := size_mk _
        have cC := clean_any true ⟨ls[k].toArray⟩ w1 (by rw [hz]; omega)
        have ed : (ByteArray.mk ls[k].toArray).data.toList = ls[k] := rfl
        rw [ed] at cC
        have HA := Lib.hid (fun h => Es.lsB_at ls k hk' h)
        have HK := Lib.hid (fun h => lsB_keep ls k h)
        have HT := Lib.hid (List.take_succ_eq_append_getElem hk')
        have HZ := Lib.hid hz
        clear hz ed hle
        generalize (ByteArray.mk ls[k].toArray) = s at *
        generalize Es.clE true ls[k] = E at *
        by_cases h500 : (500 : Int) < (s.size : Int)
        · go_wp2
          go_ret
          exact ⟨rfl, hg1⟩
        · have H6 : Hid (∀ l ∈ ls.take (k + 1), l.length ≤ 500) := Lib.hid (fun l hl => by
            rw [HT.out] at hl
            rcases List.mem_append.1 hl with hl | hl
            · exact H5.out l hl
            · have : l = ls[k] := by simpa using hl
              rw [this, ← HZ.out]; omega)
          by_cases hb : b = 0
          · subst hb
            have H7 := Lib.hid (HA.out HB.out)
            go_wp2_with (go_at_call 18; refine cC.mono ?_; rintro e w' ⟨rfl, rfl⟩)
            go_roundg (n - (k + 1))
            case measure => have := HG.out; omega
            case rel => exact ⟨k + 1, E, rfl, by go_num, by omega, rfl, H7, H6⟩
          · have hbn : ((b : Int) == 0) = false := by simpa using hb
            have H7 : Hid (Es.lsB (ls.take (k + 1)) = b) := Lib.hid (by rw [HK.out (by rw [HB.out]; exact hb), HB.out])
            clear hb
            go_wp2_with (go_at_call 18; refine cC.mono ?_; rintro e w' ⟨rfl, rfl⟩)
            go_roundg (n - (k + 1))
            case measure => have := HG.out; omega
            case rel => exact ⟨k + 1, b, rfl, by go_num, by omega, rfl, H7, H6⟩
      · obtain rfl : k = n := by have := HG.out; omega
        have e1 : ls.take k = ls := List.take_of_length_le (by rw [hS.1]; omega)
        rw [e1] at HB H5
        have cL := list_any A k c ls w1 ht1 hS1 (by omega) (fun l hl => by have := H5.out l hl; omega)
        clear e1
        by_cases h0 : k = 0
        · subst h0
          obtain ⟨f1, f2⟩ := Es.lsE_no (l := ls) (.inl (List.eq_nil_of_length_eq_zero hS.1))
          rw [f1, f2] at cL
          clear f1 f2
          go_wp2_with fail
          refine cL.mono ?_
          rintro e w3 ⟨rfl, hg3⟩
          go_wp2
          go_ret
          exact ⟨rfl, hg1.trans hg3⟩
        · obtain ⟨ad0, hk0, rfl, hbl0, hcell0⟩ := hS1.at_ (k := 0) (by omega)
          have hadd0 : ad0.add 0 = ad0 := by unfold Addr.add; simp
          rw [hadd0] at hcell0
          have hkp : 0 < k := by omega
          have hn0 : ((k : Int) == 0) = false := by rw [beq_eq_false_iff_ne]; omega
          by_cases h1 : ls = [[]]
          · obtain ⟨f1, f2⟩ := Es.lsE_no (l := ls) (.inr h1)
            rw [f1, f2] at cL
            subst h1
            have hn1 : k = 1 := hS.1.symm
            subst hn1
            obtain ⟨s0, hem, hcell1⟩ : ∃ s0 : ByteArray, s0.toList.isEmpty = true ∧ w1.cell? ad0 = some (.string s0) := ⟨⟨([] : List UInt8).toArray⟩, emp_t _ rfl, hcell0⟩
            clear f1 f2 hcell0 hk0
            go_wp2_with fail
            refine cL.mono ?_
            rintro e w3 ⟨rfl, hg3⟩
            have hc3 := hg3.below.cell hbl0 |>.trans hcell1
            go_wp2
            go_ret
            exact ⟨rfl, hg1.trans hg3⟩
          · have hno : ¬ (ls = [] ∨ ls = [[]]) := by
              rintro (h | h)
              · have := hS.1; rw [h, List.length_nil] at this; exact h0 this.symm
              · exact h1 h
            by_cases h2 : k = 1
            · have hn1 : ((k : Int) == 1) = true := by rw [beq_iff_eq]; omega
              have hpos : 0 < (ByteArray.mk ls[0].toArray).size := by
                rw [size_mk]
                refine List.length_pos_iff.2 (fun e => h1 ?_)
                have hl := hS.1
                rcases ls with _ | ⟨x, _ | ⟨y, r⟩⟩
                · simp at hk0
                · have : x = [] := e
                  rw [this]
                · simp at hl; omega
              have hem := emp_f _ hpos
              clear h1 hpos h0 h2
              generalize (ByteArray.mk ls[0].toArray) = s0 at hem hcell0
              by_cases hb0 : b = 0
              · subst hb0
                have hall := Es.lsB_zero HB.out
                obtain ⟨f1, f2⟩ := Es.it_ls ls (fun h => hno (.inl h)) (fun h => hno (.inr h)) hall
                have hEE : Es.lsE ls = 0 := by rw [Es.lsE_some hno]; exact HB.out
                rw [hEE, Es.lsT_ok hEE] at cL
                have hll := Es.ls_len ls 500 H5.out
                rw [hS.1] at hll
                have hzz : (ByteArray.mk (Es.ls ls).toArray).size ≤ 400000 := by
                  rw [size_mk]
                  have : k * (2 * 500 + 1) ≤ 60 * (2 * 500 + 1) := Nat.mul_le_mul_right _ (by omega)
                  omega
                have cI := fun w ht => items_any ⟨(Es.ls ls).toArray⟩ w ht hzz
                have ed : (ByteArray.mk (Es.ls ls).toArray).data.toList = Es.ls ls := rfl
                rw [ed, f1, f2] at cI
                clear hall f1 f2 hEE hll hzz ed hno
                generalize (ByteArray.mk (Es.ls ls).toArray) = J at *
                go_wp2_with fail
                refine cL.mono ?_
                rintro e w3 ⟨rfl, hg3⟩
                have hc3 := hg3.below.cell hbl0 |>.trans hcell0
                have ht3 := ht1.keep hg3
                go_wp2_with fail
                refine (cI _ ht3).mono ?_
                rintro e w4 ⟨A4, n4, c4, rfl, hown4, hg4⟩
                have hgx := hg3.trans hg4
                have cS := same_yes (some ad0) A4 k c n4 c4 ls ls w4 ((hS1.keep hgx.below).more hgx.lt) (Strs.of_own hown4) rfl (by omega)
                go_wp2_with (go_at_call 17; refine cS.mono ?_; rintro e w5 ⟨rfl, hg5⟩)
                go_ret
                exact ⟨rfl, (hg1.trans hgx).trans hg5⟩
              · have hEE : Es.lsE ls = b := by rw [Es.lsE_some hno]; exact HB.out
                rw [Es.lsT_no (by rw [hEE]; exact hb0), hEE] at cL
                have hbn : ((b : Int) != 0) = true := by simpa using hb0
                clear hEE hb0 hno
                go_wp2_with fail
                refine cL.mono ?_
                rintro e w3 ⟨rfl, hg3⟩
                have hc3 := hg3.below.cell hbl0 |>.trans hcell0
                go_wp2
                go_ret
                exact ⟨rfl, hg1.trans hg3⟩
            · have hn1 : ((k : Int) == 1) = false := by rw [beq_eq_false_iff_ne]; omega
              clear h1 h0 h2
              by_cases hb0 : b = 0
              · subst hb0
                have hall := Es.lsB_zero HB.out
                obtain ⟨f1, f2⟩ := Es.it_ls ls (fun h => hno (.inl h)) (fun h => hno (.inr h)) hall
                have hEE : Es.lsE ls = 0 := by rw [Es.lsE_some hno]; exact HB.out
                rw [hEE, Es.lsT_ok hEE] at cL
                have hll := Es.ls_len ls 500 H5.out
                rw [hS.1] at hll
                have hzz : (ByteArray.mk (Es.ls ls).toArray).size ≤ 400000 := by
                  rw [size_mk]
                  have : k * (2 * 500 + 1) ≤ 60 * (2 * 500 + 1) := Nat.mul_le_mul_right _ (by omega)
                  omega
                have cI := fun w ht => items_any ⟨(Es.ls ls).toArray⟩ w ht hzz
                have ed : (ByteArray.mk (Es.ls ls).toArray).data.toList = Es.ls ls := rfl
                rw [ed, f1, f2] at cI
                clear hall f1 f2 hEE hll hzz ed hno
                generalize (ByteArray.mk (Es.ls ls).toArray) = J at *
                go_wp2_with fail
                refine cL.mono ?_
                rintro e w3 ⟨rfl, hg3⟩
                have hc3 := hg3.below.cell hbl0 |>.trans hcell0
                have ht3 := ht1.keep hg3
                go_wp2_with fail
                refine (cI _ ht3).mono ?_
                rintro e w4 ⟨A4, n4, c4, rfl, hown4, hg4⟩
                have hgx := hg3.trans hg4
                have cS := same_yes (some ad0) A4 k c n4 c4 ls ls w4 ((hS1.keep hgx.below).more hgx.lt) (Strs.of_own hown4) rfl (by omega)
                go_wp2_with (go_at_call 17; refine cS.mono ?_; rintro e w5 ⟨rfl, hg5⟩)
                go_ret
                exact ⟨rfl, (hg1.trans hgx).trans hg5⟩
              · have hEE : Es.lsE ls = b := by rw [Es.lsE_some hno]; exact HB.out
                rw [Es.lsT_no (by rw [hEE]; exact hb0), hEE] at cL
                have hbn : ((b : Int) != 0) = true := by simpa using hb0
                clear hEE hb0 hno
                go_wp2_with fail
                refine cL.mono ?_
                rintro e w3 ⟨rfl, hg3⟩
                have hc3 := hg3.below.cell hbl0 |>.trans hcell0
                go_wp2
                go_ret
                exact ⟨rfl, hg1.trans hg3⟩
end Go.Proofs.YtoocghgafebcbaaDoor
