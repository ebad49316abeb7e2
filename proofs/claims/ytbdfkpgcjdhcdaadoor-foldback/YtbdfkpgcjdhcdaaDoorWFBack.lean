/- FoldBack: the walk. -/
import Derived.Test.YtbdfkpgcjdhcdaaDoorFdLaw
import Derived.Test.YtbdfkpgcjdhcdaaDoorFdUnf
namespace Go.Proofs.YtbdfkpgcjdhcdaaDoor
open Go.RowKit

namespace Fd
theorem wok_step (w : Nat) (b : UInt8) (r : List UInt8) (h : wok w (b :: r) = true) : wok (if b = 10 then 0 else w + 1) r = true ∧ ((if b = 10 then 0 else w + 1) < 76 ∨ ((if b = 10 then 0 else w + 1) = 76 ∧ b = 13)) := by
  unfold wok at h
  rw [Bool.and_eq_true, Bool.or_eq_true, Bool.and_eq_true] at h
  refine ⟨h.2, ?_⟩
  rcases h.1 with h1 | ⟨h1, h2⟩
  · exact .inl (of_decide_eq_true h1)
  · exact .inr ⟨of_decide_eq_true h1, by simpa using h2⟩
theorem foldE_nz (ls : List (List UInt8)) (h : foldE ls ≠ 0) : foldT ls = [] := by unfold foldT; rw [if_neg h]
theorem foldE_z (ls : List (List UInt8)) (h : foldE ls = 0) : foldT ls = all ls ∧ ls.all fine = true ∧ (all ls).length ≤ 20000 := by
  by_cases c : ls.all fine = false
  · rw [(foldE_bad ls c).1] at h; cases h
  · have c' : ls.all fine = true := by simpa using c
    by_cases d : long ls = true
    · rw [(foldE_long ls c' d).1] at h; cases h
    · have d' : long ls = false := by simpa using d
      exact ⟨(foldE_ok ls c' d').2, c', long_small d'⟩
end Fd

set_option maxHeartbeats 8000000 in
set_option maxRecDepth 100000 in
theorem foldback_any (A : Option Addr) (n c : Nat) (ls : List (List UInt8)) (w : World) (ht : Tab w) (hS : Strs w w.heap.size A n ls) (hn : n ≤ 140737488355328) (hlen : ∀ l ∈ ls, l.length ≤ 140737488355328) :
    Calls Tryd.prog 5 #[.slice A n c] w fun e w' => e = .returned (.bool true) ∧ Gr w w' := by
  go_enter Tryd.func5, Tryd.ntmps5
  go_wp2_with fail
  refine (awake_any _ ht).mono ?_
  rintro e w1 ⟨rfl, hg1⟩
  go_wp2_with fail
  refine (few_any A n c ls _ ((hS.keep hg1.below).more hg1.lt) hn hlen).mono ?_
  rintro e w2 ⟨b, rfl, rfl, hb⟩
  cases b
  · go_wp2_with fail
    refine (awake_any _ (ht.keep hg1)).mono ?_
    rintro e w3 ⟨rfl, hg3⟩
    go_wp2
    go_ret
    exact ⟨rfl, hg1.trans hg3⟩
  · obtain ⟨hn3, hl3⟩ := hb rfl
    have cF := fold_any A n c ls w1 (ht.keep hg1) ((hS.keep hg1.below).more hg1.lt) (by omega) (fun l hl => by have := hl3 l hl; omega)
    clear hb
    by_cases hE : Fd.foldE ls = 0
    · obtain ⟨e1, e2, e3⟩ := Fd.foldE_z ls hE
      rw [hE, e1] at cF
      have hw := Fd.wok_all ls e2
      have ed : (ByteArray.mk (Fd.all ls).toArray).data.toList = Fd.all ls := rfl
      have hz : (ByteArray.mk (Fd.all ls).toArray).size = (Fd.all ls).length := size_mk _
      have hU := fun hv => Fd.unf_all ls hE hv
      rw [← ed] at hw hU
      rw [← hz] at e3
      have HE := Lib.hid (And.intro hw hU)
      clear hE e1 e2 ed hz hw hU
      generalize (ByteArray.mk (Fd.all ls).toArray) = tb at *
      go_wp2_with fail
      refine cF.mono ?_
      rintro e w3 ⟨rfl, hg3⟩
      go_wp2
      go_loopg [5, 30] tb.size (fun g v5 v wx => ∃ wi i : Nat, v5 = .int .i64 (wi : Int) ∧ v = .int .i64 (i : Int) ∧ i + g = tb.size ∧ wi ≤ 76 ∧ w3 = wx ∧ Hid (Fd.wok wi (tb.data.toList.drop i) = true))
      case atStart => exact ⟨0, 0, rfl, rfl, by omega, by omega, rfl, Lib.hid HE.out.1⟩
      case round =>
        obtain ⟨wi, i, rfl, rfl, hig, hwi, rfl, HW⟩ := hrel
        have HI := Lib.hid hig
        clear hig
        by_cases hi : i < tb.size
        · have hi' : i < tb.data.toList.length := by rw [← Lib.size_eq]; exact hi
          have hst := HW.out
          rw [List.drop_eq_getElem_cons hi'] at hst
          have hst2 := Fd.wok_step _ _ _ hst
          have hbe : tb.data.toList[i] = tb[i] := rfl
          rw [hbe] at hst2
          clear hst hbe
          cases h10 : ((tb[i].toNat : Int) == 10)
          · have hne : tb[i] ≠ 10 := by intro e; rw [e] at h10; cases h10
            rw [if_neg hne] at hst2
            rcases hst2 with ⟨hk, hlt | ⟨heq, h13⟩⟩
            · have HK := Lib.hid hk
              clear hk hne
              go_wp2
              go_roundg (tb.size - (i + 1))
              case measure => have := HI.out; omega
              case rel => exact ⟨wi + 1, i + 1, by go_num, by go_num, by omega, by omega, rfl, HK⟩
            · have HK := Lib.hid hk
              have h13' : ((tb[i].toNat : Int) != 13) = false := by rw [h13]; rfl
              obtain rfl : wi = 75 := by omega
              clear hk hne h13 heq
              go_wp2
              go_roundg (tb.size - (i + 1))
              case measure => have := HI.out; omega
              case rel => exact ⟨76, i + 1, by go_num, by go_num, by omega, by omega, rfl, HK⟩
          · have he : tb[i] = 10 := (byte_eq (n := 10) (by omega)).1 h10
            rw [if_pos he] at hst2
            have HK := Lib.hid hst2.1
            clear hst2 he
            go_wp2
            go_roundg (tb.size - (i + 1))
            case measure => have := HI.out; omega
            case rel => exact ⟨0, i + 1, by go_num, by go_num, by omega, by omega, rfl, HK⟩
        · go_wp2
          go_loopg [54] n (fun g v wx => ∃ k : Nat, v = .int .i64 (k : Int) ∧ k + g = n ∧ w3 = wx ∧ Hid (∀ l ∈ ls.take k, Lib.validD l = true))
          case atStart => exact ⟨0, rfl, by omega, rfl, Lib.hid (by simp)⟩
          case round =>
            obtain ⟨k, rfl, hkg, rfl, HV⟩ := hrel
            have HG := Lib.hid hkg
            clear hkg
            have hgx := hg1.trans hg3
            have hS3 := (hS.keep hgx.below).more hgx.lt
            by_cases hk : k < n
            · obtain ⟨ad, hk', rfl, hbl, hcell⟩ := hS3.at_ hk
              have hle := hl3 _ (List.getElem_mem hk')
              have cV := fun w => utf_any ⟨ls[k].toArray⟩ w (by rw [size_mk]; omega)
              have ed : (ByteArray.mk ls[k].toArray).data.toList = ls[k] := rfl
              rw [ed] at cV
              obtain ⟨V, hV⟩ : ∃ V, Lib.validD ls[k] = V := ⟨_, rfl⟩
              rw [hV] at cV
              have HX := Lib.hid (And.intro hV (List.take_succ_eq_append_getElem hk'))
              clear hV ed hle
              generalize (ByteArray.mk ls[k].toArray) = sk at *
              cases V
              · go_wp2_with (go_at_call 14; refine (cV _).mono ?_; rintro e w' ⟨rfl, rfl⟩)
                go_ret
                exact ⟨rfl, hgx⟩
              · go_wp2_with (go_at_call 14; refine (cV _).mono ?_; rintro e w' ⟨rfl, rfl⟩)
                go_roundg (n - (k + 1))
                case measure => have := HG.out; omega
                case rel =>
                  refine ⟨k + 1, by go_num, by omega, rfl, Lib.hid (fun l hl => ?_)⟩
                  rw [HX.out.2] at hl
                  rcases List.mem_append.1 hl with hl | hl
                  · exact HV.out l hl
                  · have : l = ls[k] := by simpa using hl
                    rw [this]; exact HX.out.1
            · have hall : ∀ l ∈ ls, Lib.validD l = true := fun l hl => HV.out l (by
                rw [List.take_of_length_le (by rw [hS.1]; omega)]; exact hl)
              have cU := unfold_any tb w3 ((ht.keep hg1).keep hg3) (by omega)
              rw [HE.out.2 hall] at cU
              simp only at cU
              go_wp2_with fail
              refine cU.mono ?_
              rintro e w4 ⟨A4, n4, c4, rfl, hown4, hg4⟩
              have hgy := hgx.trans hg4
              have cS := same_yes A A4 n c n4 c4 ls ls w4 ((hS.keep hgy.below).more hgy.lt) (Strs.of_own hown4) rfl (by omega)
              go_wp2_with (go_at_call 13; refine cS.mono ?_; rintro e w5 ⟨rfl, hg5⟩)
              go_ret
              exact ⟨rfl, hgy.trans hg5⟩
    · have e1 := Fd.foldE_nz ls hE
      rw [e1] at cF
      have hEn : ((Fd.foldE ls : Int) != 0) = true := by simpa using hE
      have hEq : ((Fd.foldE ls : Int) == 0) = false := by simpa using hE
      generalize Fd.foldE ls = E at *
      clear e1 hE
      go_wp2_with fail
      refine cF.mono ?_
      rintro e w3 ⟨rfl, hg3⟩
      go_wp2
      go_ret
      exact ⟨rfl, hg1.trans hg3⟩
end Go.Proofs.YtbdfkpgcjdhcdaaDoor
