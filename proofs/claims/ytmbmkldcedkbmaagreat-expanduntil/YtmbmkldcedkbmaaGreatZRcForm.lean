/- What (numbers).formed, recur.Lists and the search for an Nth return. -/
import Derived.Test.YtmbmkldcedkbmaaGreatZRcForD
namespace Go.Proofs.YtmbmkldcedkbmaaGreat
open Go.RowKit

set_option maxRecDepth 100000 in
set_option maxHeartbeats 4000000 in
theorem nformed_any (b i : Nat) (V : Rm.Rv) (w : World) (hi8 : i < 8) (hb : RBx w b V) (hM : RuM w w.heap.size V) :
    Calls Tryz.prog 64 #[.agg #[.string ⟨(Rm.nmL i).toArray⟩, .pointer (some ⟨b, Rm.off i, none⟩), .int .i64 (Rm.lo i), .int .i64 (Rm.hi i)]] w fun e w' => e = .returned (.bool (Rm.fine i (V.r.ls i))) ∧ Gr w w' := by
  have hN := hM.l i hi8
  have hc := hb.at_ hi8
  have hblt := World.block_lt_of_cell? _ _ hc
  rw [← Rm.fineL_fine hi8]
  generalize (V.sl i).A = A at *
  generalize (V.sl i).n = n at *
  generalize (V.sl i).c = c at *
  generalize V.r.ls i = xs at *
  generalize Rm.off i = o at *
  generalize Rm.lo i = lo at *
  generalize Rm.hi i = hi at *
  generalize (ByteArray.mk (Rm.nmL i).toArray) = nm at *
  have hg0 : Gr w (w.alloc (.cells #[.string nm, .pointer (some ⟨b, o, none⟩), .int .i64 lo, .int .i64 hi] 99)) := (Gr.refl w).allocO _
  have cF := fun w' (h : Gr w w') => formedI_any nm (some ⟨b, o, none⟩) lo hi A n c xs w' (hN.gr h)
  generalize Rm.fineL lo hi xs = q at *
  have d0 := gr_cell hg0 hc
  have d1 : (w.alloc (.cells #[.string nm, .pointer (some ⟨b, o, none⟩), .int .i64 lo, .int .i64 hi] 99)).cell? ⟨w.heap.size, 0, none⟩ = some (.string nm) := by simp
  have d2 : (w.alloc (.cells #[.string nm, .pointer (some ⟨b, o, none⟩), .int .i64 lo, .int .i64 hi] 99)).cell? ⟨w.heap.size, 1, none⟩ = some (.pointer (some ⟨b, o, none⟩)) := by simp
  have d3 : (w.alloc (.cells #[.string nm, .pointer (some ⟨b, o, none⟩), .int .i64 lo, .int .i64 hi] 99)).cell? ⟨w.heap.size, 2, none⟩ = some (.int .i64 lo) := by simp
  have d4 : (w.alloc (.cells #[.string nm, .pointer (some ⟨b, o, none⟩), .int .i64 lo, .int .i64 hi] 99)).cell? ⟨w.heap.size, 3, none⟩ = some (.int .i64 hi) := by simp
  clear hb hM hN hc hi8 hblt
  go_enter Tryz.func64, Tryz.ntmps64
  go_wp2_with fail
  generalize w.alloc (.cells #[.string nm, .pointer (some ⟨b, o, none⟩), .int .i64 lo, .int .i64 hi] 99) = W at *
  have v0 := after_cell d0
  have v1 := after_cell d1
  have v2 := after_cell d2
  have v3 := after_cell d3
  have v4 := after_cell d4
  refine wp_region_after (by kernel_rfl) (by kernel_rfl) ?_
  repeat (go_big_quiet_step (first | (go_at_call 95; exact qafter (cF _ (hg0.trans (by exact (After.gr _)))))))
  refine wpQuiet_nil ?_
  rintro _ ⟨⟨w6, hg6⟩, rfl⟩
  go_wp2
  go_ret
  exact ⟨rfl, hg0.trans hg6⟩
namespace Rm
/- how many of the first k lists are not empty -/
def nz (r : Ru) : Nat → Nat
  | 0 => 0
  | k + 1 => nz r k + if (r.ls k).isEmpty then 0 else 1
def lsN (r : Ru) : Nat := nz r 8 + if r.day.isEmpty then 0 else 1
theorem nz_le (r : Ru) : ∀ k, nz r k ≤ k
  | 0 => Nat.le_refl _
  | k + 1 => by
    have := nz_le r k
    unfold nz
    split <;> omega
end Rm
set_option maxRecDepth 100000 in
set_option maxHeartbeats 4000000 in
theorem lists_any (V : Rm.Rv) (w : World) (hM : RuM w w.heap.size V) :
    Calls Tryz.prog 101 #[.agg V.val] w fun e w' => e = .returned (.int .i64 (Rm.lsN V.r : Int)) ∧ Gr w w' := by
  have hbx := RBx.now w V 27
  have hg0 : Gr w (w.alloc (.cells V.val 27)) := (Gr.refl w).allocO _
  have cL := fun w' => numberLists_any w.heap.size w'
  have hD := hM.d.1
  obtain ⟨N, hN⟩ : ∃ N, Rm.lsN V.r = N := ⟨_, rfl⟩
  rw [hN]
  have HN := Lib.hid hN
  clear hN
  have HL := Lib.hid (fun i (h : i < 8) => (hM.l i h).1)
  have HD := Lib.hid hD
  clear hM hD
  go_enter Tryz.func101, Tryz.ntmps101
  go_wp2_with fail
  refine (cL _).mono ?_
  rintro e w1 ⟨rfl, hg1⟩
  have hbx1 := hbx.gr hg1
  have hgw := hg0.trans hg1
  clear hbx hg0 hg1 cL
  go_wp2
  go_loopg [3, 7] 8 (fun g v3 v wx => ∃ k : Nat, v = .int .i64 (k : Int) ∧ v3 = .int .i64 (Rm.nz V.r k : Int) ∧ k + g = 8 ∧ Gr w wx ∧ RBx wx w.heap.size V)
  case atStart => exact ⟨0, rfl, rfl, rfl, hgw, hbx1⟩
  case round =>
    obtain ⟨k, rfl, rfl, hkg, hg, hb⟩ := hrel
    have HG := Lib.hid hkg
    clear hkg hgw hbx1
    have hnz := Rm.nz_le V.r k
    by_cases hk : k < 8
    · have hix := nl_ix wr w.heap.size k hk
      have hc := hb.at_ hk
      have hl := HL.out k hk
      have hkn : (k : Int) < 8 := by omega
      have HE := Lib.hid (show Rm.nz V.r (k + 1) = Rm.nz V.r k + if (V.r.ls k).isEmpty then 0 else 1 from rfl)
      have hga : Gr wr (wr.alloc (.cells #[.string ⟨(Rm.nmL k).toArray⟩, .pointer (some ⟨w.heap.size, Rm.off k, none⟩), .int .i64 (Rm.lo k), .int .i64 (Rm.hi k)] 99)) := (Gr.refl wr).allocO _
      have hca := gr_cell hga hc
      generalize (V.sl k).A = A at *
      generalize (V.sl k).n = n at *
      generalize (V.sl k).c = c at *
      generalize Rm.nz V.r k = z at *
      by_cases he : n = 0
      · subst he
        have hem : (V.r.ls k).isEmpty = true := by rw [List.isEmpty_iff]; exact List.eq_nil_of_length_eq_zero hl
        have HZ : Hid (Rm.nz V.r (k + 1) = z) := Lib.hid (by rw [HE.out, hem]; rfl)
        clear hl hem
        go_wp2
        go_roundg (8 - (k + 1))
        case measure => have := HG.out; omega
        case rel => exact ⟨k + 1, by go_num, by rw [HZ.out], by omega, hg.trans hga, hb.gr hga⟩
      · have hem : (V.r.ls k).isEmpty = false := by
          cases h : V.r.ls k with
          | nil => rw [h] at hl; exact absurd hl.symm he
          | cons _ _ => rfl
        have HZ : Hid (Rm.nz V.r (k + 1) = z + 1) := Lib.hid (by rw [HE.out, hem]; rfl)
        have hn0 : (0 : Int) < (n : Int) := by omega
        clear hl hem he
        go_wp2
        go_roundg (8 - (k + 1))
        case measure => have := HG.out; omega
        case rel => exact ⟨k + 1, by go_num, by rw [HZ.out]; go_num, by omega, hg.trans hga, hb.gr hga⟩
    · obtain rfl : k = 8 := by have := HG.out; omega
      have hc11 := hb.c11
      have HE := Lib.hid (show Rm.lsN V.r = Rm.nz V.r 8 + if V.r.day.isEmpty then 0 else 1 from rfl)
      generalize Rm.nz V.r 8 = z at *
      by_cases he : V.day.n = 0
      · have hem : V.r.day.isEmpty = true := by rw [List.isEmpty_iff]; exact List.eq_nil_of_length_eq_zero (HD.out.trans he)
        have HZ : Hid (N = z) := Lib.hid (by rw [← HN.out, HE.out, hem]; rfl)
        rw [he] at hc11
        clear hem he
        go_wp2
        go_ret
        exact ⟨by rw [HZ.out]; rfl, hg⟩
      · have hem : V.r.day.isEmpty = false := by
          cases h : V.r.day with
          | nil => have := HD.out; rw [h] at this; exact absurd this.symm he
          | cons _ _ => rfl
        have HZ : Hid (N = z + 1) := Lib.hid (by rw [← HN.out, HE.out, hem]; rfl)
        have hn0 : (0 : Int) < (V.day.n : Int) := by omega
        clear hem he
        go_wp2
        go_ret
        exact ⟨by rw [HZ.out]; rfl, hg⟩
set_option maxRecDepth 100000 in
set_option maxHeartbeats 1000000 in
theorem nidx_any (A : Option Addr) (n c : Nat) (ps : List (Int × Int)) (w : World) (hP : Days w w.heap.size A n ps) (hn : n ≤ 140737488355328) :
    Calls Tryz.prog 123 #[.slice A n c, .func (.func 100) #[] #[]] w fun e w' => ∃ v : Int, e = .returned (.int .i64 v) ∧ decide (0 ≤ v) = ps.any (fun p => p.1 != 0) ∧ Gr w w' := by
  have HL := Lib.hid hP.1
  go_enter Tryz.func123, Tryz.ntmps123
  go_wp2
  go_loopg [8] n (fun g v wx => ∃ k : Nat, v = .int .i64 (k : Int) ∧ k + g = n ∧ Gr w wx ∧ Hid ((ps.take k).any (fun p => p.1 != 0) = false))
  case atStart => exact ⟨0, rfl, by omega, Gr.refl _, Lib.hid (by simp)⟩
  case round =>
    obtain ⟨k, rfl, hkg, hg, HN⟩ := hrel
    have HG := Lib.hid hkg
    clear hkg
    by_cases hk : k < n
    · obtain ⟨ad, hk', rfl, hbl, hc0, hc1⟩ := hP.at_ hk
      have d0 := (hg.below.cell (p := ad.add (k * 2)) (by rw [add_block]; exact hbl)).trans hc0
      have d1 := (hg.below.cell (p := ⟨(ad.add (k * 2)).block, (ad.add (k * 2)).off + 1, none⟩) (by show (ad.add (k * 2)).block < _; rw [add_block]; exact hbl)).trans hc1
      dsimp only [dv1, dv2] at d0 d1
      have c1 := hasNth_any ps[k].1 ps[k].2 wr
      have HT := Lib.hid (List.take_succ_eq_append_getElem hk')
      have HM := Lib.hid (List.getElem_mem hk')
      cases hq : (ps[k].1 != 0)
      · rw [hq] at c1
        have HS : Hid ((ps.take (k + 1)).any (fun p => p.1 != 0) = false) := Lib.hid (by rw [HT.out, List.any_append, HN.out]; simpa using hq)
        clear hq hc0 hc1 hP
        generalize ps[k].1 = a at *
        generalize ps[k].2 = b at *
        go_wp2_with (go_at_call 100; refine c1.mono ?_; rintro e w' ⟨rfl, hg2⟩)
        go_roundg (n - (k + 1))
        case measure => have := HG.out; omega
        case rel =>
          exact ⟨k + 1, by go_num, by omega, hg.trans hg2, HS⟩
      · rw [hq] at c1
        have HQ : Hid (ps.any (fun p => p.1 != 0) = true) := Lib.hid (List.any_eq_true.2 ⟨_, HM.out, hq⟩)
        clear hq hc0 hc1 hP
        generalize ps[k].1 = a at *
        generalize ps[k].2 = b at *
        go_wp2_with (go_at_call 100; refine c1.mono ?_; rintro e w' ⟨rfl, hg2⟩)
        go_ret
        exact ⟨_, rfl, by rw [HQ.out]; simp, hg.trans hg2⟩
    · obtain rfl : k = n := by have := HG.out; omega
      have HA : Hid (ps.any (fun p => p.1 != 0) = false) := Lib.hid (by
        have := HN.out
        rwa [List.take_of_length_le (by rw [HL.out]; exact Nat.le_refl _)] at this)
      go_wp2
      go_ret
      exact ⟨_, rfl, by rw [HA.out]; rfl, hg⟩
set_option maxHeartbeats 1000000 in
theorem ncont_any (A : Option Addr) (n c : Nat) (ps : List (Int × Int)) (w : World) (hP : Days w w.heap.size A n ps) (hn : n ≤ 140737488355328) :
    Calls Tryz.prog 99 #[.slice A n c, .func (.func 100) #[] #[]] w fun e w' => e = .returned (.bool (ps.any (fun p => p.1 != 0))) ∧ Gr w w' := by
  have cI := fun w hP => nidx_any A n c ps w hP hn
  go_enter Tryz.func99, Tryz.ntmps99
  go_wp2_with fail
  refine (cI _ hP).mono ?_
  rintro e w1 ⟨v, rfl, hv, hg⟩
  have HE := Lib.hid hv
  clear hv
  go_wp2
  go_ret
  exact ⟨ret_bool HE.out, hg⟩
end Go.Proofs.YtmbmkldcedkbmaaGreat
