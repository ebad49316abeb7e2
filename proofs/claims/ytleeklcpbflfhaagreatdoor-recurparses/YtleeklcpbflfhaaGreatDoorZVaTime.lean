/- What value.ParseTime returns. -/
import Derived.Test.YtleeklcpbflfhaaGreatDoorZC
import Derived.Test.YtleeklcpbflfhaaGreatDoorZB
import Derived.Test.YtleeklcpbflfhaaGreatDoorZShelf2
namespace Go.Proofs.YtleeklcpbflfhaaGreatDoor
open Go.RowKit

theorem clone_any (s : ByteArray) (w : World) (hs : s.size ≤ 140737488355328) : Calls Tryz.prog 137 #[.string s] w fun e w' => e = .returned (.string s) ∧ Gr w w' := by
  have cC := Tryz.stringslite_Clone s w (by omega)
  go_enter Tryz.func137, Tryz.ntmps137
  go_wp2_with (go_at_call 178; refine cC.mono ?_; rintro e w' ⟨rfl, hg⟩)
  go_ret
  exact ⟨rfl, ⟨hg⟩⟩
def csV (l : List UInt8) (c : UInt8) : Value := .tuple #[.string ⟨(Lib.trimSuffix l [c]).toArray⟩, .bool (Lib.hasSuffix l [c])]
theorem cs_any (s : ByteArray) (w : World) (hm : s.size ≤ 9223372036854775807) : Calls Tryz.prog 135 #[.string s, .string ⟨#[90]⟩] w fun e w' => e = .returned (csV s.data.toList 90) ∧ w = w' := by
  refine (Tryz.strings_CutSuffix s ⟨#[90]⟩ w hm).mono ?_
  rintro e w' ⟨rfl, rfl⟩
  exact ⟨rfl, rfl⟩
theorem cs_t {l : List UInt8} (h : l.getLast? = some 90) : csV l 90 = .tuple #[.string ⟨l.dropLast.toArray⟩, .bool true] := by
  unfold csV
  rw [Va.ts1, Va.hs1, if_pos h, h]; rfl
theorem cs_f {s : ByteArray} (h : ¬ s.data.toList.getLast? = some 90) : csV s.data.toList 90 = .tuple #[.string s, .bool false] := by
  have h1 : (s.data.toList.getLast? == some 90) = false := by rw [beq_eq_false_iff_ne]; exact h
  unfold csV
  rw [Va.ts1, Va.hs1, if_neg h, h1, Lib.mk_data]
theorem at0 (n : Int) (w : World) (h : Cal.dayB n = true) : Calls Tryz.prog 174 #[.int .i64 n, .int .i64 0] w fun e w' => e = .returned (.tuple #[.int .i64 (86400 * n), .int .i64 0]) ∧ w = w' := by
  have := cat_yes n 0 w h (by decide)
  rw [Int.add_zero, Int.mul_comm] at this
  exact this
set_option maxHeartbeats 2000000 in
theorem pdate_yes (s : ByteArray) (w : World) (h : Clk.dayB s.data.toList = true) :
    Calls Tryz.prog 134 #[.string s] w fun e w' => e = .returned (.tuple #[.agg #[.int .i64 0, .int .i64 (86400 * Cal.num (Clk.vY s.data.toList) (Clk.vM s.data.toList) (Clk.vD s.data.toList)), .string ⟨#[]⟩], .int .i64 0]) ∧ Gr w w' := by
  have hd := (Clk.read_day' h)
  have cP := fun w => parsed_yes s w h
  have cA := fun w => at0 _ w hd
  have hn := Cal.dayB_iff.1 hd
  clear h hd
  generalize Cal.num (Clk.vY s.data.toList) (Clk.vM s.data.toList) (Clk.vD s.data.toList) = n at *
  go_enter Tryz.func134, Tryz.ntmps134
  go_wp2_with fail
  refine (cP _).mono ?_
  rintro e w1 ⟨rfl, hb⟩
  obtain ⟨c0, c1, c2⟩ := box3 hb
  have f0 := box_free hb 0
  have f1 := box_free hb 1
  have f2 := box_free hb 2
  go_wp2_with (go_at_call 174; refine (cA _).mono ?_; rintro e w' ⟨rfl, rfl⟩)
  obtain ⟨c0, c1, c2⟩ := box_set3 c0 c1 c2 (.int .i64 0) (.int .i64 (86400 * n)) (.string ⟨#[]⟩)
  have hg := gr_set3 hb (.int .i64 0) (.int .i64 (86400 * n)) (.string ⟨#[]⟩)
  generalize World.setCell _ _ _ = W at *
  exact bodyPost_ret (v := .tuple #[.agg #[.int .i64 0, .int .i64 (86400 * n), .string ⟨#[]⟩], .int .i64 0]) (by simp [results, Tryz.results134, go_sem, c0, c1, c2]) rfl ⟨rfl, hg⟩
set_option maxHeartbeats 2000000 in
theorem pdate_no (s : ByteArray) (w : World) (h : Clk.dayB s.data.toList = false) :
    Calls Tryz.prog 134 #[.string s] w fun e w' => e = .returned (.tuple #[.agg #[.int .i64 0, .int .i64 0, .string ⟨#[]⟩], .int .i64 7]) ∧ Gr w w' := by
  have cP := fun w => parsed_no s w h
  clear h
  go_enter Tryz.func134, Tryz.ntmps134
  go_wp2_with fail
  refine (cP _).mono ?_
  rintro e w1 ⟨rfl, hb⟩
  obtain ⟨c0, c1, c2⟩ := box3 hb
  have f0 := box_free hb 0
  have f1 := box_free hb 1
  have f2 := box_free hb 2
  go_wp2
  obtain ⟨c0, c1, c2⟩ := box_set3 c0 c1 c2 (.int .i64 0) (.int .i64 0) (.string ⟨#[]⟩)
  have hg := gr_set3 hb (.int .i64 0) (.int .i64 0) (.string ⟨#[]⟩)
  generalize World.setCell _ _ _ = W at *
  exact bodyPost_ret (v := .tuple #[.agg #[.int .i64 0, .int .i64 0, .string ⟨#[]⟩], .int .i64 7]) (by simp [results, Tryz.results134, go_sem, c0, c1, c2]) rfl ⟨rfl, hg⟩
set_option maxRecDepth 8000 in
set_option maxHeartbeats 4000000 in
theorem ptime_any (s z : ByteArray) (date : Bool) (w : World) (hm : s.size ≤ 9223372036854775807) :
    Calls Tryz.prog 101 #[.string s, .string z, .bool date] w fun e w' => e = .returned (Va.rdV (Va.rd s.data.toList z.data.toList date)) ∧ Gr w w' := by
  have cZ := fun w => zname_any z w
  by_cases z0 : z.size = 0
  · have ez := emp_t z z0
    have hz : z.data.toList = [] := List.eq_nil_of_length_eq_zero (by rw [← Lib.size_eq]; exact z0)
    obtain rfl : z = ⟨#[]⟩ := by rw [← Lib.mk_data z, hz]
    have cC := fun w => clone_any ⟨#[]⟩ w (by omega)
    rw [hz]
    clear cZ
    rcases date
    · by_cases hl : s.data.toList.getLast? = some 90
      · rw [Va.rd_Z hl]
        have k1 := Lib.hid (cs_t hl)
        clear hl hz z0
        rcases hp : Clk.parB s.data.toList.dropLast
        · rw [if_neg (by decide)]
          have cP := fun w => parse_no (ByteArray.mk s.data.toList.dropLast.toArray) w hp
          clear hp
          have hb := Gr.refl (w.alloc (.cells #[.int .i64 0, .int .i64 0, .string ⟨#[]⟩] 23))
          go_enter Tryz.func101, Tryz.ntmps101
          go_wp2_with (first | (go_at_call 135; refine (cs_any _ _ hm).mono ?_; rintro e w' ⟨rfl, rfl⟩; rw [k1.out]))
          refine (cP _).mono ?_
          rintro e w1 ⟨rfl, hbx⟩
          replace hb := hb.trans hbx
          clear hbx
          obtain ⟨c0, c1, c2⟩ := box3 hb
          have f0 := box_free hb 0
          have f1 := box_free hb 1
          have f2 := box_free hb 2
          go_wp2
          obtain ⟨c0, c1, c2⟩ := box_set3 c0 c1 c2 (.int .i64 0) (.int .i64 0) (.string ⟨#[]⟩)
          have hg := gr_set3 hb (.int .i64 0) (.int .i64 0) (.string ⟨#[]⟩)
          generalize World.setCell _ _ _ = W at *
          exact bodyPost_ret (v := .tuple #[.agg #[.int .i64 0, .int .i64 0, .string ⟨#[]⟩], .int .i64 7]) (by simp [results, Tryz.results101, go_sem, c0, c1, c2]) rfl ⟨rfl, hg⟩
        · rw [if_pos rfl]
          have cP := fun w => parse_yes (ByteArray.mk s.data.toList.dropLast.toArray) w hp
          have e0 : Clk.parV ((ByteArray.mk s.data.toList.dropLast.toArray)).data.toList = Clk.parV s.data.toList.dropLast := rfl
          rw [e0] at cP
          clear hp e0
          generalize Clk.parV s.data.toList.dropLast = v at *
          have hb := Gr.refl (w.alloc (.cells #[.int .i64 0, .int .i64 0, .string ⟨#[]⟩] 23))
          go_enter Tryz.func101, Tryz.ntmps101
          go_wp2_with (first | (go_at_call 135; refine (cs_any _ _ hm).mono ?_; rintro e w' ⟨rfl, rfl⟩; rw [k1.out]))
          refine (cP _).mono ?_
          rintro e w1 ⟨rfl, hbx⟩
          replace hb := hb.trans hbx
          clear hbx
          go_wp2_with fail
          refine (cC _).mono ?_
          rintro e w2 ⟨rfl, hbx⟩
          replace hb := hb.trans hbx
          clear hbx
          obtain ⟨c0, c1, c2⟩ := box3 hb
          have f0 := box_free hb 0
          have f1 := box_free hb 1
          have f2 := box_free hb 2
          go_wp2
          obtain ⟨c0, c1, c2⟩ := box_set3 c0 c1 c2 (.int .i64 2) (.int .i64 v) (.string ⟨#[]⟩)
          have hg := gr_set3 hb (.int .i64 2) (.int .i64 v) (.string ⟨#[]⟩)
          generalize World.setCell _ _ _ = W at *
          exact bodyPost_ret (v := .tuple #[.agg #[.int .i64 2, .int .i64 v, .string ⟨#[]⟩], .int .i64 0]) (by simp [results, Tryz.results101, go_sem, c0, c1, c2]) rfl ⟨rfl, hg⟩
      · rw [Va.rd_L hl]
        have k1 := Lib.hid (cs_f hl)
        clear hl hz z0
        rcases hp : Clk.parB s.data.toList
        · rw [if_neg (by decide)]
          have cP := fun w => parse_no s w hp
          clear hp
          have hb := Gr.refl (w.alloc (.cells #[.int .i64 0, .int .i64 0, .string ⟨#[]⟩] 23))
          go_enter Tryz.func101, Tryz.ntmps101
          go_wp2_with (first | (go_at_call 135; refine (cs_any _ _ hm).mono ?_; rintro e w' ⟨rfl, rfl⟩; rw [k1.out]))
          refine (cP _).mono ?_
          rintro e w1 ⟨rfl, hbx⟩
          replace hb := hb.trans hbx
          clear hbx
          obtain ⟨c0, c1, c2⟩ := box3 hb
          have f0 := box_free hb 0
          have f1 := box_free hb 1
          have f2 := box_free hb 2
          go_wp2
          obtain ⟨c0, c1, c2⟩ := box_set3 c0 c1 c2 (.int .i64 0) (.int .i64 0) (.string ⟨#[]⟩)
          have hg := gr_set3 hb (.int .i64 0) (.int .i64 0) (.string ⟨#[]⟩)
          generalize World.setCell _ _ _ = W at *
          exact bodyPost_ret (v := .tuple #[.agg #[.int .i64 0, .int .i64 0, .string ⟨#[]⟩], .int .i64 7]) (by simp [results, Tryz.results101, go_sem, c0, c1, c2]) rfl ⟨rfl, hg⟩
        · rw [if_pos rfl]
          have cP := fun w => parse_yes s w hp
          have e0 : Clk.parV (s).data.toList = Clk.parV s.data.toList := rfl
          rw [e0] at cP
          clear hp e0
          generalize Clk.parV s.data.toList = v at *
          have hb := Gr.refl (w.alloc (.cells #[.int .i64 0, .int .i64 0, .string ⟨#[]⟩] 23))
          go_enter Tryz.func101, Tryz.ntmps101
          go_wp2_with (first | (go_at_call 135; refine (cs_any _ _ hm).mono ?_; rintro e w' ⟨rfl, rfl⟩; rw [k1.out]))
          refine (cP _).mono ?_
          rintro e w1 ⟨rfl, hbx⟩
          replace hb := hb.trans hbx
          clear hbx
          go_wp2_with fail
          refine (cC _).mono ?_
          rintro e w2 ⟨rfl, hbx⟩
          replace hb := hb.trans hbx
          clear hbx
          obtain ⟨c0, c1, c2⟩ := box3 hb
          have f0 := box_free hb 0
          have f1 := box_free hb 1
          have f2 := box_free hb 2
          go_wp2
          obtain ⟨c0, c1, c2⟩ := box_set3 c0 c1 c2 (.int .i64 1) (.int .i64 v) (.string ⟨#[]⟩)
          have hg := gr_set3 hb (.int .i64 1) (.int .i64 v) (.string ⟨#[]⟩)
          generalize World.setCell _ _ _ = W at *
          exact bodyPost_ret (v := .tuple #[.agg #[.int .i64 1, .int .i64 v, .string ⟨#[]⟩], .int .i64 0]) (by simp [results, Tryz.results101, go_sem, c0, c1, c2]) rfl ⟨rfl, hg⟩
    · rw [Va.rd_date]
      clear cC hz z0
      rcases hp : Clk.dayB s.data.toList
      · rw [if_neg (by decide)]
        have cD := fun w => pdate_no s w hp
        clear hp
        have hb := Gr.refl (w.alloc (.cells #[.int .i64 0, .int .i64 0, .string ⟨#[]⟩] 23))
        go_enter Tryz.func101, Tryz.ntmps101
        go_wp2_with fail
        refine (cD _).mono ?_
        rintro e w1 ⟨rfl, hbx⟩
        replace hb := hb.trans hbx
        clear hbx
        obtain ⟨c0, c1, c2⟩ := box3 hb
        have f0 := box_free hb 0
        have f1 := box_free hb 1
        have f2 := box_free hb 2
        go_wp2
        obtain ⟨c0, c1, c2⟩ := box_set3 c0 c1 c2 (.int .i64 0) (.int .i64 0) (.string ⟨#[]⟩)
        have hg := gr_set3 hb (.int .i64 0) (.int .i64 0) (.string ⟨#[]⟩)
        generalize World.setCell _ _ _ = W at *
        exact bodyPost_ret (v := .tuple #[.agg #[.int .i64 0, .int .i64 0, .string ⟨#[]⟩], .int .i64 7]) (by simp [results, Tryz.results101, go_sem, c0, c1, c2]) rfl ⟨rfl, hg⟩
      · rw [if_pos rfl]
        have cD := fun w => pdate_yes s w hp
        generalize 86400 * Cal.num (Clk.vY s.data.toList) (Clk.vM s.data.toList) (Clk.vD s.data.toList) = v at *
        clear hp
        have hb := Gr.refl (w.alloc (.cells #[.int .i64 0, .int .i64 0, .string ⟨#[]⟩] 23))
        go_enter Tryz.func101, Tryz.ntmps101
        go_wp2_with fail
        refine (cD _).mono ?_
        rintro e w1 ⟨rfl, hbx⟩
        replace hb := hb.trans hbx
        clear hbx
        obtain ⟨c0, c1, c2⟩ := box3 hb
        have f0 := box_free hb 0
        have f1 := box_free hb 1
        have f2 := box_free hb 2
        go_wp2
        obtain ⟨c0, c1, c2⟩ := box_set3 c0 c1 c2 (.int .i64 0) (.int .i64 v) (.string ⟨#[]⟩)
        have hg := gr_set3 hb (.int .i64 0) (.int .i64 v) (.string ⟨#[]⟩)
        generalize World.setCell _ _ _ = W at *
        exact bodyPost_ret (v := .tuple #[.agg #[.int .i64 0, .int .i64 v, .string ⟨#[]⟩], .int .i64 0]) (by simp [results, Tryz.results101, go_sem, c0, c1, c2]) rfl ⟨rfl, hg⟩
  · have ez := emp_f z z0
    have hz := Va.ne_of_size z0
    rcases date
    · rcases hn : Va.zn z.data.toList
      · rw [hn] at cZ
        rw [Va.rd_zone hz (.inr hn)]
        clear hn hz
        go_enter Tryz.func101, Tryz.ntmps101
        go_wp2_with (first | (go_at_call 93; refine (cZ _).mono ?_; rintro e w' ⟨rfl, rfl⟩))
        exact bodyPost_ret (v := .tuple #[.agg #[.int .i64 0, .int .i64 0, .string ⟨#[]⟩], .int .i64 7]) (by simp [results, Tryz.results101, go_sem]) rfl ⟨rfl, (Gr.refl _).alloc _ _⟩
      · have hz60 := (Va.zn_iff.1 hn).2.1
        rw [← Lib.size_eq] at hz60
        have cC := fun w => clone_any z w (by omega)
        rw [hn] at cZ
        rw [Va.rd_in hz hn]
        clear hn hz hz60
        rcases hp : Clk.parB s.data.toList
        · rw [if_neg (by decide)]
          have cP := fun w => parse_no s w hp
          clear hp
          have hb := Gr.refl (w.alloc (.cells #[.int .i64 0, .int .i64 0, .string ⟨#[]⟩] 23))
          go_enter Tryz.func101, Tryz.ntmps101
          go_wp2_with (first | (go_at_call 93; refine (cZ _).mono ?_; rintro e w' ⟨rfl, rfl⟩))
          refine (cP _).mono ?_
          rintro e w1 ⟨rfl, hbx⟩
          replace hb := hb.trans hbx
          clear hbx
          obtain ⟨c0, c1, c2⟩ := box3 hb
          have f0 := box_free hb 0
          have f1 := box_free hb 1
          have f2 := box_free hb 2
          go_wp2
          obtain ⟨c0, c1, c2⟩ := box_set3 c0 c1 c2 (.int .i64 0) (.int .i64 0) (.string ⟨#[]⟩)
          have hg := gr_set3 hb (.int .i64 0) (.int .i64 0) (.string ⟨#[]⟩)
          generalize World.setCell _ _ _ = W at *
          exact bodyPost_ret (v := .tuple #[.agg #[.int .i64 0, .int .i64 0, .string ⟨#[]⟩], .int .i64 7]) (by simp [results, Tryz.results101, go_sem, c0, c1, c2]) rfl ⟨rfl, hg⟩
        · rw [if_pos rfl]
          have cP := fun w => parse_yes s w hp
          have e0 : Clk.parV (s).data.toList = Clk.parV s.data.toList := rfl
          rw [e0] at cP
          clear hp e0
          generalize Clk.parV s.data.toList = v at *
          have hb := Gr.refl (w.alloc (.cells #[.int .i64 0, .int .i64 0, .string ⟨#[]⟩] 23))
          go_enter Tryz.func101, Tryz.ntmps101
          go_wp2_with (first | (go_at_call 93; refine (cZ _).mono ?_; rintro e w' ⟨rfl, rfl⟩))
          refine (cP _).mono ?_
          rintro e w1 ⟨rfl, hbx⟩
          replace hb := hb.trans hbx
          clear hbx
          go_wp2_with fail
          refine (cC _).mono ?_
          rintro e w2 ⟨rfl, hbx⟩
          replace hb := hb.trans hbx
          clear hbx
          obtain ⟨c0, c1, c2⟩ := box3 hb
          have f0 := box_free hb 0
          have f1 := box_free hb 1
          have f2 := box_free hb 2
          go_wp2
          obtain ⟨c0, c1, c2⟩ := box_set3 c0 c1 c2 (.int .i64 3) (.int .i64 v) (.string z)
          have hg := gr_set3 hb (.int .i64 3) (.int .i64 v) (.string z)
          generalize World.setCell _ _ _ = W at *
          exact bodyPost_ret (v := .tuple #[.agg #[.int .i64 3, .int .i64 v, .string z], .int .i64 0]) (by simp [results, Tryz.results101, go_sem, c0, c1, c2]) rfl ⟨by show _ = Ending.returned (.tuple #[.agg #[_, _, .string ⟨z.data.toList.toArray⟩], _]); rw [Lib.mk_data], hg⟩
    · rw [Va.rd_zone hz (.inl rfl)]
      clear hz cZ
      go_enter Tryz.func101, Tryz.ntmps101
      go_wp2
      exact bodyPost_ret (v := .tuple #[.agg #[.int .i64 0, .int .i64 0, .string ⟨#[]⟩], .int .i64 7]) (by simp [results, Tryz.results101, go_sem]) rfl ⟨rfl, (Gr.refl _).alloc _ _⟩
end Go.Proofs.YtleeklcpbflfhaaGreatDoor
