/- What the reference's ParseTime returns. -/
import Derived.Test.YtleeklcpbflfhaaGreatDoorZRefSs
import Derived.Test.YtleeklcpbflfhaaGreatDoorZC
namespace Go.Proofs.YtleeklcpbflfhaaGreatDoor
open Go.RowKit

theorem last_at (s : ByteArray) (h : 0 < s.size) : s.data.toList.getLast? = some (s[s.size - 1]'(by omega)) := by
  have h' : s.size - 1 < s.data.toList.length := by rw [← Lib.size_eq]; omega
  rw [List.getLast?_eq_getElem?, ← Lib.size_eq, List.getElem?_eq_getElem h']; rfl
theorem ext_init (s : ByteArray) : (s.extract 0 (s.size - 1)).data.toList = s.data.toList.dropLast := by
  rw [Lib.extract_data, List.dropLast_eq_take, ← Lib.size_eq]; simp
theorem bt2 {c : UInt8} (k : UInt8) (h : c = k) : ((c.toNat : Int) == (k.toNat : Int)) = true := by rw [h]; simp
theorem bf2 {c : UInt8} (k : UInt8) (h : c ≠ k) : ((c.toNat : Int) == (k.toNat : Int)) = false := by
  rw [beq_eq_false_iff_ne]
  intro e
  exact h (UInt8.toNat_inj.1 (by omega))
/- two boxes, of a result and of a variable -/
structure Bxs (w w1 : World) (k a : Value) (z : Value) : Prop where
  b0 : w1.cell? ⟨w.heap.size, 0, none⟩ = some (.int .i64 0)
  b1 : w1.cell? ⟨w.heap.size, 1, none⟩ = some (.int .i64 0)
  b2 : w1.cell? ⟨w.heap.size, 2, none⟩ = some (.string ⟨#[]⟩)
  c0 : w1.cell? ⟨w.heap.size + 1, 0, none⟩ = some k
  c1 : w1.cell? ⟨w.heap.size + 1, 1, none⟩ = some a
  c2 : w1.cell? ⟨w.heap.size + 1, 2, none⟩ = some z
  f : ∀ o, w1.frozen? ⟨w.heap.size, o, none⟩ = false
  g : ∀ o, w1.frozen? ⟨w.heap.size + 1, o, none⟩ = false
  gr : Gr w w1
theorem bxs_of {w w1 : World} {k a z : Value} {t : TypeId} (hb : Gr ((w.alloc (.cells #[.int .i64 0, .int .i64 0, .string ⟨#[]⟩] t)).alloc (.cells #[k, a, z] t)) w1) : Bxs w w1 k a z := by
  have hg := ((Gr.refl (w.alloc (.cells #[.int .i64 0, .int .i64 0, .string ⟨#[]⟩] t))).alloc #[k, a, z] t).trans hb
  obtain ⟨x0, x1, x2⟩ := box3 hg
  obtain ⟨y0, y1, y2⟩ := box3 hb
  have hz : ∀ o, (w.alloc o).heap.size = w.heap.size + 1 := fun o => by simp
  have g := box_free hb
  rw [hz] at y0 y1 y2
  simp only [hz] at g
  exact ⟨x0, x1, x2, y0, y1, y2, box_free hg, g, ((Gr.refl w).alloc _ _).trans hg⟩
theorem Bxs.set {w w1 : World} {k a z : Value} (h : Bxs w w1 k a z) (v : Value) :
    (w1.setCell ⟨w.heap.size + 1, 1, none⟩ v).cell? ⟨w.heap.size + 1, 0, none⟩ = some k ∧ (w1.setCell ⟨w.heap.size + 1, 1, none⟩ v).cell? ⟨w.heap.size + 1, 1, none⟩ = some v ∧ (w1.setCell ⟨w.heap.size + 1, 1, none⟩ v).cell? ⟨w.heap.size + 1, 2, none⟩ = some z := by
  refine ⟨?_, World.cell?_setCell_same _ _ _ h.c1, ?_⟩
  · rw [World.cell?_setCell_other (h := by simp)]; exact h.c0
  · rw [World.cell?_setCell_other (h := by simp)]; exact h.c2
theorem Bxs.fin {w w1 : World} {k a z : Value} (h : Bxs w w1 k a z) (v p q r : Value) :
    ((((w1.setCell ⟨w.heap.size + 1, 1, none⟩ v).setCell ⟨w.heap.size, 0, none⟩ p).setCell ⟨w.heap.size, 1, none⟩ q).setCell ⟨w.heap.size, 2, none⟩ r).cell? ⟨w.heap.size, 0, none⟩ = some p ∧
    ((((w1.setCell ⟨w.heap.size + 1, 1, none⟩ v).setCell ⟨w.heap.size, 0, none⟩ p).setCell ⟨w.heap.size, 1, none⟩ q).setCell ⟨w.heap.size, 2, none⟩ r).cell? ⟨w.heap.size, 1, none⟩ = some q ∧
    ((((w1.setCell ⟨w.heap.size + 1, 1, none⟩ v).setCell ⟨w.heap.size, 0, none⟩ p).setCell ⟨w.heap.size, 1, none⟩ q).setCell ⟨w.heap.size, 2, none⟩ r).cell? ⟨w.heap.size, 2, none⟩ = some r := by
  refine box_set3 (a0 := .int .i64 0) (a1 := .int .i64 0) (a2 := .string ⟨#[]⟩) ?_ ?_ ?_ p q r
  · rw [World.cell?_setCell_other (h := by simp)]; exact h.b0
  · rw [World.cell?_setCell_other (h := by simp)]; exact h.b1
  · rw [World.cell?_setCell_other (h := by simp)]; exact h.b2
theorem Bxs.gr4 {w w1 : World} {k a z : Value} (h : Bxs w w1 k a z) (v p q r : Value) :
    Gr w ((((w1.setCell ⟨w.heap.size + 1, 1, none⟩ v).setCell ⟨w.heap.size, 0, none⟩ p).setCell ⟨w.heap.size, 1, none⟩ q).setCell ⟨w.heap.size, 2, none⟩ r) :=
  (((h.gr.setCell (a := ⟨w.heap.size + 1, 1, none⟩) (Nat.le_succ _) v).setCell (a := ⟨w.heap.size, 0, none⟩) (Nat.le_refl _) p).setCell (a := ⟨w.heap.size, 1, none⟩) (Nat.le_refl _) q).setCell (a := ⟨w.heap.size, 2, none⟩) (Nat.le_refl _) r
set_option maxRecDepth 8000 in
set_option maxHeartbeats 4000000 in
theorem rptime_any (s z : ByteArray) (date : Bool) (w : World) (hm : s.size ≤ 9223372036854775807) (hmz : z.size ≤ 9223372036854775807) :
    Calls Tryz.prog 78 #[.string s, .string z, .bool date] w fun e w' => e = .returned (Va.rdV (Va.rd s.data.toList z.data.toList date)) ∧ Gr w w' := by
  have cZ := fun w => rzname_any z w hmz
  by_cases z0 : z.size = 0
  · have ez := emp_t z z0
    have hz : z.data.toList = [] := List.eq_nil_of_length_eq_zero (by rw [← Lib.size_eq]; exact z0)
    obtain rfl : z = ⟨#[]⟩ := by rw [← Lib.mk_data z, hz]
    rw [hz]
    clear cZ hmz z0 hz
    rcases date
    · by_cases hl : ∃ h : 0 < s.size, s[s.size - 1] = 90
      · obtain ⟨h, hc⟩ := hl
        rw [Va.rd_Z (by rw [last_at s h, hc])]
        have b1 : ((s[s.size - 1].toNat : Int) == 90) = true := bt2 90 hc
        have h0 : (0 : Int) < s.size := by omega
        have cX := fun w => rseconds_any (s.extract 0 (s.size - 1)) w
        rw [ext_init] at cX
        clear hc
        rcases hp : Clk.parB s.data.toList.dropLast
        · unfold Va.secV at cX
          rw [hp, if_neg (by decide)] at cX
          rw [if_neg (by decide)]
          clear hp
          go_enter Tryz.func78, Tryz.ntmps78
          go_wp2_with fail
          refine (cX _).mono ?_
          rintro e w1 ⟨rfl, hb⟩
          have B := bxs_of hb
          have BX := Lib.hid B
          obtain ⟨x0, x1, x2, y0, y1, y2, ff, gg, hgr⟩ := B
          obtain ⟨t0, t1, t2⟩ := BX.out.set (.int .i64 (-1))
          clear hb hgr
          go_wp2
          obtain ⟨m0, m1, m2⟩ := BX.out.fin (.int .i64 (-1)) (.int .i64 0) (.int .i64 0) (.string ⟨#[]⟩)
          have hg := BX.out.gr4 (.int .i64 (-1)) (.int .i64 0) (.int .i64 0) (.string ⟨#[]⟩)
          clear BX t0 t1 t2
          generalize World.setCell _ _ _ = W at *
          exact bodyPost_ret (v := .tuple #[.agg #[.int .i64 0, .int .i64 0, .string ⟨#[]⟩], .int .i64 7]) (by simp [results, Tryz.results78, go_sem, m0, m1, m2]) rfl ⟨rfl, hg⟩
        · unfold Va.secV at cX
          rw [hp, if_pos rfl] at cX
          have hv := Va.parV_lo hp
          generalize Clk.parV s.data.toList.dropLast = v at *
          have hv0 : ¬ v < 0 := by omega
          clear hv
          rw [if_pos rfl]
          clear hp
          go_enter Tryz.func78, Tryz.ntmps78
          go_wp2_with fail
          refine (cX _).mono ?_
          rintro e w1 ⟨rfl, hb⟩
          have B := bxs_of hb
          have BX := Lib.hid B
          obtain ⟨x0, x1, x2, y0, y1, y2, ff, gg, hgr⟩ := B
          obtain ⟨t0, t1, t2⟩ := BX.out.set (.int .i64 v)
          clear hb hgr
          go_wp2
          obtain ⟨m0, m1, m2⟩ := BX.out.fin (.int .i64 v) (.int .i64 2) (.int .i64 v) (.string ⟨#[]⟩)
          have hg := BX.out.gr4 (.int .i64 v) (.int .i64 2) (.int .i64 v) (.string ⟨#[]⟩)
          clear BX t0 t1 t2
          generalize World.setCell _ _ _ = W at *
          exact bodyPost_ret (v := .tuple #[.agg #[.int .i64 2, .int .i64 v, .string ⟨#[]⟩], .int .i64 0]) (by simp [results, Tryz.results78, go_sem, m0, m1, m2]) rfl ⟨rfl, hg⟩
      · have hg90 : ¬ s.data.toList.getLast? = some 90 := by
          intro e
          rcases Nat.eq_zero_or_pos s.size with h | h
          · have : s.data.toList = [] := List.eq_nil_of_length_eq_zero (by rw [← Lib.size_eq]; exact h)
            rw [this] at e; cases e
          · rw [last_at s h] at e
            exact hl ⟨h, Option.some.inj e⟩
        rw [Va.rd_L hg90]
        have cX := fun w => rseconds_any s w
        clear hg90
        rcases Nat.eq_zero_or_pos s.size with h | h
        · clear hl
          rcases hp : Clk.parB s.data.toList
          · unfold Va.secV at cX
            rw [hp, if_neg (by decide)] at cX
            rw [if_neg (by decide)]
            clear hp
            go_enter Tryz.func78, Tryz.ntmps78
            go_wp2_with fail
            refine (cX _).mono ?_
            rintro e w1 ⟨rfl, hb⟩
            have B := bxs_of hb
            have BX := Lib.hid B
            obtain ⟨x0, x1, x2, y0, y1, y2, ff, gg, hgr⟩ := B
            obtain ⟨t0, t1, t2⟩ := BX.out.set (.int .i64 (-1))
            clear hb hgr
            go_wp2
            obtain ⟨m0, m1, m2⟩ := BX.out.fin (.int .i64 (-1)) (.int .i64 0) (.int .i64 0) (.string ⟨#[]⟩)
            have hg := BX.out.gr4 (.int .i64 (-1)) (.int .i64 0) (.int .i64 0) (.string ⟨#[]⟩)
            clear BX t0 t1 t2
            generalize World.setCell _ _ _ = W at *
            exact bodyPost_ret (v := .tuple #[.agg #[.int .i64 0, .int .i64 0, .string ⟨#[]⟩], .int .i64 7]) (by simp [results, Tryz.results78, go_sem, m0, m1, m2]) rfl ⟨rfl, hg⟩
          · unfold Va.secV at cX
            rw [hp, if_pos rfl] at cX
            have hv := Va.parV_lo hp
            generalize Clk.parV s.data.toList = v at *
            have hv0 : ¬ v < 0 := by omega
            clear hv
            rw [if_pos rfl]
            clear hp
            go_enter Tryz.func78, Tryz.ntmps78
            go_wp2_with fail
            refine (cX _).mono ?_
            rintro e w1 ⟨rfl, hb⟩
            have B := bxs_of hb
            have BX := Lib.hid B
            obtain ⟨x0, x1, x2, y0, y1, y2, ff, gg, hgr⟩ := B
            obtain ⟨t0, t1, t2⟩ := BX.out.set (.int .i64 v)
            clear hb hgr
            go_wp2
            obtain ⟨m0, m1, m2⟩ := BX.out.fin (.int .i64 v) (.int .i64 1) (.int .i64 v) (.string ⟨#[]⟩)
            have hg := BX.out.gr4 (.int .i64 v) (.int .i64 1) (.int .i64 v) (.string ⟨#[]⟩)
            clear BX t0 t1 t2
            generalize World.setCell _ _ _ = W at *
            exact bodyPost_ret (v := .tuple #[.agg #[.int .i64 1, .int .i64 v, .string ⟨#[]⟩], .int .i64 0]) (by simp [results, Tryz.results78, go_sem, m0, m1, m2]) rfl ⟨rfl, hg⟩
        · have b1 : ((s[s.size - 1].toNat : Int) == 90) = false := bf2 90 (fun e => hl ⟨h, e⟩)
          have h0 : (0 : Int) < s.size := by omega
          clear hl
          rcases hp : Clk.parB s.data.toList
          · unfold Va.secV at cX
            rw [hp, if_neg (by decide)] at cX
            rw [if_neg (by decide)]
            clear hp
            go_enter Tryz.func78, Tryz.ntmps78
            go_wp2_with fail
            refine (cX _).mono ?_
            rintro e w1 ⟨rfl, hb⟩
            have B := bxs_of hb
            have BX := Lib.hid B
            obtain ⟨x0, x1, x2, y0, y1, y2, ff, gg, hgr⟩ := B
            obtain ⟨t0, t1, t2⟩ := BX.out.set (.int .i64 (-1))
            clear hb hgr
            go_wp2
            obtain ⟨m0, m1, m2⟩ := BX.out.fin (.int .i64 (-1)) (.int .i64 0) (.int .i64 0) (.string ⟨#[]⟩)
            have hg := BX.out.gr4 (.int .i64 (-1)) (.int .i64 0) (.int .i64 0) (.string ⟨#[]⟩)
            clear BX t0 t1 t2
            generalize World.setCell _ _ _ = W at *
            exact bodyPost_ret (v := .tuple #[.agg #[.int .i64 0, .int .i64 0, .string ⟨#[]⟩], .int .i64 7]) (by simp [results, Tryz.results78, go_sem, m0, m1, m2]) rfl ⟨rfl, hg⟩
          · unfold Va.secV at cX
            rw [hp, if_pos rfl] at cX
            have hv := Va.parV_lo hp
            generalize Clk.parV s.data.toList = v at *
            have hv0 : ¬ v < 0 := by omega
            clear hv
            rw [if_pos rfl]
            clear hp
            go_enter Tryz.func78, Tryz.ntmps78
            go_wp2_with fail
            refine (cX _).mono ?_
            rintro e w1 ⟨rfl, hb⟩
            have B := bxs_of hb
            have BX := Lib.hid B
            obtain ⟨x0, x1, x2, y0, y1, y2, ff, gg, hgr⟩ := B
            obtain ⟨t0, t1, t2⟩ := BX.out.set (.int .i64 v)
            clear hb hgr
            go_wp2
            obtain ⟨m0, m1, m2⟩ := BX.out.fin (.int .i64 v) (.int .i64 1) (.int .i64 v) (.string ⟨#[]⟩)
            have hg := BX.out.gr4 (.int .i64 v) (.int .i64 1) (.int .i64 v) (.string ⟨#[]⟩)
            clear BX t0 t1 t2
            generalize World.setCell _ _ _ = W at *
            exact bodyPost_ret (v := .tuple #[.agg #[.int .i64 1, .int .i64 v, .string ⟨#[]⟩], .int .i64 0]) (by simp [results, Tryz.results78, go_sem, m0, m1, m2]) rfl ⟨rfl, hg⟩
    · rw [Va.rd_date]
      by_cases h8 : s.size = 8
      · have q8 : ((s.size : Int) == 8) = true := by rw [beq_iff_eq]; omega
        have hl8 : s.data.toList.length = 8 := by rw [← Lib.size_eq]; exact h8
        have cX := fun w => rseconds_any (s ++ ⟨#[84, 48, 48, 48, 48, 48, 48]⟩) w
        have ea : (s ++ ⟨#[84, 48, 48, 48, 48, 48, 48]⟩).data.toList = s.data.toList ++ [84, 48, 48, 48, 48, 48, 48] := by rw [ByteArray.data_append, Array.toList_append]
        rw [ea, Va.sec_day hl8] at cX
        clear ea hl8
        have H8 := Lib.hid h8
        have hs8 : s.size ≤ 100 := by omega
        clear h8
        rcases hp : Clk.dayB s.data.toList
        · rw [hp] at cX
          rw [if_neg (by decide)] at cX
          rw [if_neg (by decide)]
          clear hp
          go_enter Tryz.func78, Tryz.ntmps78
          go_wp2_with fail
          refine (cX _).mono ?_
          rintro e w1 ⟨rfl, hb⟩
          have B := bxs_of hb
          have BX := Lib.hid B
          obtain ⟨x0, x1, x2, y0, y1, y2, ff, gg, hgr⟩ := B
          obtain ⟨t0, t1, t2⟩ := BX.out.set (.int .i64 (-1))
          clear hb hgr
          go_wp2
          obtain ⟨m0, m1, m2⟩ := BX.out.fin (.int .i64 (-1)) (.int .i64 0) (.int .i64 0) (.string ⟨#[]⟩)
          have hg := BX.out.gr4 (.int .i64 (-1)) (.int .i64 0) (.int .i64 0) (.string ⟨#[]⟩)
          clear BX t0 t1 t2
          generalize World.setCell _ _ _ = W at *
          exact bodyPost_ret (v := .tuple #[.agg #[.int .i64 0, .int .i64 0, .string ⟨#[]⟩], .int .i64 7]) (by simp [results, Tryz.results78, go_sem, m0, m1, m2]) rfl ⟨rfl, hg⟩
        · rw [hp] at cX
          rw [if_pos rfl] at cX
          have hd := Clk.read_day' hp
          have hv := Cal.dayB_iff.1 hd
          clear hd
          generalize Cal.num (Clk.vY s.data.toList) (Clk.vM s.data.toList) (Clk.vD s.data.toList) = nn at *
          obtain ⟨v, hvv⟩ : ∃ v, 86400 * nn = v := ⟨_, rfl⟩
          rw [hvv] at cX
          rw [hvv]
          have hv0 : ¬ v < 0 := by omega
          clear hvv hv
          rw [if_pos rfl]
          clear hp
          go_enter Tryz.func78, Tryz.ntmps78
          go_wp2_with fail
          refine (cX _).mono ?_
          rintro e w1 ⟨rfl, hb⟩
          have B := bxs_of hb
          have BX := Lib.hid B
          obtain ⟨x0, x1, x2, y0, y1, y2, ff, gg, hgr⟩ := B
          obtain ⟨t0, t1, t2⟩ := BX.out.set (.int .i64 v)
          clear hb hgr
          go_wp2
          obtain ⟨m0, m1, m2⟩ := BX.out.fin (.int .i64 v) (.int .i64 0) (.int .i64 v) (.string ⟨#[]⟩)
          have hg := BX.out.gr4 (.int .i64 v) (.int .i64 0) (.int .i64 v) (.string ⟨#[]⟩)
          clear BX t0 t1 t2
          generalize World.setCell _ _ _ = W at *
          exact bodyPost_ret (v := .tuple #[.agg #[.int .i64 0, .int .i64 v, .string ⟨#[]⟩], .int .i64 0]) (by simp [results, Tryz.results78, go_sem, m0, m1, m2]) rfl ⟨rfl, hg⟩
      · have q8 : ((s.size : Int) == 8) = false := by rw [beq_eq_false_iff_ne]; omega
        rw [Va.day_len (by rw [← Lib.size_eq]; exact h8), if_neg (by decide)]
        clear h8
        go_enter Tryz.func78, Tryz.ntmps78
        go_wp2
        exact bodyPost_ret (v := .tuple #[.agg #[.int .i64 0, .int .i64 0, .string ⟨#[]⟩], .int .i64 7]) (by simp [results, Tryz.results78, go_sem]) rfl ⟨rfl, ((Gr.refl _).alloc _ _).alloc _ _⟩
  · have ez := emp_f z z0
    have hz := Va.ne_of_size z0
    rcases date
    · rcases hn : Va.zn z.data.toList
      · rw [hn] at cZ
        rw [Va.rd_zone hz (.inr hn)]
        clear hn hz z0
        go_enter Tryz.func78, Tryz.ntmps78
        go_wp2_with (go_at_call 88; refine (cZ _).mono ?_; rintro e w' ⟨rfl, rfl⟩)
        exact bodyPost_ret (v := .tuple #[.agg #[.int .i64 0, .int .i64 0, .string ⟨#[]⟩], .int .i64 7]) (by simp [results, Tryz.results78, go_sem]) rfl ⟨rfl, ((Gr.refl _).alloc _ _).alloc _ _⟩
      · rw [hn] at cZ
        rw [Va.rd_in hz hn]
        have cX := fun w => rseconds_any s w
        clear hn hz z0
        rcases hp : Clk.parB s.data.toList
        · unfold Va.secV at cX
          rw [hp, if_neg (by decide)] at cX
          rw [if_neg (by decide)]
          clear hp
          go_enter Tryz.func78, Tryz.ntmps78
          go_wp2_with (go_at_call 88; refine (cZ _).mono ?_; rintro e w' ⟨rfl, rfl⟩)
          refine (cX _).mono ?_
          rintro e w1 ⟨rfl, hb⟩
          have B := bxs_of hb
          have BX := Lib.hid B
          obtain ⟨x0, x1, x2, y0, y1, y2, ff, gg, hgr⟩ := B
          obtain ⟨t0, t1, t2⟩ := BX.out.set (.int .i64 (-1))
          clear hb hgr
          go_wp2
          obtain ⟨m0, m1, m2⟩ := BX.out.fin (.int .i64 (-1)) (.int .i64 0) (.int .i64 0) (.string ⟨#[]⟩)
          have hg := BX.out.gr4 (.int .i64 (-1)) (.int .i64 0) (.int .i64 0) (.string ⟨#[]⟩)
          clear BX t0 t1 t2
          generalize World.setCell _ _ _ = W at *
          exact bodyPost_ret (v := .tuple #[.agg #[.int .i64 0, .int .i64 0, .string ⟨#[]⟩], .int .i64 7]) (by simp [results, Tryz.results78, go_sem, m0, m1, m2]) rfl ⟨rfl, hg⟩
        · unfold Va.secV at cX
          rw [hp, if_pos rfl] at cX
          have hv := Va.parV_lo hp
          generalize Clk.parV s.data.toList = v at *
          have hv0 : ¬ v < 0 := by omega
          clear hv
          rw [if_pos rfl]
          clear hp
          go_enter Tryz.func78, Tryz.ntmps78
          go_wp2_with (go_at_call 88; refine (cZ _).mono ?_; rintro e w' ⟨rfl, rfl⟩)
          refine (cX _).mono ?_
          rintro e w1 ⟨rfl, hb⟩
          have B := bxs_of hb
          have BX := Lib.hid B
          obtain ⟨x0, x1, x2, y0, y1, y2, ff, gg, hgr⟩ := B
          obtain ⟨t0, t1, t2⟩ := BX.out.set (.int .i64 v)
          clear hb hgr
          go_wp2
          obtain ⟨m0, m1, m2⟩ := BX.out.fin (.int .i64 v) (.int .i64 3) (.int .i64 v) (.string z)
          have hg := BX.out.gr4 (.int .i64 v) (.int .i64 3) (.int .i64 v) (.string z)
          clear BX t0 t1 t2
          generalize World.setCell _ _ _ = W at *
          exact bodyPost_ret (v := .tuple #[.agg #[.int .i64 3, .int .i64 v, .string z], .int .i64 0]) (by simp [results, Tryz.results78, go_sem, m0, m1, m2]) rfl ⟨by show _ = Ending.returned (.tuple #[.agg #[_, _, .string ⟨z.data.toList.toArray⟩], _]); rw [Lib.mk_data], hg⟩
    · rw [Va.rd_zone hz (.inl rfl)]
      clear hz cZ z0
      go_enter Tryz.func78, Tryz.ntmps78
      go_wp2
      exact bodyPost_ret (v := .tuple #[.agg #[.int .i64 0, .int .i64 0, .string ⟨#[]⟩], .int .i64 7]) (by simp [results, Tryz.results78, go_sem]) rfl ⟨rfl, ((Gr.refl _).alloc _ _).alloc _ _⟩
end Go.Proofs.YtleeklcpbflfhaaGreatDoor
