/- What line.Parse returns. -/
import Derived.Test.YtpcmhaflmpcicaaDoorLnLine
namespace Go.Proofs.YtpcmhaflmpcicaaDoor
open Go.RowKit

namespace Ln
theorem rp_long {s : List UInt8} (h : 2000 < s.length) : rp s = none := by rw [rp_rl, if_pos h]
theorem rp_utf {s : List UInt8} (h : Lib.validD s = false) : rp s = none := by
  rw [rp_rl]; split
  · rfl
  · rfl
theorem rp_ok {s : List UInt8} (h : s.length ≤ 2000) (h2 : Lib.validD s = true) : rp s = rl s := by rw [rp_rl, if_neg (by omega), if_neg (by simp [h2])]
end Ln
theorem PRow.cap {w : World} {B : Nat} {P : Nat → Prop} {e : TypeId} {A : Option Addr} {n c : Nat} {ps : List Ln.Par} (h : PRow w B P e A n c ps) : n ≤ c := by
  obtain ⟨xs, h1, _⟩ := h
  rcases h1.2 with ⟨hn, rfl⟩ | ⟨g, cap, cur, hv, _, _, hc, _⟩
  · exact Nat.zero_le _
  · injection hv with _ _ h3; omega
/- what Parse leaves behind: a line, or an error -/
def PsPost (L : List UInt8) (w : World) (e : Ending) (w' : World) : Prop :=
  (∃ l A n c, Ln.rp L = some l ∧ e = .returned (.tuple #[.agg #[.string ⟨l.name.toArray⟩, .slice A n c, .string ⟨l.value.toArray⟩], .int .i64 0, .int .i64 0]) ∧ Gr w w' ∧ Pars w' w'.heap.size A n l.ps ∧ n ≤ c) ∨
  (Ln.rp L = none ∧ ∃ E m : Int, e = .returned (.tuple #[.agg #[.string ⟨#[]⟩, .slice none 0 0, .string ⟨#[]⟩], .int .i64 m, .int .i64 E]) ∧ (E != 0) = true ∧ Gr w w')
theorem RB.new (w : World) (s : ByteArray) (t : TypeId) : RB (w.alloc (.cells #[.string s, .int .i64 0] t)) w.heap.size s 0 :=
  ⟨by simp, by simp, by rw [frozen?_alloc_cells]; simp [World.frozen?]⟩
set_option maxHeartbeats 4000000 in
set_option maxRecDepth 100000 in
theorem parse_any (s : ByteArray) (w : World) (ht : Tab w) (hs : s.size ≤ 140737488355328) :
    Calls Tryd.prog 16 #[.string s] w (PsPost s.data.toList w) := by
  have hgl := ht.lt
  have hg0 : Gr w (w.alloc (.cells #[.string ⟨#[]⟩, .slice none 0 0, .string ⟨#[]⟩] 32)) := (Gr.refl w).allocO _
  have hx0 := Bx3.new w (.string ⟨#[]⟩) (.slice none 0 0) (.string ⟨#[]⟩) 32
  have hsz := Lib.size_eq s
  by_cases hlong : 2000 < s.size
  · have HNo := Lib.hid (Ln.rp_long (s := s.data.toList) (by omega))
    have hli : (2000 : Int) < (s.size : Int) := by omega
    clear hsz hlong
    go_enter Tryd.func16, Tryd.ntmps16
    go_wp2
    exact bodyPost_ret (v := .tuple #[.agg #[.string ⟨#[]⟩, .slice none 0 0, .string ⟨#[]⟩], .int .i64 0, .int .i64 4]) (by simp [results, Tryd.results16, go_sem]) rfl (.inr ⟨HNo.out, 4, 0, rfl, rfl, hg0⟩)
  · have hli : ¬ (2000 : Int) < (s.size : Int) := by omega
    have cV := valid_any s _ (ht.keep hg0) (by omega)
    cases hv : Lib.validD s.data.toList
    · have HNo := Lib.hid (Ln.rp_utf (s := s.data.toList) hv)
      rw [hv] at cV
      clear hsz hv
      go_enter Tryd.func16, Tryd.ntmps16
      go_wp2_with fail
      refine cV.mono ?_
      rintro e w1 ⟨rfl, hg1⟩
      have hx1 := hx0.gr hg1
      have hg2 := hg0.trans hg1
      clear hx0
      have HX := Lib.hid hx1
      obtain ⟨x0, x1, x2, f0, f1, f2⟩ := hx1
      go_wp2
      obtain ⟨y0, y1, y2⟩ := HX.out.set3 (.string ⟨#[]⟩) (.slice none 0 0) (.string ⟨#[]⟩)
      have hbw := below_set3 (w := w1) (Nat.le_refl w.heap.size) (.string ⟨#[]⟩) (.slice none 0 0) (.string ⟨#[]⟩)
      generalize World.setCell (World.setCell (World.setCell _ _ _) _ _) _ _ = W at *
      exact bodyPost_ret (v := .tuple #[.agg #[.string ⟨#[]⟩, .slice none 0 0, .string ⟨#[]⟩], .int .i64 0, .int .i64 3]) (by simp [results, Tryd.results16, go_sem, y0, y1, y2]) rfl (.inr ⟨HNo.out, 3, 0, rfl, rfl, ⟨hg2.below.trans hbw⟩⟩)
    · have HP := Lib.hid (Ln.rp_ok (s := s.data.toList) (by omega) hv)
      rw [hv] at cV
      clear hsz hv
      go_enter Tryd.func16, Tryd.ntmps16
      go_wp2_with fail
      refine cV.mono ?_
      rintro e w1 ⟨rfl, hg1⟩
      have hx1 := hx0.gr hg1
      have hg2 := hg0.trans hg1
      have hsz1 := hx1.lt
      have ht1 := ht.keep hg2
      have hr1 := RB.new w1 s 57
      have hg3 : Gr w1 (w1.alloc (.cells #[.string s, .int .i64 0] 57)) := (Gr.refl w1).allocO _
      have cL := line_any w1.heap.size s _ hr1 (ht1.keep hg3) ⟨by omega, by omega⟩ (by omega)
      have hx2 := hx1.gr hg3
      have hg4 := hg2.trans hg3
      clear hx0 cV hx1 hg2
      go_wp2_with fail
      refine cL.mono ?_
      rintro e w2 (⟨l, A, n, c, j, hl, rfl, hm, hr2, hrow⟩ | ⟨hl, E, j, rfl, hE, hm, hr2⟩)
      · have hx3 := hx2.mv hm (by omega)
        have hb2 : Below w.heap.size w w2 := hg4.below.trans (hm.low (by omega) (by have := hg4.lt; omega))
        have hg5 : Gr w2 (w2.alloc (.cells #[.string ⟨l.name.toArray⟩, .slice A n c, .string ⟨l.value.toArray⟩] 32)) := (Gr.refl w2).allocO _
        have hx4 := hx3.gr hg5
        have hrow4 := hrow.gr hg5
        have hb4 := hb2.trans (hg5.low (by have := hb2.size; omega))
        have HL : Hid (Ln.rp s.data.toList = some l) := Lib.hid (HP.out.trans hl)
        have hB : (w1.alloc (.cells #[.string s, .int .i64 0] 57)).heap.size = w1.heap.size + 1 := by simp
        rw [hB] at hrow4
        clear hx2 hg4 cL hr1 hx3 hb2 hrow hl hm hr2
        have HX := Lib.hid hx4
        obtain ⟨x0, x1, x2, f0, f1, f2⟩ := hx4
        go_wp2
        obtain ⟨y0, y1, y2⟩ := HX.out.set3 (.string ⟨l.name.toArray⟩) (.slice A n c) (.string ⟨l.value.toArray⟩)
        have hbw := below_set3 (w := (w2.alloc (.cells #[.string ⟨l.name.toArray⟩, .slice A n c, .string ⟨l.value.toArray⟩] 32))) (Nat.le_refl w.heap.size) (.string ⟨l.name.toArray⟩) (.slice A n c) (.string ⟨l.value.toArray⟩)
        have hrow5 := hrow4.mv (mv_set3 _ w.heap.size (.string ⟨l.name.toArray⟩) (.slice A n c) (.string ⟨l.value.toArray⟩)) (by omega)
        generalize World.setCell (World.setCell (World.setCell _ _ _) _ _) _ _ = W at *
        exact bodyPost_ret (v := .tuple #[.agg #[.string ⟨l.name.toArray⟩, .slice A n c, .string ⟨l.value.toArray⟩], .int .i64 0, .int .i64 0]) (by simp [results, Tryd.results16, go_sem, y0, y1, y2]) rfl (.inl ⟨l, A, n, c, HL.out, rfl, ⟨hb4.trans hbw⟩, hrow5.pars, hrow5.cap⟩)
      · have hx3 := hx2.mv hm (by omega)
        have hb2 : Below w.heap.size w w2 := hg4.below.trans (hm.low (by omega) (by have := hg4.lt; omega))
        have hg5 : Gr w2 (w2.alloc (.cells #[.string ⟨#[]⟩, .slice none 0 0, .string ⟨#[]⟩] 32)) := (Gr.refl w2).allocO _
        have hx4 := hx3.gr hg5
        have hb4 := hb2.trans (hg5.low (by have := hb2.size; omega))
        have hr4 := hr2.keep hg5
        have HNo : Hid (Ln.rp s.data.toList = none) := Lib.hid (HP.out.trans hl)
        clear hx2 hg4 cL hr1 hx3 hb2 hl hm hr2
        have HX := Lib.hid hx4
        obtain ⟨x0, x1, x2, f0, f1, f2⟩ := hx4
        obtain ⟨d0, d1, d2⟩ := hr4
        go_wp2
        go_region
        go_wp2
        obtain ⟨y0, y1, y2⟩ := HX.out.set3 (.string ⟨#[]⟩) (.slice none 0 0) (.string ⟨#[]⟩)
        have hbw := below_set3 (w := (w2.alloc (.cells #[.string ⟨#[]⟩, .slice none 0 0, .string ⟨#[]⟩] 32))) (Nat.le_refl w.heap.size) (.string ⟨#[]⟩) (.slice none 0 0) (.string ⟨#[]⟩)
        generalize World.setCell (World.setCell (World.setCell _ _ _) _ _) _ _ = W at *
        exact bodyPost_ret (v := .tuple #[.agg #[.string ⟨#[]⟩, .slice none 0 0, .string ⟨#[]⟩], .int .i64 (j : Int), .int .i64 E]) (by simp [results, Tryd.results16, go_sem, y0, y1, y2]) rfl (.inr ⟨HNo.out, E, j, rfl, hE, ⟨(hb4.trans hbw).drew⟩⟩)
end Go.Proofs.YtpcmhaflmpcicaaDoor
