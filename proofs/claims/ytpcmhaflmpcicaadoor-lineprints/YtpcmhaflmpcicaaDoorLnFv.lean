/- What formedValue and strings.Clone return; a box of three cells. -/
import Derived.Test.YtpcmhaflmpcicaaDoorLnPa2
import Derived.Test.YtpcmhaflmpcicaaDoorLnRow
import Derived.Test.YtpcmhaflmpcicaaDoorShelf2
namespace Go.Proofs.YtpcmhaflmpcicaaDoor
open Go.RowKit

theorem clone_any (s : ByteArray) (w : World) (hs : s.size ≤ 140737488355328) : Calls Tryd.prog 34 #[.string s] w fun e w' => e = .returned (.string s) ∧ Gr w w' := by
  have cC := Tryd.stringslite_Clone s w (by omega)
  go_enter Tryd.func34, Tryd.ntmps34
  go_wp2_with (go_at_call 45; refine cC.mono ?_; rintro e w' ⟨rfl, hg⟩)
  go_ret
  exact ⟨rfl, ⟨hg⟩⟩
namespace Es
theorem clE_bad {f : Bool} {l : List UInt8} (h : l.any (bad f) = true) : clE f l ≠ 0 := by
  intro e
  rw [(clE_zero e).2] at h; cases h
theorem clE_iff {f : Bool} {l : List UInt8} (h : l.any (bad f) = false) : decide (clE f l = 0) = Lib.validD l := by
  cases hv : Lib.validD l
  · rw [clE_utf hv]; rfl
  · rw [clE_ok hv h]; rfl
theorem bad_low {b : UInt8} (h : (b.toNat : Int) < 32) (h9 : b ≠ 9) : bad false b = true := by
  unfold bad
  have h3 : decide (b.toNat < 32) = true := decide_eq_true (by omega)
  have h4 : (b != 9) = true := by simpa using h9
  rw [h3, h4]; simp
end Es
set_option maxHeartbeats 2000000 in
set_option maxRecDepth 100000 in
theorem fval_any (s : ByteArray) (w : World) (ht : Tab w) (hs : s.size ≤ 140737488355328) :
    Calls Tryd.prog 23 #[.string s] w fun e w' => e = .returned (.bool (decide (Es.clE false s.data.toList = 0))) ∧ Gr w w' := by
  have cV := valid_any s w ht (by omega)
  have HB := Lib.hid (fun h => decide_eq_false (Es.clE_bad (f := false) (l := s.data.toList) h))
  have HO := Lib.hid (fun h => Es.clE_iff (f := false) (l := s.data.toList) h)
  generalize decide (Es.clE false s.data.toList = 0) = E at *
  generalize Lib.validD s.data.toList = V at *
  go_enter Tryd.func23, Tryd.ntmps23
  go_wp2
  go_loopg [7] s.size (fun g v wx => ∃ i : Nat, v = .int .i64 (i : Int) ∧ i + g = s.size ∧ w = wx ∧ Hid ((s.data.toList.take i).any (Es.bad false) = false))
  case atStart => exact ⟨0, rfl, by omega, rfl, Lib.hid (by simp)⟩
  case round =>
    obtain ⟨i, rfl, hig, rfl, HN⟩ := hrel
    have HG := Lib.hid hig
    clear hig
    by_cases hi : i < s.size
    · have hlt : (s[i].toNat : Int) < 256 := by have := UInt8.toNat_lt s[i]; omega
      cases h127 : ((s[i].toNat : Int) == 127)
      · by_cases h32 : (s[i].toNat : Int) < 32
        · cases h9 : ((s[i].toNat : Int) == 9)
          · have HE := Lib.hid (HB.out (Es.any_at hi (Es.bad_low h32 (by_f 9 h9))))
            go_wp2
            go_ret
            exact ⟨ret_bool HE.out.symm, Gr.refl _⟩
          · have HE := Lib.hid (Es.any_more hi HN.out (by rw [by_t 9 h9]; rfl))
            go_wp2
            go_roundg (s.size - (i + 1))
            case measure => have := HG.out; omega
            case rel => exact ⟨i + 1, by go_num, by omega, rfl, HE⟩
        · have HE := Lib.hid (Es.any_more hi HN.out (Es.bad_high false _ (by_f 127 h127) (by omega)))
          go_wp2
          go_roundg (s.size - (i + 1))
          case measure => have := HG.out; omega
          case rel => exact ⟨i + 1, by go_num, by omega, rfl, HE⟩
      · have HE := Lib.hid (HB.out (Es.any_at hi (by rw [by_t 127 h127]; exact Es.bad_del false)))
        go_wp2
        go_ret
        exact ⟨ret_bool HE.out.symm, Gr.refl _⟩
    · have he := HN.out
      rw [take_end s i (by omega)] at he
      have HE := Lib.hid (HO.out he)
      obtain rfl : i = s.size := by have := HG.out; omega
      clear he
      go_wp2_with (go_at_call 29; refine cV.mono ?_; rintro e w1 ⟨rfl, hg1⟩)
      go_ret
      exact ⟨ret_bool HE.out.symm, hg1⟩
/- a box of three cells that may be written -/
structure Bx3 (w : World) (b : Nat) (x y z : Value) : Prop where
  c0 : w.cell? ⟨b, 0, none⟩ = some x
  c1 : w.cell? ⟨b, 1, none⟩ = some y
  c2 : w.cell? ⟨b, 2, none⟩ = some z
  f0 : w.frozen? ⟨b, 0, none⟩ = false
  f1 : w.frozen? ⟨b, 1, none⟩ = false
  f2 : w.frozen? ⟨b, 2, none⟩ = false
theorem Bx3.lt {w : World} {b : Nat} {x y z : Value} (h : Bx3 w b x y z) : b < w.heap.size := World.block_lt_of_cell? _ _ h.c0
theorem Bx3.new (w : World) (x y z : Value) (t : TypeId) : Bx3 (w.alloc (.cells #[x, y, z] t)) w.heap.size x y z :=
  ⟨by simp, by simp, by simp, by rw [frozen?_alloc_cells]; simp [World.frozen?], by rw [frozen?_alloc_cells]; simp [World.frozen?], by rw [frozen?_alloc_cells]; simp [World.frozen?]⟩
theorem Bx3.block {w w' : World} {b : Nat} {x y z : Value} (h : Bx3 w b x y z) (hb : w'.heap[b]? = w.heap[b]?) : Bx3 w' b x y z :=
  ⟨(World.cell?_of_block (w := w) hb).trans h.c0, (World.cell?_of_block (w := w) hb).trans h.c1, (World.cell?_of_block (w := w) hb).trans h.c2, (World.frozen?_of_block (w := w) hb).trans h.f0, (World.frozen?_of_block (w := w) hb).trans h.f1, (World.frozen?_of_block (w := w) hb).trans h.f2⟩
theorem Bx3.gr {w w' : World} {b : Nat} {x y z : Value} (h : Bx3 w b x y z) (hg : Gr w w') : Bx3 w' b x y z := h.block (hg.below.block _ h.lt)
theorem Bx3.mv {w w' : World} {b k : Nat} {x y z : Value} (h : Bx3 w b x y z) (hg : Mv k w w') (hk : b ≠ k) : Bx3 w' b x y z := h.block (hg.block _ h.lt (fun e => hk (by injection e)))
theorem Bx3.below {w w' : World} {b B : Nat} {x y z : Value} (h : Bx3 w b x y z) (hg : Below B w w') (hb : b < B) : Bx3 w' b x y z := h.block (hg.block _ hb)
theorem Bx3.set3 {w : World} {b : Nat} {x y z : Value} (h : Bx3 w b x y z) (u v t : Value) :
    (((w.setCell ⟨b, 0, none⟩ u).setCell ⟨b, 1, none⟩ v).setCell ⟨b, 2, none⟩ t).cell? ⟨b, 0, none⟩ = some u ∧ (((w.setCell ⟨b, 0, none⟩ u).setCell ⟨b, 1, none⟩ v).setCell ⟨b, 2, none⟩ t).cell? ⟨b, 1, none⟩ = some v ∧ (((w.setCell ⟨b, 0, none⟩ u).setCell ⟨b, 1, none⟩ v).setCell ⟨b, 2, none⟩ t).cell? ⟨b, 2, none⟩ = some t := box_set3 h.c0 h.c1 h.c2 u v t
theorem below_set3 {w : World} {b B : Nat} (hb : B ≤ b) (u v t : Value) : Below B w (((w.setCell ⟨b, 0, none⟩ u).setCell ⟨b, 1, none⟩ v).setCell ⟨b, 2, none⟩ t) :=
  (((Below.refl B w).setCell (p := ⟨b, 0, none⟩) hb u).setCell (p := ⟨b, 1, none⟩) hb v).setCell (p := ⟨b, 2, none⟩) hb t
theorem mv_set3 (w : World) (b : Nat) (u v t : Value) : Mv b w (((w.setCell ⟨b, 0, none⟩ u).setCell ⟨b, 1, none⟩ v).setCell ⟨b, 2, none⟩ t) := ((Mv.set b w 0 u).trans (Mv.set b _ 1 v)).trans (Mv.set b _ 2 t)
end Go.Proofs.YtpcmhaflmpcicaaDoor
