/- What a reader's value returns. -/
import Derived.Test.YtpcmhaflmpcicaaDoorLnSkip
namespace Go.Proofs.YtpcmhaflmpcicaaDoor
open Go.RowKit

/- the reader's box lies behind the tables of utf8 -/
def Hi (b : Nat) : Prop := 0 < b ∧ 1 < b
theorem Tab.mv {w w' : World} {b : Nat} (h : Tab w) (hg : Mv b w w') (hb : Hi b) : Tab w' := by
  have hl := h.lt
  exact ⟨fun c hc => (World.grownBy.cell_far hg ⟨0, c, none⟩ hl.1 (by simp; have := hb.1; omega)).trans (h.1 c hc),
    fun i hi => ⟨(World.grownBy.cell_far hg ⟨1, 2 * i, none⟩ hl.2 (by simp; have := hb.2; omega)).trans (h.2 i hi).1, (World.grownBy.cell_far hg ⟨1, 2 * i + 1, none⟩ hl.2 (by simp; have := hb.2; omega)).trans (h.2 i hi).2⟩⟩
theorem ext_mid (s : ByteArray) (i j : Nat) : (s.extract i j).data.toList = (s.data.toList.drop i).take (j - i) := by
  simp only [ByteArray.data_extract, Array.toList_extract, List.extract_eq_take_drop]
theorem raw_ext (s : ByteArray) (i : Nat) (x : List UInt8 × List UInt8) (h : Ln.sv (s.data.toList.drop i) = some x) : (s.extract i (i + x.1.length)).data.toList = x.1 ∧ i + x.1.length ≤ s.size ∧ s.data.toList.drop (i + x.1.length) = x.2 := by
  have e := Ln.sv_app (raw := x.1) (rest := x.2) h
  have hl := congrArg List.length e
  rw [List.length_drop, List.length_append, ← Lib.size_eq] at hl
  refine ⟨by rw [ext_mid, show i + x.1.length - i = x.1.length by omega, e, List.take_left], ?_, by rw [← List.drop_drop, e, List.drop_left]⟩
  rcases Nat.eq_zero_or_pos (s.size - i) with h0 | h0
  · rcases Nat.lt_or_ge s.size i with h1 | h1
    · have hn := drop_end s i (by omega)
      rw [hn] at h
      cases h
    · omega
  · omega
set_option maxHeartbeats 2000000 in
theorem rvalue_yes (b : Nat) (s : ByteArray) (i : Nat) (w : World) (h : RB w b s i) (ht : Tab w) (hb : Hi b) (hi : i ≤ s.size) (hs : s.size ≤ 400000) (x : List UInt8 × List UInt8) (hx : Ln.sv (s.data.toList.drop i) = some x) (hE : Es.vlE x.1 = 0) :
    Calls Tryd.prog 50 #[.pointer (some ⟨b, 0, none⟩)] w fun e w' => e = .returned (.tuple #[.string ⟨(Es.vlT x.1).toArray⟩, .int .i64 0]) ∧ Mv b w w' ∧ RB w' b s (i + x.1.length) := by
  obtain ⟨r1, r2, r3⟩ := raw_ext s i x hx
  have cS := (skipValue_any b s i w h hi hs).mono (R' := fun e w' => e = .returned (.bool true) ∧ Mv b w w' ∧ RB w' b s (i + x.1.length)) (fun e w' ⟨h1, h2, j, h3, _, _, h6⟩ => ⟨by rw [h1, hx]; rfl, h2, h6 x hx ▸ h3⟩)
  have cV := fun w1 (t1 : Tab w1) => value_any (s.extract i (i + x.1.length)) w1 t1 (by rw [Lib.size_eq, r1]; omega)
  rw [r1, hE] at cV
  have hij : i ≤ i + x.1.length := by omega
  generalize i + x.1.length = j at *
  generalize (ByteArray.mk (Es.vlT x.1).toArray) = T at *
  clear r1 r3 hx hE
  obtain ⟨c0, c1, c2⟩ := h
  go_enter Tryd.func50, Tryd.ntmps50
  go_wp2_with fail
  refine cS.mono ?_
  rintro e w1 ⟨rfl, hm1, hr1⟩
  have ht1 := ht.mv hm1 hb
  have HR := Lib.hid hr1
  obtain ⟨d0, d1, d2⟩ := hr1
  go_wp2_with fail
  go_region_held3 (fun w' => w'.cell? ⟨b, 0, none⟩ = some (.string s) ∧ w'.cell? ⟨b, 1, none⟩ = some (.int .i64 (j : Int)))
    (first | exact ⟨d0, d1⟩ | exact ⟨f0, f1⟩)
    (first | (go_at_call 57; refine (cV _ (by exact ht1)).mono ?_; rintro e w2 ⟨rfl, hg2⟩; have hg3 := (Gr.refl w1).drew.trans hg2; have hr3 := HR.out.keep hg3; have HR3 := Lib.hid hr3; obtain ⟨f0, f1, f2⟩ := hr3))
  go_wp2
  go_ret2
  exact ⟨rfl, hm1.trans (hg3.mv b), HR3.out⟩
set_option maxHeartbeats 2000000 in
theorem rvalue_bad (b : Nat) (s : ByteArray) (i : Nat) (w : World) (h : RB w b s i) (ht : Tab w) (hb : Hi b) (hi : i ≤ s.size) (hs : s.size ≤ 400000) (x : List UInt8 × List UInt8) (hx : Ln.sv (s.data.toList.drop i) = some x) (hE : Es.vlE x.1 ≠ 0) :
    Calls Tryd.prog 50 #[.pointer (some ⟨b, 0, none⟩)] w fun e w' => e = .returned (.tuple #[.string ⟨#[]⟩, .int .i64 7]) ∧ Mv b w w' ∧ RB w' b s i := by
  obtain ⟨r1, r2, r3⟩ := raw_ext s i x hx
  have cS := (skipValue_any b s i w h hi hs).mono (R' := fun e w' => e = .returned (.bool true) ∧ Mv b w w' ∧ RB w' b s (i + x.1.length)) (fun e w' ⟨h1, h2, j, h3, _, _, h6⟩ => ⟨by rw [h1, hx]; rfl, h2, h6 x hx ▸ h3⟩)
  have cV := fun w1 (t1 : Tab w1) => value_any (s.extract i (i + x.1.length)) w1 t1 (by rw [Lib.size_eq, r1]; omega)
  rw [r1] at cV
  have hE2 : ((Es.vlE x.1 : Int) != 0) = true := by simpa using hE
  have hij : i ≤ i + x.1.length := by omega
  generalize i + x.1.length = j at *
  generalize (ByteArray.mk (Es.vlT x.1).toArray) = T at *
  clear r1 r3 hx hE
  generalize Es.vlE x.1 = E at *
  obtain ⟨c0, c1, c2⟩ := h
  go_enter Tryd.func50, Tryd.ntmps50
  go_wp2_with fail
  refine cS.mono ?_
  rintro e w1 ⟨rfl, hm1, hr1⟩
  have ht1 := ht.mv hm1 hb
  have HR := Lib.hid hr1
  obtain ⟨d0, d1, d2⟩ := hr1
  go_wp2_with fail
  go_region_held3 (fun w' => w'.cell? ⟨b, 0, none⟩ = some (.string s) ∧ w'.cell? ⟨b, 1, none⟩ = some (.int .i64 (j : Int)))
    (first | exact ⟨d0, d1⟩ | exact ⟨f0, f1⟩)
    (first | (go_at_call 57; refine (cV _ (by exact ht1)).mono ?_; rintro e w2 ⟨rfl, hg2⟩; have hg3 := (Gr.refl w1).drew.trans hg2; have hr3 := HR.out.keep hg3; have HR3 := Lib.hid hr3; obtain ⟨f0, f1, f2⟩ := hr3))
  go_wp2
  go_ret2
  exact ⟨rfl, (hm1.trans (hg3.mv b)).trans (Mv.set b _ 1 _), HR3.out.set i⟩
set_option maxHeartbeats 2000000 in
theorem rvalue_none (b : Nat) (s : ByteArray) (i : Nat) (w : World) (h : RB w b s i) (hi : i ≤ s.size) (hs : s.size ≤ 400000) (hx : Ln.sv (s.data.toList.drop i) = none) :
    Calls Tryd.prog 50 #[.pointer (some ⟨b, 0, none⟩)] w fun e w' => e = .returned (.tuple #[.string ⟨#[]⟩, .int .i64 5]) ∧ Mv b w w' ∧ ∃ j, RB w' b s j := by
  have cS := (skipValue_any b s i w h hi hs).mono (R' := fun e w' => e = .returned (.bool false) ∧ Mv b w w' ∧ ∃ j, RB w' b s j) (fun e w' ⟨h1, h2, j, h3, _⟩ => ⟨by rw [h1, hx]; rfl, h2, j, h3⟩)
  clear hx
  obtain ⟨c0, c1, c2⟩ := h
  go_enter Tryd.func50, Tryd.ntmps50
  go_wp2_with fail
  refine cS.mono ?_
  rintro e w1 ⟨rfl, hm1, j, hr1⟩
  go_wp2
  go_ret2
  exact ⟨rfl, hm1, j, hr1⟩
end Go.Proofs.YtpcmhaflmpcicaaDoor
