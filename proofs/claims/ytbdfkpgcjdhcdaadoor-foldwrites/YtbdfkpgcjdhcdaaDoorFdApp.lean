/- What fold.appendFolded returns. -/
import Derived.Test.YtbdfkpgcjdhcdaaDoorFdMem
namespace Go.Proofs.YtbdfkpgcjdhcdaaDoor
open Go.RowKit

set_option maxHeartbeats 4000000 in
set_option maxRecDepth 100000 in
theorem appendFolded_any (B : Nat) (A : Option Addr) (n c : Nat) (l : List UInt8) (s : ByteArray) (w : World) (ht : Tab w) (h0 : 0 < B) (h1 : 1 < B) (hB : B ≤ w.heap.size)
    (hown : OwnV w B 5 A n c (bc l)) (hl : n ≤ 100000) (hs : s.size ≤ 100000) (hne : 0 < s.size) :
    Calls Tryd.prog 16 #[.slice A n c, .string s] w fun e w' => ∃ A' n' c', e = .returned (.slice A' n' c') ∧ OwnV w' B 5 A' n' c' (bc (l ++ Fd.line s.data.toList)) ∧ Below B w w' := by
  have hn : l.length = n := by simpa [bc] using hown.len
  have hsz := Lib.size_eq s
  have hsn : s.data.toList ≠ [] := by intro h; rw [h, List.length_nil] at hsz; omega
  have hfl := Fd.fit_le 75 s.data.toList
  have hfp := Fd.fit_pos 75 s.data.toList hsn (by omega)
  have hll := Fd.line_len s.data.toList
  have cF := fitting_any s 75 w ht (by omega) (by omega)
  have hle := Fd.line_eq s.data.toList
  rw [← hsz] at hfl hll
  obtain ⟨k0, hk0⟩ : ∃ k, Fd.fit 75 s.data.toList = k := ⟨_, rfl⟩
  rw [hk0] at hfl hfp hle cF
  have hfl1 := hfl.1
  obtain ⟨u0, hu0⟩ : ∃ u, s.extract 0 k0 = u := ⟨_, rfl⟩
  have hud : u0.data.toList = s.data.toList.take k0 := by rw [← hu0, extract_to]
  have hus : u0.size = k0 := by rw [Lib.size_eq, hud, List.length_take]; omega
  have HE := Lib.hid (And.intro hle (And.intro hsz (And.intro hud (And.intro hk0 hn))))
  clear hle hsz hud hk0 hn hsn hfl
  go_enter Tryd.func16, Tryd.ntmps16
  go_wp2_with (first
    | (go_at_call 24; refine cF.mono ?_; rintro e w1 ⟨rfl, hg1⟩)
    | (at_builtin; refine ap_text _ rfl (.tmp 8) (.tmp 11) rfl B A n c l rfl (hown.gr hg1) u0 rfl (by omega) (by have := hg1.lt; omega) ?_; intro A1 c1 w2 hown1 hb1))
  go_loopg [0, 1, 5] s.size (fun g v0 v1 v5 wx => ∃ A2 n2 c2 acc, ∃ t : ByteArray, ∃ k : Nat, v0 = .slice A2 n2 c2 ∧ v1 = .string t ∧ v5 = .int .i64 (k : Int) ∧ OwnV wx B 5 A2 n2 c2 (bc acc) ∧ Below B w wx ∧ Tab wx ∧ B ≤ wx.heap.size ∧
    t.size = g ∧ k ≤ t.size ∧ (0 < t.size → 1 ≤ k) ∧ t.size ≤ s.size ∧ Hid (acc ++ Fd.rest t.data.toList k ++ [13, 10] = l ++ Fd.line s.data.toList))
  case atStart =>
    rw [hus] at hown1
    refine ⟨_, _, _, _, s, k0, rfl, rfl, rfl, hown1, ((hg1.low hB).trans hb1), (ht.keep hg1).low hb1 h0 h1, ?_, rfl, hfl1, fun _ => hfp, Nat.le_refl _, ?_⟩
    · have := hg1.lt; have := hb1.size; omega
    · obtain ⟨e1, _, e3, _⟩ := HE.out
      exact Lib.hid (by rw [e1, e3]; simp)
  case round =>
    obtain ⟨A2, n2, c2, acc, t, k, rfl, rfl, rfl, hownr, hbr, htr, hBr, rfl, hkt, hkp, hts, HR⟩ := hrel
    have hacc : acc.length = n2 := by simpa [bc] using hownr.len
    have hRl := congrArg List.length HR.out
    simp only [List.length_append, List.length_cons, List.length_nil] at hRl
    have hnl := HE.out.2.2.2.2
    have htz := Lib.size_eq t
    by_cases hlt : k < t.size
    · have hrs := Fd.rest_step t.data.toList k (by omega)
      obtain ⟨t2, ht2⟩ : ∃ t2, t.extract k t.size = t2 := ⟨_, rfl⟩
      have htd : t2.data.toList = t.data.toList.drop k := by rw [← ht2, extract_from]
      have ht2s : t2.size = t.size - k := by rw [Lib.size_eq, htd, List.length_drop, ← htz]
      rw [← htd] at hrs
      have hk2l := Fd.fit_le 74 t2.data.toList
      have ht2n : t2.data.toList ≠ [] := by intro h; have := Lib.size_eq t2; rw [h, List.length_nil] at this; omega
      have hk2p := Fd.fit_pos 74 t2.data.toList ht2n (by omega)
      have cG := fitting_any t2 74 wr htr (by omega) (by omega)
      rw [← Lib.size_eq] at hk2l
      obtain ⟨k2, hk2⟩ : ∃ k2, Fd.fit 74 t2.data.toList = k2 := ⟨_, rfl⟩
      rw [hk2] at hk2l hk2p cG hrs
      have hk2m := hk2l.1
      obtain ⟨u, hu⟩ : ∃ u, t2.extract 0 k2 = u := ⟨_, rfl⟩
      have hud2 : u.data.toList = t2.data.toList.take k2 := by rw [← hu, extract_to]
      have hus2 : u.size = k2 := by rw [Lib.size_eq, hud2, List.length_take, ← Lib.size_eq]; omega
      rw [← hud2] at hrs
      have hrl := congrArg List.length hrs
      simp only [List.length_append, List.length_cons] at hrl
      rw [← Lib.size_eq u] at hrl
      have HX := Lib.hid (And.intro hrs (And.intro hacc hRl))
      have hbound : n2 + 3 + u.size ≤ 600000 := by omega
      clear hrs htd hk2 hud2 hrl hacc hRl hnl htz hk2l ht2n
      go_wp2_with (first
        | (go_at_call 24; refine cG.mono ?_; rintro e w3 ⟨rfl, hg3⟩)
        | (at_builtin; refine ap_text _ rfl (.tmp 22) (.const (.string ⟨#[13, 10, 32]⟩)) rfl B A2 n2 c2 acc rfl (hownr.gr hg3) ⟨#[13, 10, 32]⟩ rfl (by show n2 + 3 ≤ _; omega) (by have := hg3.lt; omega) ?_; intro A3 c3 w4 hown3 hb3)
        | (at_builtin; refine ap_text _ rfl (.tmp 24) (.tmp 27) rfl B A3 (n2 + 3) c3 _ rfl hown3 u rfl (by omega) (by have := hg3.lt; have := hb3.size; omega) ?_; intro A4 c4 w5 hown4 hb4))
      go_roundg t2.size
      case measure => omega
      case rel =>
        rw [hus2] at hown4
        have hbb := ((hg3.low hBr).trans hb3).trans hb4
        refine ⟨_, _, _, _, t2, k2, rfl, rfl, rfl, hown4, hbr.trans hbb, htr.low hbb h0 h1, by have := hbb.size; omega, rfl, hk2m, fun _ => hk2p, by omega, ?_⟩
        have e1 := HR.out
        rw [HX.out.1] at e1
        refine Lib.hid ?_
        rw [← e1]
        simp
    · have hre := Fd.rest_end t.data.toList k (by omega)
      have HX := Lib.hid hre
      have hb2 : n2 + 2 ≤ 600000 := by omega
      clear hre hRl hacc hnl htz
      go_wp2_with (at_builtin; refine ap_text _ rfl (.tmp 29) (.const (.string ⟨#[13, 10]⟩)) rfl B A2 n2 c2 acc rfl hownr ⟨#[13, 10]⟩ rfl (by show n2 + 2 ≤ _; omega) hBr ?_; intro A3 c3 w4 hown3 hb3)
      go_ret
      refine ⟨_, _, _, rfl, ?_, hbr.trans hb3⟩
      have e1 := HR.out
      rw [HX.out, List.append_nil] at e1
      rw [← e1]
      exact hown3
end Go.Proofs.YtbdfkpgcjdhcdaaDoor
