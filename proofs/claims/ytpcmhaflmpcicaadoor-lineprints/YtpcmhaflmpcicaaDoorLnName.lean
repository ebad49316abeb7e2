/- What a reader's name returns. -/
import Derived.Test.YtpcmhaflmpcicaaDoorLnBox
import Derived.Test.YtpcmhaflmpcicaaDoorEsTx
import Derived.Deep.RegionHeld3
namespace Go.Proofs.YtpcmhaflmpcicaaDoor
open Go.RowKit

theorem Mv.below {b : Nat} {w w1 w2 : World} (h : Mv b w w1) (k : Below w.heap.size w1 w2) : Mv b w w2 :=
  ⟨k.os.trans h.os, k.tape.trans h.tape, k.output.trans h.output, Nat.le_trans h.size k.size, fun i hi hne => (k.block i hi).trans (h.block i hi hne)⟩
theorem RB.below {w w' : World} {b B : Nat} {s : ByteArray} {i : Nat} (h : RB w b s i) (hg : Below B w w') (hb : b < B) : RB w' b s i :=
  ⟨(hg.cell hb).trans h.c0, (hg.cell hb).trans h.c1, (hg.frozen hb).trans h.free⟩
/- append(out, byte) inside a region that draws its order -/
theorem st_byte {ops : Array Oper} {o : Oper} {a : Act} {K : Act → World → Prop} {Q : Exit → Act → World → Prop} {E : Prop} (w : World) (hgd : o.guard = none) (sl x : Operand)
    (ho : o.op = .call { callee := .builtin .append, args := #[sl, x], argTypes := #[48, 48] })
    (B : Nat) (A : Option Addr) (n c : Nat) (l : List UInt8) (hs : a.eval sl = .slice A n c) (hown : OwnV w B 5 A n c (bc l)) (b : UInt8) (hx : a.eval x = .slice (some ⟨w.heap.size, 0, none⟩) 1 1)
    (hlen : n + 1 ≤ 1000000) (hB : B ≤ w.heap.size)
    (h : ∀ A' c' w', OwnV w' B 5 A' (n + 1) c' (bc (l ++ [b])) → Below B w w' → K (a.put o.dst (.slice A' (n + 1) c')) w') :
    if Region.wanted o (yielded ops a.tmps) = true then Oper.wp Tryd.prog o a (w.alloc (.cells #[.int .u8 (b.toNat : Int)] 5)).drew K Q else E := by
  obtain ⟨i0, hi, hz0, hz1, hz2⟩ := info_parts info_u8
  have hsz : (w.alloc (.cells #[.int .u8 (b.toNat : Int)] 5)).drew.heap.size = w.heap.size + 1 := by simp
  have hown2 : (w.alloc (.cells #[.int .u8 (b.toNat : Int)] 5)).drew.ownsRow B 5 1 (.slice A n c) n (bc l) := World.ownsRow.alloc hown _
  refine step_append_lies _ hgd sl x 48 ho B 5 i0 (.int .u8 0) 1 1 Tryd.underlying48 hi hz0 hz1 hz2 rfl (by omega) (.slice A n c) n (bc l) hs hown2 ⟨w.heap.size, 0, none⟩ 1 1 [.int .u8 (b.toNat : Int)] hx rfl
    (World.news_of_block (cs := #[.int .u8 (b.toNat : Int)]) (t := 5) (fr := (0, 0)) (heap_alloc_new w _)) (by simp [Value.oneCell']) (by omega) (by unfold maxLen; omega) (by omega) (by omega) (w.heap.size + 1) (by simp) ?_
  intro g cap w' h1 h2 _ _
  refine h _ _ w' ?_ (((Below.refl B w).alloc hB _).drew.trans (below_of_grown hown2 (by omega) h2))
  rw [bc_append]
  exact h1
namespace Ln
theorem nm_step (k : Nat) (s : ByteArray) (j : Nat) (hj : j < s.size) (h : inN (up s[j]) = true) : nm (k + 1) (s.data.toList.drop j) = (up s[j] :: (nm k (s.data.toList.drop (j + 1))).1, (nm k (s.data.toList.drop (j + 1))).2) := by
  rw [drop_at s j hj, nm_yes _ _ _ h]
theorem nm_stop (k : Nat) (s : ByteArray) (j : Nat) (hj : j < s.size) (h : inN (up s[j]) = false) : nm k (s.data.toList.drop j) = ([], s.data.toList.drop j) := by
  rw [drop_at s j hj, nm_no _ _ _ h]
end Ln
set_option maxHeartbeats 4000000 in
set_option maxRecDepth 100000 in
theorem name_any (b : Nat) (s : ByteArray) (i : Nat) (w : World) (h : RB w b s i) (hi : i ≤ s.size) (hs : s.size ≤ 400000) :
    Calls Tryd.prog 41 #[.pointer (some ⟨b, 0, none⟩)] w fun e w' => e = .returned (.tuple #[.string ⟨(Ln.nm 60 (s.data.toList.drop i)).1.toArray⟩, .bool (decide (0 < (Ln.nm 60 (s.data.toList.drop i)).1.length))]) ∧ Mv b w w' ∧ ∃ j, RB w' b s j ∧ i ≤ j ∧ j ≤ s.size ∧ s.data.toList.drop j = (Ln.nm 60 (s.data.toList.drop i)).2 := by
  have hbl := h.lt
  obtain ⟨N, hN⟩ : ∃ N, Ln.nm 60 (s.data.toList.drop i) = N := ⟨_, rfl⟩
  rw [hN]
  have HN := Lib.hid hN
  have HR := Lib.hid h
  clear hN h
  go_enter Tryd.func41, Tryd.ntmps41
  go_wp2
  go_loopg [4] (s.size - i) (fun g v4 wx => ∃ A n c acc, ∃ j : Nat, v4 = .slice A n c ∧ n ≤ 60 ∧ i ≤ j ∧ j + g = s.size ∧ OwnV wx w.heap.size 5 A n c (bc acc) ∧ Mv b w wx ∧ w.heap.size ≤ wx.heap.size ∧ RB wx b s j ∧ Hid (N = (acc ++ (Ln.nm (60 - n) (s.data.toList.drop j)).1, (Ln.nm (60 - n) (s.data.toList.drop j)).2)))
  case atStart => exact ⟨_, _, _, [], i, rfl, by omega, by omega, by omega, OwnV.nil _ _ _, Mv.refl _ _, by omega, HR.out, Lib.hid (by rw [← HN.out]; rfl)⟩
  case round =>
    obtain ⟨A, n, c, acc, j, rfl, hn, hij, hjg, hown, hmv, hsz, hrb, HA⟩ := hrel
    have HG := Lib.hid hjg
    clear hjg
    have hacc : acc.length = n := by simpa [bc] using hown.len
    have HL := Lib.hid hacc
    clear hacc
    have HB := Lib.hid hrb
    obtain ⟨c0, c1, c2⟩ := hrb
    by_cases hj : j < s.size
    · by_cases h60 : n < 60
      · have h60i : (n : Int) < 60 := by omega
        have h60d : decide ((n : Int) < 60) = true := decide_eq_true h60i
        have cU := fun w => upper_any s[j] w
        have cI := fun w => inName_any (Ln.up s[j]) w
        cases hin : Ln.inN (Ln.up s[j])
        · have HE : Hid (N = (acc, s.data.toList.drop j)) := Lib.hid (by rw [HA.out, Ln.nm_stop _ s j hj hin]; simp)
          rw [hin] at cI
          clear hin
          go_wp2
          go_quiet (first | (go_at_call 49; exact qsame (cU _)) | (go_at_call 27; exact qsame (cI _)))
          have hown1 : OwnV (wr.drewN nq) w.heap.size 5 A n c (bc acc) := hown.gr ((Gr.refl _).drewN nq)
          have hcv := conv_back hown1
          go_wp2
          go_ret2
          rw [HE.out]
          exact ⟨by rw [show (acc, s.data.toList.drop j).1 = acc from rfl, HL.out]; first | done | rfl, hmv.drewN nq, j, HB.out.drew nq, hij, by omega, rfl⟩
        · have hst := Ln.nm_step (60 - (n + 1)) s j hj hin
          rw [show 60 - (n + 1) + 1 = 60 - n by omega] at hst
          have HA2 : Hid (N = (acc ++ [Ln.up s[j]] ++ (Ln.nm (60 - (n + 1)) (s.data.toList.drop (j + 1))).1, (Ln.nm (60 - (n + 1)) (s.data.toList.drop (j + 1))).2)) := Lib.hid (by rw [HA.out, hst]; simp)
          rw [hin] at cI
          clear hst hin
          go_wp2
          go_quiet (first | (go_at_call 49; exact qsame (cU _)) | (go_at_call 27; exact qsame (cI _)))
          have hmv1 := hmv.drewN nq
          have hsz1 : w.heap.size ≤ (wr.drewN nq).heap.size := hsz
          have hb1 := HB.out.drew nq
          have hown1 : OwnV (wr.drewN nq) w.heap.size 5 A n c (bc acc) := hown.gr ((Gr.refl _).drewN nq)
          clear hown hmv hsz c0 c1 c2 HB
          generalize wr.drewN nq = w1 at *
          have HB := Lib.hid hb1
          obtain ⟨c0, c1, c2⟩ := hb1
          have hb1l : b < w1.heap.size := by omega
          have hn1 : n + 1 ≤ 1000000 := by omega
          go_wp2_with fail
          go_region_held3 (fun w' => w'.cell? ⟨b, 0, none⟩ = some (.string s) ∧ w'.cell? ⟨b, 1, none⟩ = some (.int .i64 (j : Int)))
            (first | exact ⟨c0, c1⟩ | exact ⟨(hb3.cell hbl).trans c0, (hb3.cell hbl).trans c1⟩ | go_keep)
            (first | (go_at_call 49; refine (cU _).mono ?_; rintro e w' ⟨rfl, rfl⟩) | (refine st_byte w1 (by rfl) (.tmp 33) (.tmp 44) (by rfl) w.heap.size A n c acc (by rfl) hown1 (Ln.up s[j]) (by rfl) hn1 hsz1 ?_; intro A3 c3 w3 hown3 hb3))
          have hb3r := HB.out.below hb3 hbl
          have HB3 := Lib.hid hb3r
          have hmv3 := hmv1.below hb3
          have hsz3 : w.heap.size ≤ w3.heap.size := by have := hb3.size; omega
          obtain ⟨d0, d1, d2⟩ := hb3r
          clear c0 c1 c2 hown1 hmv1 hsz1
          go_wp2
          go_roundg (s.size - (j + 1))
          case measure => have := HG.out; omega
          case rel => exact ⟨_, n + 1, _, acc ++ [Ln.up s[j]], j + 1, rfl, by omega, by omega, by omega, ownsRow_setCell_below hown3 (a := ⟨b, 1, none⟩) hbl _, hmv3.trans (Mv.set b _ 1 _), by simpa using hsz3, HB3.out.set (j + 1), HA2⟩
      · have h60d : decide ((n : Int) < 60) = false := decide_eq_false (by omega)
        have HE : Hid (N = (acc, s.data.toList.drop j)) := Lib.hid (by rw [HA.out, show 60 - n = 0 by omega, Ln.nm_zero]; simp)
        go_wp2
        go_quiet (fail)
        have hown1 : OwnV (wr.drewN nq) w.heap.size 5 A n c (bc acc) := hown.gr ((Gr.refl _).drewN nq)
        have hcv := conv_back hown1
        go_wp2
        go_ret2
        rw [HE.out]
        exact ⟨by rw [show (acc, s.data.toList.drop j).1 = acc from rfl, HL.out]; first | done | rfl, hmv.drewN nq, j, HB.out.drew nq, hij, by omega, rfl⟩
    · obtain rfl : j = s.size := by have := HG.out; omega
      have HE : Hid (N = (acc, s.data.toList.drop s.size)) := Lib.hid (by rw [HA.out, drop_end s s.size (Nat.le_refl _), Ln.nm_nil]; simp)
      go_wp2
      go_quiet (fail)
      have hown1 : OwnV (wr.drewN nq) w.heap.size 5 A n c (bc acc) := hown.gr ((Gr.refl _).drewN nq)
      have hcv := conv_back hown1
      go_wp2
      go_ret2
      rw [HE.out]
      exact ⟨by rw [show (acc, s.data.toList.drop s.size).1 = acc from rfl, HL.out]; first | done | rfl, hmv.drewN nq, s.size, HB.out.drew nq, hij, by omega, rfl⟩
end Go.Proofs.YtpcmhaflmpcicaaDoor
