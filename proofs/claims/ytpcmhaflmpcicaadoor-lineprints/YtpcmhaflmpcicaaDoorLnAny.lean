/- strings.IndexAny, at which place: at a set of bytes of ASCII, and at one byte. -/
import Derived.Test.YtpcmhaflmpcicaaDoorEsAny
import Derived.Test.YtpcmhaflmpcicaaDoorLnBox
namespace Go.Proofs.YtpcmhaflmpcicaaDoor
open Go.RowKit

namespace Ln
open Go.Lib Go.Proofs.YtpcmhaflmpcicaaDoor.Fd
/- how many bytes are ahead of the first one of the set -/
def tk (cs l : List UInt8) : Nat := (l.takeWhile fun b => !cs.contains b).length
def ix (cs l : List UInt8) : Int := if tk cs l = l.length then -1 else (tk cs l : Int)
theorem tk_nil (cs : List UInt8) : tk cs [] = 0 := rfl
theorem tk_in (cs l : List UInt8) (b : UInt8) (h : cs.contains b = true) : tk cs (b :: l) = 0 := by unfold tk; rw [List.takeWhile_cons, if_neg (by simpa using h)]; rfl
theorem tk_out (cs l : List UInt8) (b : UInt8) (h : cs.contains b = false) : tk cs (b :: l) = tk cs l + 1 := by unfold tk; rw [List.takeWhile_cons, if_pos (by simpa using h)]; rfl
theorem tk_le (cs l : List UInt8) : tk cs l ≤ l.length := by
  induction l with
  | nil => exact Nat.le_refl _
  | cons b l ih =>
    cases h : cs.contains b
    · rw [tk_out _ _ _ h, List.length_cons]; omega
    · rw [tk_in _ _ _ h]; omega
theorem tk_at (cs l : List UInt8) : ∀ i b, NoC cs l i → l[i]? = some b → b ∈ cs → tk cs l = i := by
  induction l with
  | nil => intro i b _ h _; simp at h
  | cons x l ih =>
    intro i b hno h hb
    rcases i with _ | i
    · have : x = b := by simpa using h
      subst this
      exact tk_in _ _ _ (by simpa using hb)
    · have hx : cs.contains x = false := by
        have := hno 0 x (by omega) rfl
        simpa using this
      rw [tk_out _ _ _ hx, ih i b (fun j y hj hy => hno (j + 1) y (by omega) (by simpa using hy)) (by simpa using h) hb]
theorem tk_none (cs l : List UInt8) (h : NoC cs l l.length) : tk cs l = l.length := by
  induction l with
  | nil => rfl
  | cons x l ih =>
    have hx : cs.contains x = false := by
      have := h 0 x (by simp) rfl
      simpa using this
    rw [tk_out _ _ _ hx, ih (fun j y hj hy => h (j + 1) y (by simpa using hj) (by simpa using hy)), List.length_cons]
theorem ix_any (cs l : List UInt8) : indexAny l cs = ix cs l := by
  induction l with
  | nil => rfl
  | cons b l ih =>
    have hl := tk_le cs l
    have e : indexAny (b :: l) cs = if cs.contains b then 0 else if indexAny l cs == -1 then -1 else indexAny l cs + 1 := rfl
    rw [e, ih]
    unfold ix
    cases h : cs.contains b
    · rw [tk_out _ _ _ h, List.length_cons]
      simp only [Bool.false_eq_true, if_false]
      by_cases c : tk cs l = l.length
      · rw [if_pos (show tk cs l + 1 = l.length + 1 by omega), if_pos c]; rfl
      · rw [if_neg (show ¬ tk cs l + 1 = l.length + 1 by omega), if_neg c, if_neg (show ¬ ((tk cs l : Int) == -1) = true by rw [beq_iff_eq]; omega)]; omega
    · rw [tk_in _ _ _ h, List.length_cons]
      simp only [if_true]
      rw [if_neg (by omega)]; rfl
theorem ix_byte (c : UInt8) (l : List UInt8) : indexByte l c = ix [c] l := by
  induction l with
  | nil => rfl
  | cons b l ih =>
    have hl := tk_le [c] l
    by_cases h : b = c
    · subst h
      rw [idx_in b (b :: l) (by simp)]
      unfold ix
      rw [tk_in _ _ _ (by simp), List.length_cons, if_neg (by omega)]
      simp
    · have hc : [c].contains b = false := by simpa using h
      have hi : indexByte (b :: l) c = if indexByte l c < 0 then -1 else indexByte l c + 1 := by
        by_cases hm : c ∈ l
        · rw [idx_in c l hm, idx_in c (b :: l) (by simp [hm]), if_neg (by omega), List.takeWhile_cons, if_pos (by simpa using h), List.length_cons]; omega
        · rw [idx_out c l hm, idx_out c (b :: l) (by simp [hm, Ne.symm h])]; rfl
      rw [hi, ih]
      unfold ix
      rw [tk_out _ _ _ hc, List.length_cons]
      by_cases d : tk [c] l = l.length
      · rw [if_pos d, if_pos (by omega), if_pos (by omega)]
      · rw [if_neg d, if_neg (by omega), if_neg (by omega)]; omega
end Ln
set_option maxHeartbeats 4000000 in
set_option maxRecDepth 100000 in
theorem iat_short (cs : ByteArray) (hc : Asc cs) (s : ByteArray) (w : World) (h8 : s.size ≤ 8) :
    Calls Tryd.prog 47 #[.string s, .string cs] w fun e w' => e = .returned (.int .i64 (Ln.ix cs.data.toList s.data.toList)) ∧ Gr w w' := by
  have h8z : decide ((8 : Int) < (s.size : Int)) = false := decide_eq_false (by omega)
  have hc2 := hc.two
  have hc8 := hc.few
  have hc0 : ((cs.size : Int) == 0) = false := by rw [beq_eq_false_iff_ne]; omega
  have hc1 : ((cs.size : Int) == 1) = false := by rw [beq_eq_false_iff_ne]; omega
  have hem : cs.toList.isEmpty = false := by rw [Lib.toList_data, isEmpty_size2]; exact decide_eq_false (by omega)
  go_enter Tryd.func47, Tryd.ntmps47
  go_wp2_with (go_at_call 53; refine (Tryd.strings_shouldUseASCIISet _ _).mono ?_; rintro e w' ⟨rfl, hw⟩; rw [hw, h8z])
  go_loopg [9, 10] s.size (fun g _ _ wx => ∃ i : Nat, i + g = s.size ∧ wx.heap[w.heap.size]? = some (.stringIter s i) ∧ Gr w wx ∧ Fd.NoC cs.data.toList s.data.toList i)
  case atStart => exact ⟨0, by omega, World.iter_heap _ _ _, (Gr.refl _).allocO _, fun j b hj => by omega⟩
  case round =>
    obtain ⟨i, hig, hit, hg, hno⟩ := hrel
    have HN := Lib.hid hno
    clear hno
    by_cases hi : i < s.size
    · have hnx := fun ty => Lib.run_next_any_at (P := Tryd.prog) wr w.heap.size s i ty hit hi
      have hit2 := Lib.iterAt_heap wr w.heap.size s i (i + (Utf8.decode s i).2) hit
      have hg2 : Gr w (wr.iterAt w.heap.size s (i + (Utf8.decode s i).2)) := ⟨Lib.below_iterAt hg.below (Nat.le_refl _) _ _⟩
      generalize wr.iterAt w.heap.size s (i + (Utf8.decode s i).2) = wn at hnx hit2 hg2
      have hle := Lib.rune_le s i
      have hw1 := Lib.width_pos s i
      have hw2 : i + (Utf8.decode s i).2 ≤ s.size := by
        have := (Fd.decN_le (s.size - i) (s.get! i).toNat (s.get! (i + 1)).toNat (s.get! (i + 2)).toNat (s.get! (i + 3)).toNat (by omega)).1
        rw [← Lib.decode_at] at this
        omega
      have HS := Lib.hid (fun h => HN.out.step hc.low (s := s) hi h)
      have HT := Lib.hid (fun h => Fd.dec_low s i h)
      have HB := Lib.hid (Fd.get_at s i hi)
      generalize (Utf8.decode s i).1 = rr at *
      generalize (Utf8.decode s i).2 = kk at *
      have cR := irune_any cs hc rr wn hle
      clear hc hc2 hc8
      by_cases c : rr < 128 ∧ rr.toUInt8 ∈ cs.data.toList
      · have cR2 := cR.mono (R' := fun e w' => ∃ v : Int, e = .returned (.int .i64 v) ∧ 0 ≤ v ∧ Gr wn w') (fun e w' ⟨v, h1, h2, h3⟩ => ⟨v, h1, h2.2 c, h3⟩)
        have hyes : Ln.ix cs.data.toList s.data.toList = (i : Int) := by
          have e2 := c.2
          rw [HT.out c.1] at e2
          have e3 := Ln.tk_at cs.data.toList s.data.toList i _ HN.out HB.out (by simpa using e2)
          unfold Ln.ix
          rw [e3, if_neg (by rw [← Lib.size_eq]; omega)]
        have HY := Lib.hid hyes
        clear cR c hyes
        go_wp2_with (go_at_call 52; refine cR2.mono ?_; rintro e w' ⟨v, rfl, hv, hgr⟩)
        go_ret
        exact ⟨by rw [HY.out]; first | done | rfl, hg2.trans hgr⟩
      · have cR2 := cR.mono (R' := fun e w' => ∃ v : Int, e = .returned (.int .i64 v) ∧ v < 0 ∧ Gr wn w') (fun e w' ⟨v, h1, h2, h3⟩ => ⟨v, h1, Int.not_le.1 (fun x => c (h2.1 x)), h3⟩)
        have HC := Lib.hid c
        clear cR c
        go_wp2_with (go_at_call 52; refine cR2.mono ?_; rintro e w' ⟨v, rfl, hv, hgr⟩)
        go_roundg (s.size - (i + kk))
        case measure => omega
        case rel => exact ⟨i + kk, by omega, (hgr.below.block _ (Array.getElem?_eq_some_iff.1 hit2).1).trans hit2, hg2.trans hgr, HS.out HC.out⟩
    · have hnx := fun ty => Lib.run_next_end_at (P := Tryd.prog) wr w.heap.size s i ty hit hi
      obtain rfl : i = s.size := by omega
      have HY : Hid (Ln.ix cs.data.toList s.data.toList = -1) := Lib.hid (by
        unfold Ln.ix
        rw [if_pos (Ln.tk_none _ _ (by rw [← Lib.size_eq]; exact HN.out))])
      go_wp2
      go_ret
      exact ⟨by rw [HY.out]; first | done | rfl, hg⟩
theorem iat_any (cs : ByteArray) (hc : Asc cs) (s : ByteArray) (w : World) (hs : s.size < 4294967281) :
    Calls Tryd.prog 47 #[.string s, .string cs] w fun e w' => e = .returned (.int .i64 (Ln.ix cs.data.toList s.data.toList)) ∧ Gr w w' := by
  by_cases h8 : s.size ≤ 8
  · exact iat_short cs hc s w h8
  · have h2 := hc.two
    have h3 := hc.few
    refine (Tryd.strings_IndexAny_long zero59 s cs w h2 (by omega) hs (by omega) ?_).mono ?_
    · intro j b hb
      exact hc.low b (List.mem_of_getElem? hb)
    · rintro e w' ⟨rfl, rfl⟩
      exact ⟨by rw [← Ln.ix_any], ((Gr.refl _).allocO _).allocO _⟩
set_option maxHeartbeats 1000000 in
theorem iat_one1 (cs : ByteArray) (h1 : 0 < cs.size) (h2 : cs.size = 1) (c : Int) (hc : (cs[0].toNat : Int) = c) (h0 : 0 ≤ c) (h128 : c < 128) (s : ByteArray) (w : World) :
    Calls Tryd.prog 47 #[.string s, .string cs] w fun e w' => e = .returned (.int .i64 (Lib.indexByte s.data.toList c.toNat.toUInt8)) ∧ Gr w w' := by
  have cR := fun w => Tryd.strings_IndexRune_ascii s c w h0 h128
  generalize Lib.indexByte s.data.toList c.toNat.toUInt8 = X at *
  have hem : cs.toList.isEmpty = false := by rw [Lib.toList_data, isEmpty_size2]; exact decide_eq_false (by omega)
  have hs1 : ((cs.size : Int) == 1) = true := by rw [beq_iff_eq]; omega
  clear h2
  go_enter Tryd.func47, Tryd.ntmps47
  go_wp2_with (go_at_call 52; refine (cR _).mono ?_; rintro e w' ⟨rfl, rfl⟩)
  go_ret
  exact ⟨rfl, Gr.refl _⟩
theorem iat_one (s : ByteArray) (w : World) :
    Calls Tryd.prog 47 #[.string s, .string ⟨#[34]⟩] w fun e w' => e = .returned (.int .i64 (Ln.ix [34] s.data.toList)) ∧ Gr w w' := by
  have := iat_one1 ⟨#[34]⟩ (by decide) (by decide) 34 (by decide) (by omega) (by omega) s w
  rw [show ((34 : Int).toNat.toUInt8) = 34 by decide, Ln.ix_byte] at this
  exact this
end Go.Proofs.YtpcmhaflmpcicaaDoor
