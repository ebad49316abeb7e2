/- The texts EsAny, EsFn, EsTx, EsPm, EsPl, EsVl, EsVa, LnName, LnAny, LnSkip, LnVal, LnPar, LnPa2, LnFv, LnLine, LnParse, LnAft, LnForm, LnForm2, one behind the other. -/
import Derived.Test.YtbfngdpdgmgfpaaDoorMB
import Derived.Test.YtbfngdpdgmgfpaaDoorMA
import Derived.Deep.RegionHeld3
import Derived.Test.YtbfngdpdgmgfpaaDoorShelf2
import Derived.BigQuiet
namespace Go.Proofs.YtbfngdpdgmgfpaaDoor
open Go.RowKit

/- a set of bytes of ASCII -/
theorem isEmpty_size2 (s : ByteArray) : s.data.toList.isEmpty = decide (s.size = 0) := by
  have := Lib.size_eq s
  cases h : s.data.toList with
  | nil => rw [h] at this; simp at this; simp [this]
  | cons a b => rw [h] at this; simp at this; simp [this]
structure Asc (cs : ByteArray) : Prop where
  low : ∀ b ∈ cs.data.toList, b.toNat < 128
  two : 2 ≤ cs.size
  few : cs.size ≤ 8
theorem Asc.at_ {cs : ByteArray} (h : Asc cs) (i : Nat) (hi : i < cs.size) : cs[i].toNat < 128 :=
  h.low _ (by
    have : i < cs.data.toList.length := by rw [← Lib.size_eq]; exact hi
    exact List.getElem_mem this)
namespace Fd
theorem enc_last (r : Int) (h : 128 ≤ r) :
    (∃ a b : UInt8, Utf8.encode r = ⟨#[a, b]⟩ ∧ 128 ≤ b.toNat) ∨ (∃ a b c : UInt8, Utf8.encode r = ⟨#[a, b, c]⟩ ∧ 128 ≤ c.toNat) ∨ (∃ a b c d : UInt8, Utf8.encode r = ⟨#[a, b, c, d]⟩ ∧ 128 ≤ d.toNat) := by
  unfold Utf8.encode
  simp only
  have hc : 128 ≤ (if Utf8.valid r = true then r.toNat else Utf8.runeError) := by
    split
    · omega
    · unfold Utf8.runeError; omega
  generalize (if Utf8.valid r = true then r.toNat else Utf8.runeError) = c at *
  rw [if_neg (by omega)]
  split
  · exact .inl ⟨_, _, rfl, by simp only [UInt8.toNat_ofNat']; omega⟩
  · split
    · exact .inr (.inl ⟨_, _, _, rfl, by simp only [UInt8.toNat_ofNat']; omega⟩)
    · exact .inr (.inr ⟨_, _, _, _, rfl, by simp only [UInt8.toNat_ofNat']; omega⟩)
end Fd
theorem idx_hi (s : ByteArray) (c : UInt8) (w : World) (h : ∀ b ∈ s.data.toList, b.toNat < 128) (hc : 128 ≤ c.toNat) :
    Calls Tryd.prog 95 #[.string s, .int .u8 (c.toNat : Int)] w fun e w' => e = .returned (.int .i64 (-1)) ∧ w = w' := by
  refine (Tryd.strings_IndexByte s _ w).mono ?_
  rintro e w' ⟨rfl, rfl⟩
  rw [Fd.idx_out]
  · exact ⟨rfl, rfl⟩
  · intro hm
    have := h _ hm
    simp at this
    omega
theorem ext_low {cs : ByteArray} (h : Asc cs) (i j : Nat) : ∀ b ∈ (cs.extract i j).data.toList, b.toNat < 128 := by
  intro b hb
  refine h.low b ?_
  simp only [ByteArray.data_extract, Array.toList_extract, List.extract_eq_take_drop] at hb
  exact List.mem_of_mem_drop (List.mem_of_mem_take hb)
set_option maxHeartbeats 4000000 in
set_option maxRecDepth 100000 in
theorem irune_err (cs : ByteArray) (hc : Asc cs) (w : World) :
    Calls Tryd.prog 96 #[.string cs, .int .i32 65533] w fun e w' => e = .returned (.int .i64 (-1)) ∧ Gr w w' := by
  have hf := hc.few
  go_enter Tryd.func96, Tryd.ntmps96
  go_wp2
  go_loopg [5, 6] cs.size (fun g _ _ wx => ∃ i : Nat, wx = w.iter cs i ∧ i + g = cs.size)
  case atStart => exact ⟨0, rfl, by omega⟩
  case round =>
    obtain ⟨i, rfl, hg⟩ := hrel
    by_cases hi : i < cs.size
    · have n0 := fun ty => run_next_ascii (P := Tryd.prog) w cs i ty hi (hc.at_ i hi)
      have hl := hc.at_ i hi
      have hne : ((cs[i].toNat : Int) == 65533) = false := by simp; omega
      go_wp2
      go_roundg (cs.size - (i + 1))
      case measure => omega
      case rel => exact ⟨i + 1, rfl, by omega⟩
    · have n2 := fun ty => run_next_end (P := Tryd.prog) w cs i ty hi
      go_wp2
      go_ret
      exact ⟨rfl, (Gr.refl _).allocO _⟩
/- runes of 2, 3 and 4 bytes (mkany.py) -/
set_option maxHeartbeats 4000000 in
set_option maxRecDepth 100000 in
theorem irune_2 (cs : ByteArray) (hc : Asc cs) (r : Int) (w : World) (h : 128 ≤ r) (h2 : r ≤ 1114111) (h3 : r ≠ 65533) (a b : UInt8) (hE : Utf8.encode r = ⟨#[a, b]⟩) (hb : 128 ≤ b.toNat) :
    Calls Tryd.prog 96 #[.string cs, .int .i32 r] w fun e w' => e = .returned (.int .i64 (-1)) ∧ Gr w w' := by
  have hb3 : (r == 65533) = false := by simpa using h3
  have hf := hc.few
  have ht := hc.two
  obtain ⟨V, hV⟩ : ∃ V, Lib.validRune r = V := ⟨_, rfl⟩
  have HV := Lib.hid hV
  clear hV
  by_cases hk : 1 < cs.size
  · have hat := hc.at_ 1 hk
    have hn4 : ((cs[1].toNat : Int) != (((⟨#[a, b]⟩ : ByteArray)[1]'(show 1 < 2 by decide)).toNat : Int)) = true := by
      have e : (((⟨#[a, b]⟩ : ByteArray)[1]'(show 1 < 2 by decide)).toNat) = b.toNat := rfl
      rw [e]; simp; omega
    have cI := fun w => idx_hi (cs.extract 2 cs.size) b w (ext_low hc _ _) hb
    clear hat
    go_enter Tryd.func96, Tryd.ntmps96
    go_wp2_with fail
    refine (Tryd.utf8_ValidRune r _).mono ?_
    rintro e w' ⟨rfl, rfl⟩
    rw [HV.out]
    cases V
    · go_wp2
      go_ret
      exact ⟨rfl, Gr.refl _⟩
    · go_wp2
      refine wp_scope_straight ?_
      go_wp2
      refine wp_loop_rounds 1 ?_
      rw [rounds_succ]
      go_wp2
      refine wp_scope_straight ?_
      go_wp2
      go_region
      go_wp2
      have hgd := (Gr.refl w').drew
      generalize w'.drew = wq at hgd ⊢
      go_quiet (first | (go_at_call 95; exact qsame (cI _)))
      go_wp2
      simp only [Exit.noGoto_ret, Exit.inBlock, Exit.then]
      go_ret
      exact ⟨rfl, hgd.drewN _⟩
  · exfalso; omega
set_option maxHeartbeats 4000000 in
set_option maxRecDepth 100000 in
theorem irune_3 (cs : ByteArray) (hc : Asc cs) (r : Int) (w : World) (h : 128 ≤ r) (h2 : r ≤ 1114111) (h3 : r ≠ 65533) (a b c : UInt8) (hE : Utf8.encode r = ⟨#[a, b, c]⟩) (hb : 128 ≤ c.toNat) :
    Calls Tryd.prog 96 #[.string cs, .int .i32 r] w fun e w' => e = .returned (.int .i64 (-1)) ∧ Gr w w' := by
  have hb3 : (r == 65533) = false := by simpa using h3
  have hf := hc.few
  have ht := hc.two
  obtain ⟨V, hV⟩ : ∃ V, Lib.validRune r = V := ⟨_, rfl⟩
  have HV := Lib.hid hV
  clear hV
  by_cases hk : 2 < cs.size
  · have hat := hc.at_ 2 hk
    have hn4 : ((cs[2].toNat : Int) != (((⟨#[a, b, c]⟩ : ByteArray)[2]'(show 2 < 3 by decide)).toNat : Int)) = true := by
      have e : (((⟨#[a, b, c]⟩ : ByteArray)[2]'(show 2 < 3 by decide)).toNat) = c.toNat := rfl
      rw [e]; simp; omega
    have cI := fun w => idx_hi (cs.extract 3 cs.size) c w (ext_low hc _ _) hb
    clear hat
    go_enter Tryd.func96, Tryd.ntmps96
    go_wp2_with fail
    refine (Tryd.utf8_ValidRune r _).mono ?_
    rintro e w' ⟨rfl, rfl⟩
    rw [HV.out]
    cases V
    · go_wp2
      go_ret
      exact ⟨rfl, Gr.refl _⟩
    · go_wp2
      refine wp_scope_straight ?_
      go_wp2
      refine wp_loop_rounds 1 ?_
      rw [rounds_succ]
      go_wp2
      refine wp_scope_straight ?_
      go_wp2
      go_region
      go_wp2
      have hgd := (Gr.refl w').drew
      generalize w'.drew = wq at hgd ⊢
      go_quiet (first | (go_at_call 95; exact qsame (cI _)))
      go_wp2
      simp only [Exit.noGoto_ret, Exit.inBlock, Exit.then]
      go_ret
      exact ⟨rfl, hgd.drewN _⟩
  · go_enter Tryd.func96, Tryd.ntmps96
    go_wp2_with fail
    refine (Tryd.utf8_ValidRune r _).mono ?_
    rintro e w' ⟨rfl, rfl⟩
    rw [HV.out]
    cases V
    · go_wp2
      go_ret
      exact ⟨rfl, Gr.refl _⟩
    · go_wp2
      refine wp_scope_straight ?_
      go_wp2
      refine wp_loop_rounds 1 ?_
      rw [rounds_succ]
      go_wp2
      rw [Exit.noGoto_ret]
      go_ret
      exact ⟨rfl, Gr.refl _⟩
set_option maxHeartbeats 4000000 in
set_option maxRecDepth 100000 in
theorem irune_4 (cs : ByteArray) (hc : Asc cs) (r : Int) (w : World) (h : 128 ≤ r) (h2 : r ≤ 1114111) (h3 : r ≠ 65533) (a b c d : UInt8) (hE : Utf8.encode r = ⟨#[a, b, c, d]⟩) (hb : 128 ≤ d.toNat) :
    Calls Tryd.prog 96 #[.string cs, .int .i32 r] w fun e w' => e = .returned (.int .i64 (-1)) ∧ Gr w w' := by
  have hb3 : (r == 65533) = false := by simpa using h3
  have hf := hc.few
  have ht := hc.two
  obtain ⟨V, hV⟩ : ∃ V, Lib.validRune r = V := ⟨_, rfl⟩
  have HV := Lib.hid hV
  clear hV
  by_cases hk : 3 < cs.size
  · have hat := hc.at_ 3 hk
    have hn4 : ((cs[3].toNat : Int) != (((⟨#[a, b, c, d]⟩ : ByteArray)[3]'(show 3 < 4 by decide)).toNat : Int)) = true := by
      have e : (((⟨#[a, b, c, d]⟩ : ByteArray)[3]'(show 3 < 4 by decide)).toNat) = d.toNat := rfl
      rw [e]; simp; omega
    have cI := fun w => idx_hi (cs.extract 4 cs.size) d w (ext_low hc _ _) hb
    clear hat
    go_enter Tryd.func96, Tryd.ntmps96
    go_wp2_with fail
    refine (Tryd.utf8_ValidRune r _).mono ?_
    rintro e w' ⟨rfl, rfl⟩
    rw [HV.out]
    cases V
    · go_wp2
      go_ret
      exact ⟨rfl, Gr.refl _⟩
    · go_wp2
      refine wp_scope_straight ?_
      go_wp2
      refine wp_loop_rounds 1 ?_
      rw [rounds_succ]
      go_wp2
      refine wp_scope_straight ?_
      go_wp2
      go_region
      go_wp2
      have hgd := (Gr.refl w').drew
      generalize w'.drew = wq at hgd ⊢
      go_quiet (first | (go_at_call 95; exact qsame (cI _)))
      go_wp2
      simp only [Exit.noGoto_ret, Exit.inBlock, Exit.then]
      go_ret
      exact ⟨rfl, hgd.drewN _⟩
  · go_enter Tryd.func96, Tryd.ntmps96
    go_wp2_with fail
    refine (Tryd.utf8_ValidRune r _).mono ?_
    rintro e w' ⟨rfl, rfl⟩
    rw [HV.out]
    cases V
    · go_wp2
      go_ret
      exact ⟨rfl, Gr.refl _⟩
    · go_wp2
      refine wp_scope_straight ?_
      go_wp2
      refine wp_loop_rounds 1 ?_
      rw [rounds_succ]
      go_wp2
      rw [Exit.noGoto_ret]
      go_ret
      exact ⟨rfl, Gr.refl _⟩
/- any rune -/
theorem irune_any (cs : ByteArray) (hc : Asc cs) (r : Nat) (w : World) (h2 : r ≤ 1114111) :
    Calls Tryd.prog 96 #[.string cs, .int .i32 (r : Int)] w fun e w' => ∃ v : Int, e = .returned (.int .i64 v) ∧ (0 ≤ v ↔ (r < 128 ∧ r.toUInt8 ∈ cs.data.toList)) ∧ Gr w w' := by
  by_cases h : r < 128
  · refine (Tryd.strings_IndexRune_ascii cs r w (by omega) (by omega)).mono ?_
    rintro e w' ⟨rfl, rfl⟩
    refine ⟨_, rfl, ?_, Gr.refl _⟩
    rw [Int.toNat_natCast]
    have := Fd.idx_has r.toUInt8 cs.data.toList
    rw [List.contains_eq_mem, decide_eq_decide] at this
    rw [this]
    exact ⟨fun x => ⟨h, x⟩, fun x => x.2⟩
  · have key : Calls Tryd.prog 96 #[.string cs, .int .i32 (r : Int)] w fun e w' => e = .returned (.int .i64 (-1)) ∧ Gr w w' := by
      by_cases h3 : r = 65533
      · subst h3; exact irune_err cs hc w
      · rcases Fd.enc_last (r : Int) (by omega) with ⟨a, b, hE, hb⟩ | ⟨a, b, c, hE, hb⟩ | ⟨a, b, c, d, hE, hb⟩
        · exact irune_2 cs hc r w (by omega) (by omega) (by omega) a b hE hb
        · exact irune_3 cs hc r w (by omega) (by omega) (by omega) a b c hE hb
        · exact irune_4 cs hc r w (by omega) (by omega) (by omega) a b c d hE hb
    refine key.mono ?_
    rintro e w' ⟨rfl, hg⟩
    exact ⟨-1, rfl, ⟨fun x => absurd x (by decide), fun x => absurd x.1 h⟩, hg⟩
namespace Fd
open Go.Lib
/- no byte of the set ahead of a place -/
def NoC (cs l : List UInt8) (i : Nat) : Prop := ∀ j b, j < i → l[j]? = some b → b ∉ cs
theorem any_false {cs l : List UInt8} (h : NoC cs l l.length) : l.any (cs.contains ·) = false := by
  rw [List.any_eq_false]
  intro x hx
  obtain ⟨j, hj, rfl⟩ := List.getElem_of_mem hx
  have := h j l[j] hj (List.getElem?_eq_getElem hj)
  simpa using this
theorem any_true {cs l : List UInt8} {i : Nat} {b : UInt8} (h : l[i]? = some b) (hb : b ∈ cs) : l.any (cs.contains ·) = true := by
  rw [List.any_eq_true]
  exact ⟨b, List.mem_of_getElem? h, by simpa using hb⟩
theorem NoC.step {cs : List UInt8} (hcs : ∀ b ∈ cs, b.toNat < 128) {s : ByteArray} {i : Nat} (h : NoC cs s.data.toList i) (hi : i < s.size) (hb : ¬ ((Utf8.decode s i).1 < 128 ∧ (Utf8.decode s i).1.toUInt8 ∈ cs)) : NoC cs s.data.toList (i + (Utf8.decode s i).2) := by
  have hlt : ∀ k, (s.get! k).toNat < 256 := fun k => UInt8.toNat_lt _
  rw [decode_at] at hb ⊢
  intro j b hj e
  have hsz := size_eq s
  by_cases c : j < i
  · exact h j b c e
  · have hjs : j < s.size := by
      have := (List.getElem?_eq_some_iff.1 e).1
      omega
    rw [get_at s j hjs] at e
    obtain rfl := Option.some.inj e
    by_cases d : (s.get! i).toNat < 128
    · have e1 : decodeN (s.size - i) (s.get! i).toNat (s.get! (i + 1)).toNat (s.get! (i + 2)).toNat (s.get! (i + 3)).toNat = ((s.get! i).toNat, 1) := by unfold decodeN; rw [if_pos d]
      rw [e1] at hj hb
      have : j = i := by simp only at hj; omega
      subst this
      intro hm
      refine hb ⟨d, ?_⟩
      simpa using hm
    · have hh := decN_hi (s.size - i) (s.get! i).toNat (s.get! (i + 1)).toNat (s.get! (i + 2)).toNat (s.get! (i + 3)).toNat (hlt i) (by omega)
      have h4 := (decN_le (s.size - i) (s.get! i).toNat (s.get! (i + 1)).toNat (s.get! (i + 2)).toNat (s.get! (i + 3)).toNat (by omega)).2
      have big : 128 ≤ (s.get! j).toNat := by
        have : j = i ∨ j = i + 1 ∨ j = i + 2 ∨ j = i + 3 := by omega
        rcases this with rfl | rfl | rfl | rfl
        · omega
        · exact hh.2.1 (by omega)
        · exact hh.2.2.1 (by omega)
        · exact hh.2.2.2 (by omega)
      intro hm
      have := hcs _ hm
      omega
end Fd
set_option maxHeartbeats 4000000 in
set_option maxRecDepth 100000 in
theorem iany_short (cs : ByteArray) (hc : Asc cs) (s : ByteArray) (w : World) (h8 : s.size ≤ 8) :
    Calls Tryd.prog 85 #[.string s, .string cs] w fun e w' => ∃ r : Int, e = .returned (.int .i64 r) ∧ (0 ≤ r ↔ s.data.toList.any (cs.data.toList.contains ·) = true) ∧ Gr w w' := by
  have h8z : decide ((8 : Int) < (s.size : Int)) = false := decide_eq_false (by omega)
  have hc2 := hc.two
  have hc8 := hc.few
  have hc0 : ((cs.size : Int) == 0) = false := by rw [beq_eq_false_iff_ne]; omega
  have hc1 : ((cs.size : Int) == 1) = false := by rw [beq_eq_false_iff_ne]; omega
  have hem : cs.toList.isEmpty = false := by rw [Lib.toList_data, isEmpty_size2]; exact decide_eq_false (by omega)
  go_enter Tryd.func85, Tryd.ntmps85
  go_wp2_with (go_at_call 97; refine (Tryd.strings_shouldUseASCIISet _ _).mono ?_; rintro e w' ⟨rfl, hw⟩; rw [hw, h8z])
  go_loopg [9, 10] s.size (fun g _ _ wx => ∃ i : Nat, i + g = s.size ∧ wx.heap[w.heap.size]? = some (.stringIter s i) ∧ Gr w wx ∧ Fd.NoC cs.data.toList s.data.toList i)
  case atStart => exact ⟨0, by omega, World.iter_heap _ _ _, (Gr.refl _).allocO _, fun j b hj => by omega⟩
  case round =>
    obtain ⟨i, hig, hit, hg, hno⟩ := hrel
    have HN := Lib.hid hno
    clear hno
    by_cases hi : i < s.size
    · have hnx := fun ty => Lib.run_next_any_at (P := Tryd.prog) wr w.heap.size s i ty hit hi
      have hit2 := Lib.iterAt_heap wr w.heap.size s i (i + (Utf8.decode s i).2) hit
      have hg2 : Gr w (wr.iterAt w.heap.size s (i + (Utf8.decode s i).2)) := ⟨Lib.below_iterAt hg.below (Nat.le_refl _) _ _⟩
      generalize wr.iterAt w.heap.size s (i + (Utf8.decode s i).2) = wn at hnx hit2 hg2
      have hle := Lib.rune_le s i
      have hw1 := Lib.width_pos s i
      have hw2 : i + (Utf8.decode s i).2 ≤ s.size := by
        have := (Fd.decN_le (s.size - i) (s.get! i).toNat (s.get! (i + 1)).toNat (s.get! (i + 2)).toNat (s.get! (i + 3)).toNat (by omega)).1
        rw [← Lib.decode_at] at this
        omega
      have HS := Lib.hid (fun h => HN.out.step hc.low (s := s) hi h)
      have HT := Lib.hid (fun h => Fd.dec_low s i h)
      have HB := Lib.hid (Fd.get_at s i hi)
      generalize (Utf8.decode s i).1 = rr at *
      generalize (Utf8.decode s i).2 = kk at *
      have cR := irune_any cs hc rr wn hle
      clear hc hc2 hc8
      by_cases c : rr < 128 ∧ rr.toUInt8 ∈ cs.data.toList
      · have cR2 := cR.mono (R' := fun e w' => ∃ v : Int, e = .returned (.int .i64 v) ∧ 0 ≤ v ∧ Gr wn w') (fun e w' ⟨v, h1, h2, h3⟩ => ⟨v, h1, h2.2 c, h3⟩)
        have hyes : s.data.toList.any (cs.data.toList.contains ·) = true := by
          refine Fd.any_true HB.out ?_
          have e2 := c.2
          rw [HT.out c.1] at e2
          simpa using e2
        have HY := Lib.hid hyes
        clear cR c hyes
        go_wp2_with (go_at_call 96; refine cR2.mono ?_; rintro e w' ⟨v, rfl, hv, hgr⟩)
        go_ret
        exact ⟨_, rfl, by rw [HY.out]; simp, hg2.trans hgr⟩
      · have cR2 := cR.mono (R' := fun e w' => ∃ v : Int, e = .returned (.int .i64 v) ∧ v < 0 ∧ Gr wn w') (fun e w' ⟨v, h1, h2, h3⟩ => ⟨v, h1, Int.not_le.1 (fun x => c (h2.1 x)), h3⟩)
        have HC := Lib.hid c
        clear cR c
        go_wp2_with (go_at_call 96; refine cR2.mono ?_; rintro e w' ⟨v, rfl, hv, hgr⟩)
        go_roundg (s.size - (i + kk))
        case measure => omega
        case rel => exact ⟨i + kk, by omega, (hgr.below.block _ (Array.getElem?_eq_some_iff.1 hit2).1).trans hit2, hg2.trans hgr, HS.out HC.out⟩
    · have hnx := fun ty => Lib.run_next_end_at (P := Tryd.prog) wr w.heap.size s i ty hit hi
      obtain rfl : i = s.size := by omega
      go_wp2
      go_ret
      exact ⟨_, rfl, by rw [Fd.any_false (by rw [← Lib.size_eq]; exact HN.out)]; simp, hg⟩
theorem iany_any (cs : ByteArray) (hc : Asc cs) (s : ByteArray) (w : World) (hs : s.size < 4294967281) :
    Calls Tryd.prog 85 #[.string s, .string cs] w fun e w' => ∃ r : Int, e = .returned (.int .i64 r) ∧ (0 ≤ r ↔ s.data.toList.any (cs.data.toList.contains ·) = true) ∧ Gr w w' := by
  by_cases h8 : s.size ≤ 8
  · exact iany_short cs hc s w h8
  · have h2 := hc.two
    have h3 := hc.few
    refine (Tryd.strings_IndexAny_long zero59 s cs w h2 (by omega) hs (by omega) ?_).mono ?_
    · intro j b hb
      exact hc.low b (List.mem_of_getElem? hb)
    · rintro e w' ⟨rfl, rfl⟩
      exact ⟨_, rfl, Fd.idxAny _ _, ((Gr.refl _).allocO _).allocO _⟩
set_option maxHeartbeats 1000000 in
theorem cany_any (cs : ByteArray) (hc : Asc cs) (s : ByteArray) (w : World) (hs : s.size < 4294967281) :
    Calls Tryd.prog 66 #[.string s, .string cs] w fun e w' => e = .returned (.bool (s.data.toList.any (cs.data.toList.contains ·))) ∧ Gr w w' := by
  have cI := iany_any cs hc s w hs
  generalize s.data.toList.any (cs.data.toList.contains ·) = b at cI ⊢
  go_enter Tryd.func66, Tryd.ntmps66
  go_wp2_with fail
  refine cI.mono ?_
  rintro e w' ⟨r, rfl, hr, hg⟩
  go_wp2
  go_ret
  refine ⟨ret_bool ?_, hg⟩
  cases b <;> simp
end Go.Proofs.YtbfngdpdgmgfpaaDoor
namespace Go.Proofs.YtbfngdpdgmgfpaaDoor
open Go.RowKit

/- tests on single bytes -/
theorem by_t {b : UInt8} (c : UInt8) {n : Int} (h : ((b.toNat : Int) == n) = true) (hn : (c.toNat : Int) = n := by rfl) : b = c := by
  have h2 : (b.toNat : Int) = n := by simpa only [beq_iff_eq] using h
  exact UInt8.toNat_inj.1 (by omega)
theorem by_f {b : UInt8} (c : UInt8) {n : Int} (h : ((b.toNat : Int) == n) = false) (hn : (c.toNat : Int) = n := by rfl) : b ≠ c := by
  rintro rfl
  rw [hn] at h; simp at h
theorem drop_at (s : ByteArray) (i : Nat) (h : i < s.size) : s.data.toList.drop i = s[i] :: s.data.toList.drop (i + 1) := by
  have h2 : i < s.data.toList.length := by rw [← Lib.size_eq]; exact h
  exact List.drop_eq_getElem_cons h2
theorem take_at (s : ByteArray) (i : Nat) (h : i < s.size) : s.data.toList.take (i + 1) = s.data.toList.take i ++ [s[i]] := by
  have h2 : i < s.data.toList.length := by rw [← Lib.size_eq]; exact h
  exact List.take_succ_eq_append_getElem h2
theorem drop_end (s : ByteArray) (i : Nat) (h : s.size ≤ i) : s.data.toList.drop i = [] := List.drop_eq_nil_of_le (by rw [← Lib.size_eq]; exact h)
theorem take_end (s : ByteArray) (i : Nat) (h : s.size ≤ i) : s.data.toList.take i = s.data.toList := List.take_of_length_le (by rw [← Lib.size_eq]; exact h)

namespace Es
def ctl (f : Bool) : ByteArray := if f then ⟨#[9, 10]⟩ else ⟨#[9]⟩
theorem ctl_idx (f : Bool) (b : UInt8) (h : b.toNat < 32) : decide (Lib.indexByte (ctl f).data.toList b < 0) = bad f b := by
  revert h
  refine byte_ind (P := fun b => b.toNat < 32 → decide (Lib.indexByte (ctl f).data.toList b < 0) = bad f b) ?_ b
  cases f <;> decide +kernel
theorem bad_del (f : Bool) : bad f 127 = true := by cases f <;> rfl
theorem bad_high (f : Bool) (b : UInt8) (h : b ≠ 127) (h2 : 32 ≤ b.toNat) : bad f b = false := by
  unfold bad
  have h3 : (b == 127) = false := by simpa using h
  have h4 : decide (b.toNat < 32) = false := decide_eq_false (by omega)
  rw [h3, h4]; simp
theorem any_at {f : Bool} {s : ByteArray} {i : Nat} (h : i < s.size) (hb : bad f s[i] = true) : s.data.toList.any (bad f) = true := by
  rw [List.any_eq_true]
  exact ⟨s[i], List.mem_of_getElem? (at_toNat s i h), hb⟩
theorem any_more {f : Bool} {s : ByteArray} {i : Nat} (h : i < s.size) (h0 : (s.data.toList.take i).any (bad f) = false) (hb : bad f s[i] = false) : (s.data.toList.take (i + 1)).any (bad f) = false := by
  rw [take_at s i h, List.any_append, h0]; simp [hb]
end Es

set_option maxHeartbeats 2000000 in
set_option maxRecDepth 100000 in
theorem check_any (f : Bool) (s : ByteArray) (w : World) (ht : Tab w) (hs : s.size ≤ 140737488355328) :
    Calls Tryd.prog 84 #[.string s, .string (Es.ctl f)] w fun e w' => e = .returned (.int .i64 (Es.clE f s.data.toList)) ∧ Gr w w' := by
  have cV := valid_any s w ht (by omega)
  obtain ⟨V, hV⟩ : ∃ V, Lib.validD s.data.toList = V := ⟨_, rfl⟩
  rw [hV] at cV
  cases V
  · rw [Es.clE_utf hV]
    clear hV
    go_enter Tryd.func84, Tryd.ntmps84
    go_wp2_with (go_at_call 56; refine cV.mono ?_; rintro e w1 ⟨rfl, hg1⟩)
    go_ret
    exact ⟨rfl, hg1⟩
  · have HB := Lib.hid (fun h => Es.clE_val (f := f) hV h)
    have HO := Lib.hid (fun h => Es.clE_ok (f := f) hV h)
    have HC := Lib.hid (fun b h => Es.ctl_idx f b h)
    clear hV
    generalize Es.clE f s.data.toList = E at *
    generalize Es.ctl f = cs at *
    go_enter Tryd.func84, Tryd.ntmps84
    go_wp2_with (go_at_call 56; refine cV.mono ?_; rintro e w1 ⟨rfl, hg1⟩)
    go_loopg [12] s.size (fun g v wx => ∃ i : Nat, v = .int .i64 (i : Int) ∧ i + g = s.size ∧ w1 = wx ∧ (s.data.toList.take i).any (Es.bad f) = false)
    case atStart => exact ⟨0, rfl, by omega, rfl, by simp⟩
    case round =>
      obtain ⟨i, rfl, hig, rfl, hno⟩ := hrel
      have HG := Lib.hid hig
      have HN := Lib.hid hno
      clear hig hno
      by_cases hi : i < s.size
      · have hlt : (s[i].toNat : Int) < 256 := by have := UInt8.toNat_lt s[i]; omega
        cases h127 : ((s[i].toNat : Int) == 127)
        · by_cases h32 : (s[i].toNat : Int) < 32
          · have cI := Tryd.strings_IndexByte cs (s[i].toNat : Int) w1
            have e1 : ((s[i].toNat : Int).toNat.toUInt8) = s[i] := by simp
            rw [e1] at cI
            have hci := HC.out s[i] (by omega)
            obtain ⟨v, hv⟩ : ∃ v, Lib.indexByte cs.data.toList s[i] = v := ⟨_, rfl⟩
            rw [hv] at cI hci
            clear e1 hv
            by_cases hv0 : v < 0
            · have hb : Es.bad f s[i] = true := by rw [← hci]; exact decide_eq_true hv0
              have HE := Lib.hid (HB.out (Es.any_at hi hb))
              clear hci hb
              go_wp2_with (go_at_call 95; refine cI.mono ?_; rintro e w' ⟨rfl, rfl⟩)
              go_ret
              rw [HE.out]
              exact ⟨rfl, hg1⟩
            · have hb : Es.bad f s[i] = false := by rw [← hci]; exact decide_eq_false hv0
              have HE := Lib.hid (Es.any_more hi HN.out hb)
              clear hci hb
              go_wp2_with (go_at_call 95; refine cI.mono ?_; rintro e w' ⟨rfl, rfl⟩)
              go_roundg (s.size - (i + 1))
              case measure => have := HG.out; omega
              case rel => exact ⟨i + 1, by go_num, by omega, rfl, HE.out⟩
          · have hb : Es.bad f s[i] = false := Es.bad_high f _ (by_f 127 h127) (by omega)
            have HE := Lib.hid (Es.any_more hi HN.out hb)
            clear hb
            go_wp2
            go_roundg (s.size - (i + 1))
            case measure => have := HG.out; omega
            case rel => exact ⟨i + 1, by go_num, by omega, rfl, HE.out⟩
        · have hb : Es.bad f s[i] = true := by rw [by_t 127 h127]; exact Es.bad_del f
          have HE := Lib.hid (HB.out (Es.any_at hi hb))
          clear hb
          go_wp2
          go_ret
          rw [HE.out]
          exact ⟨rfl, hg1⟩
      · have he := HN.out
        rw [take_end s i (by omega)] at he
        have HE := Lib.hid (HO.out he)
        obtain rfl : i = s.size := by have := HG.out; omega
        clear he
        go_wp2
        go_ret
        rw [HE.out]
        exact ⟨rfl, hg1⟩

theorem nonempty_head (s : ByteArray) (h : 0 < s.size) : s.data.toList = s[0] :: s.data.toList.tail := by
  have := drop_at s 0 h
  rw [List.drop_zero] at this
  rw [this]; simp
theorem empty_list (s : ByteArray) (h : s.size = 0) : s.data.toList = [] := List.eq_nil_of_length_eq_zero (by rw [← Lib.size_eq]; exact h)
theorem emp_t (s : ByteArray) (h : s.size = 0) : s.toList.isEmpty = true := by rw [Lib.toList_data, isEmpty_size2]; simp [h]
theorem emp_f (s : ByteArray) (h : 0 < s.size) : s.toList.isEmpty = false := by rw [Lib.toList_data, isEmpty_size2]; exact decide_eq_false (by omega)
namespace Es
theorem ac_n (r : List UInt8) : ac (110 :: r) = some 10 := rfl
theorem ac_q (r : List UInt8) : ac (39 :: r) = some 34 := rfl
theorem ac_c (r : List UInt8) : ac (94 :: r) = some 94 := rfl
theorem ac_no {d : UInt8} {r : List UInt8} (h1 : d ≠ 110) (h2 : d ≠ 39) (h3 : d ≠ 94) : ac (d :: r) = none := by simp [ac, h1, h2, h3]
end Es
set_option maxHeartbeats 2000000 in
theorem acaret_any (s : ByteArray) (w : World) :
    Calls Tryd.prog 112 #[.string s] w fun e w' => e = .returned (.tuple #[.int .u8 (match Es.ac s.data.toList with | none => 0 | some x => (x.toNat : Int)), .bool (Es.ac s.data.toList).isSome]) ∧ w = w' := by
  by_cases h0 : s.size = 0
  · rw [empty_list s h0]
    have hem := emp_t s h0
    go_enter Tryd.func112, Tryd.ntmps112
    go_wp2
    go_ret2
    exact ⟨rfl, rfl⟩
  · have h1 : 0 < s.size := by omega
    have hem := emp_f s h1
    have hh := nonempty_head s h1
    cases h110 : ((s[0].toNat : Int) == 110)
    · cases h39 : ((s[0].toNat : Int) == 39)
      · cases h94 : ((s[0].toNat : Int) == 94)
        · rw [hh, Es.ac_no (by_f 110 h110) (by_f 39 h39) (by_f 94 h94)]
          clear hh
          go_enter Tryd.func112, Tryd.ntmps112
          go_wp2
          go_ret2
          exact ⟨rfl, rfl⟩
        · rw [by_t 94 h94] at hh
          rw [hh, Es.ac_c]
          clear hh
          go_enter Tryd.func112, Tryd.ntmps112
          go_wp2
          go_ret2
          exact ⟨rfl, rfl⟩
      · rw [by_t 39 h39] at hh
        rw [hh, Es.ac_q]
        clear hh
        go_enter Tryd.func112, Tryd.ntmps112
        go_wp2
        go_ret2
        exact ⟨rfl, rfl⟩
    · rw [by_t 110 h110] at hh
      rw [hh, Es.ac_n]
      clear hh
      go_enter Tryd.func112, Tryd.ntmps112
      go_wp2
      go_ret2
      exact ⟨rfl, rfl⟩
/- from a place on: what is ahead of and behind the first unescaped comma -/
namespace Es
def cuAt (l : List UInt8) (i : Nat) : Prop := cu l = (l.take i ++ (cu (l.drop i)).1, (cu (l.drop i)).2)
end Es
end Go.Proofs.YtbfngdpdgmgfpaaDoor
namespace Go.Proofs.YtbfngdpdgmgfpaaDoor
open Go.RowKit

/- append(out, bytes..) -/
theorem ap_bytes {ops : Array Oper} {rest : List Oper} {o : Oper} {a : Act} {Q : Exit → Act → World → Prop} (w : World) (hgd : o.guard = none) (sl x : Operand)
    (ho : o.op = .call { callee := .builtin .append, args := #[sl, x], argTypes := #[85, 85] })
    (B : Nat) (A : Option Addr) (n c : Nat) (l t : List UInt8) (hs : a.eval sl = .slice A n c) (hown : OwnV w B 5 A n c (bc l)) (m c2 : Nat) (hx : a.eval x = .slice (some ⟨w.heap.size, 0, none⟩) m c2)
    (hm : t.length = m) (hlen : n + m ≤ 1000000) (hB : B ≤ w.heap.size)
    (h : ∀ A' c' w', OwnV w' B 5 A' (n + m) c' (bc (l ++ t)) → Below B w w' → wpList Tryd.prog ops Q rest (a.put o.dst (.slice A' (n + m) c')) w') : wpList Tryd.prog ops Q (o :: rest) a (w.alloc (.cells (bc t).toArray 5)) := by
  refine ap_lit w hgd sl x 85 5 (.int .u8 0) 1 Tryd.underlying85 info_u8 rfl (by omega) ho B A n c (bc l) (bc t) hs hown m c2 hx (by simpa [bc] using hm) ?_ hlen hB ?_
  · intro u hu
    obtain ⟨b, _, rfl⟩ := List.mem_map.1 hu
    rfl
  · intro A' c' w' h1 h2
    rw [← bc_append] at h1
    exact h A' c' w' h1 h2
namespace Es
theorem txT_ok {l : List UInt8} (h : clE true l = 0) : txT l = tx l := by unfold txT; rw [if_pos h]
theorem txT_no {l : List UInt8} (h : clE true l ≠ 0) : txT l = [] := by unfold txT; rw [if_neg h]
theorem pqT_ok {l : List UInt8} (h : clE true l = 0) : pqT l = pq l := by unfold pqT; rw [if_pos h]
theorem pqT_no {l : List UInt8} (h : clE true l ≠ 0) : pqT l = [] := by unfold pqT; rw [if_neg h]
end Es
theorem tx_step (s : ByteArray) (j : Nat) (h : j < s.size) : Es.tx (s.data.toList.take (j + 1)) = Es.tx (s.data.toList.take j) ++ Es.t1 s[j] := by
  have h2 : j < s.data.toList.length := by rw [← Lib.size_eq]; exact h
  exact Es.tx_snoc _ j h2
theorem pm_step (s : ByteArray) (j : Nat) (h : j < s.size) : Es.pm (s.data.toList.take (j + 1)) = Es.pm (s.data.toList.take j) ++ Es.p1 s[j] := by
  have h2 : j < s.data.toList.length := by rw [← Lib.size_eq]; exact h
  exact Es.pm_snoc _ j h2
theorem ctl_true : Es.ctl true = ⟨#[9, 10]⟩ := rfl
theorem ctl_false : Es.ctl false = ⟨#[9]⟩ := rfl
end Go.Proofs.YtbfngdpdgmgfpaaDoor
namespace Go.Proofs.YtbfngdpdgmgfpaaDoor
open Go.RowKit

theorem asc3 : Asc ⟨#[58, 59, 44]⟩ := ⟨by decide, by decide, by decide⟩
theorem quote_cat (l : List UInt8) : (⟨(34 :: (l ++ [34])).toArray⟩ : ByteArray) = (⟨#[34]⟩ : ByteArray) ++ ⟨l.toArray⟩ ++ ⟨#[34]⟩ := by
  refine (str_data ?_).symm
  rw [cat_data, cat_data]; simp
namespace Es
theorem pq_in {l : List UInt8} (h : qu l = true) : pq l = 34 :: (pm l ++ [34]) := by unfold pq; rw [if_pos h]
theorem pq_out {l : List UInt8} (h : qu l = false) : pq l = pm l := by unfold pq; rw [if_neg (by simp [h])]
end Es
set_option maxHeartbeats 4000000 in
set_option maxRecDepth 100000 in
theorem param_any (s : ByteArray) (w : World) (ht : Tab w) (hs : s.size ≤ 400000) :
    Calls Tryd.prog 65 #[.string s] w fun e w' => e = .returned (.tuple #[.string ⟨(Es.pqT s.data.toList).toArray⟩, .int .i64 (Es.clE true s.data.toList)]) ∧ Gr w w' := by
  have cC := check_any true s w ht (by omega)
  rw [ctl_true] at cC
  by_cases hE : Es.clE true s.data.toList = 0
  · rw [Es.pqT_ok hE]
    rw [hE] at cC ⊢
    obtain ⟨P, hP⟩ : ∃ P, Es.pq s.data.toList = P := ⟨_, rfl⟩
    rw [hP]
    have HP := Lib.hid hP
    clear hP hE
    go_enter Tryd.func65, Tryd.ntmps65
    go_wp2_with (go_at_call 84; refine cC.mono ?_; rintro e w1 ⟨rfl, hg1⟩)
    go_loopg [5, 15] s.size (fun g v5 v wx => ∃ A2 n2 c2, ∃ j : Nat, v5 = .slice A2 n2 c2 ∧ v = .int .i64 (j : Int) ∧ j + g = s.size ∧ Below w.heap.size w wx ∧ w.heap.size ≤ wx.heap.size ∧ n2 ≤ 2 * j ∧ OwnV wx w.heap.size 5 A2 n2 c2 (bc (Es.pm (s.data.toList.take j))))
    case atStart => exact ⟨_, _, _, 0, rfl, rfl, by omega, hg1.below, hg1.lt, by omega, OwnV.nil _ _ _⟩
    case round =>
      obtain ⟨A2, n2, c2, j, rfl, rfl, hjg, hb2, hsz2, hn2, hown2⟩ := hrel
      have HJ := Lib.hid hjg
      clear hjg
      by_cases hj : j < s.size
      · have HS := Lib.hid (pm_step s j hj)
        cases h10 : ((s[j].toNat : Int) == 10)
        · cases h34 : ((s[j].toNat : Int) == 34)
          · cases h94 : ((s[j].toNat : Int) == 94)
            · have HT1 := Lib.hid (Es.p1_else (by_f 10 h10) (by_f 34 h34) (by_f 94 h94))
              go_wp2_with (at_builtin; refine ap_bytes wr rfl (.tmp 22) (.tmp 24) rfl w.heap.size A2 n2 c2 _ [s[j]] rfl hown2 1 1 rfl rfl (by omega) hsz2 ?_; intro A3 c3 w3 hown3 hb3)
              go_roundg (s.size - (j + 1))
              case measure => have := HJ.out; omega
              case rel => exact ⟨_, _, _, j + 1, rfl, by go_num, by omega, hb2.trans hb3, by have := hb3.size; omega, by omega, by rw [HS.out, HT1.out]; exact hown3⟩
            · have HT1 := Lib.hid (show Es.p1 s[j] = [94, 94] by rw [by_t 94 h94]; rfl)
              go_wp2_with (at_builtin; refine ap_bytes wr rfl (.tmp 38) (.tmp 39) rfl w.heap.size A2 n2 c2 _ [94, 94] rfl hown2 2 2 rfl rfl (by omega) hsz2 ?_; intro A3 c3 w3 hown3 hb3)
              go_roundg (s.size - (j + 1))
              case measure => have := HJ.out; omega
              case rel => exact ⟨_, _, _, j + 1, rfl, by go_num, by omega, hb2.trans hb3, by have := hb3.size; omega, by omega, by rw [HS.out, HT1.out]; exact hown3⟩
          · have HT1 := Lib.hid (show Es.p1 s[j] = [94, 39] by rw [by_t 34 h34]; rfl)
            go_wp2_with (at_builtin; refine ap_bytes wr rfl (.tmp 33) (.tmp 34) rfl w.heap.size A2 n2 c2 _ [94, 39] rfl hown2 2 2 rfl rfl (by omega) hsz2 ?_; intro A3 c3 w3 hown3 hb3)
            go_roundg (s.size - (j + 1))
            case measure => have := HJ.out; omega
            case rel => exact ⟨_, _, _, j + 1, rfl, by go_num, by omega, hb2.trans hb3, by have := hb3.size; omega, by omega, by rw [HS.out, HT1.out]; exact hown3⟩
        · have HT1 := Lib.hid (show Es.p1 s[j] = [94, 110] by rw [by_t 10 h10]; rfl)
          go_wp2_with (at_builtin; refine ap_bytes wr rfl (.tmp 28) (.tmp 29) rfl w.heap.size A2 n2 c2 _ [94, 110] rfl hown2 2 2 rfl rfl (by omega) hsz2 ?_; intro A3 c3 w3 hown3 hb3)
          go_roundg (s.size - (j + 1))
          case measure => have := HJ.out; omega
          case rel => exact ⟨_, _, _, j + 1, rfl, by go_num, by omega, hb2.trans hb3, by have := hb3.size; omega, by omega, by rw [HS.out, HT1.out]; exact hown3⟩
      · obtain rfl : j = s.size := by have := HJ.out; omega
        rw [take_end s s.size (Nat.le_refl _)] at hown2
        have cA := cany_any ⟨#[58, 59, 44]⟩ asc3 s wr (by omega)
        have HQ := HP.out
        obtain ⟨Q, hQ⟩ : ∃ Q, Es.qu s.data.toList = Q := ⟨_, rfl⟩
        have e2 : (s.data.toList.any ((ByteArray.mk #[58, 59, 44]).data.toList.contains ·)) = Es.qu s.data.toList := rfl
        rw [e2, hQ] at cA
        clear e2
        cases Q
        · rw [Es.pq_out hQ] at HQ
          rw [HQ] at hown2
          clear hQ HQ
          go_wp2_with fail
          refine cA.mono ?_
          rintro e w4 ⟨rfl, hg4⟩
          have hcv := conv_back (hown2.gr hg4)
          go_wp2
          go_ret2
          exact ⟨rfl, ⟨hb2.trans (hg4.low hsz2)⟩⟩
        · rw [Es.pq_in hQ] at HQ
          have HR : Hid ((⟨P.toArray⟩ : ByteArray) = ⟨(34 :: (Es.pm s.data.toList ++ [34])).toArray⟩) := Lib.hid (by rw [HQ])
          clear hQ HQ
          go_wp2_with fail
          refine cA.mono ?_
          rintro e w4 ⟨rfl, hg4⟩
          have hcv := conv_back (hown2.gr hg4)
          rw [quote_cat] at HR
          have hpz : (ByteArray.mk (Es.pm s.data.toList).toArray).size ≤ 800000 := by rw [size_mk]; have := Es.pm_len s.data.toList; rw [← Lib.size_eq] at this; omega
          generalize (ByteArray.mk (Es.pm s.data.toList).toArray) = pb at *
          have hpz1 : ((⟨#[34]⟩ : ByteArray) ++ pb).size ≤ 800001 := by rw [ByteArray.size_append]; show 1 + _ ≤ _; omega
          go_wp2
          go_ret2
          rw [HR.out]
          exact ⟨rfl, ⟨hb2.trans (hg4.low hsz2)⟩⟩
  · rw [Es.pqT_no hE]
    have hEn : ((Es.clE true s.data.toList : Int) != 0) = true := by simpa using hE
    generalize Es.clE true s.data.toList = E at *
    clear hE
    go_enter Tryd.func65, Tryd.ntmps65
    go_wp2_with (go_at_call 84; refine cC.mono ?_; rintro e w1 ⟨rfl, hg1⟩)
    go_ret2
    exact ⟨rfl, hg1⟩
end Go.Proofs.YtbfngdpdgmgfpaaDoor
namespace Go.Proofs.YtbfngdpdgmgfpaaDoor
open Go.RowKit

namespace Es
theorem pl_cl {l : List UInt8} (h : clE false l ≠ 0) : plE l = clE false l ∧ plT l = [] := by
  by_cases hv : Lib.validD l = false
  · rw [clE_utf hv]; exact pl_utf hv
  · have hv' : Lib.validD l = true := by simpa using hv
    by_cases hb : l.any (bad false) = false
    · exact absurd (clE_ok hv' hb) h
    · have hb' : l.any (bad false) = true := by simpa using hb
      rw [clE_val hv' hb']; exact pl_none hv' (plR_bad hb')
theorem pl_zero {l : List UInt8} (h : clE false l = 0) : (sing (rd [] l) = none → plE l = 7 ∧ plT l = []) ∧ (∀ t, sing (rd [] l) = some t → plE l = 0 ∧ plT l = t) := by
  obtain ⟨h1, h2⟩ := clE_zero h
  exact ⟨fun e => pl_none h1 (by rw [plR_ok h2]; exact e), fun t e => pl_some h1 (by rw [plR_ok h2]; exact e)⟩
end Es
theorem tail_drop (s : ByteArray) (i : Nat) : (s.data.toList.drop (i + 1)).tail = s.data.toList.drop (i + 2) := by rw [List.tail_drop]
theorem ext_data (s : ByteArray) (i : Nat) : (s.extract i s.size).data.toList = s.data.toList.drop i := by rw [extract_from]
end Go.Proofs.YtbfngdpdgmgfpaaDoor
namespace Go.Proofs.YtbfngdpdgmgfpaaDoor
open Go.RowKit

theorem asc4 : Asc ⟨#[34, 58, 59, 44]⟩ := ⟨by decide, by decide, by decide⟩
namespace Es
theorem pre_34 (l : List UInt8) : Lib.hasPrefix l [34] = decide (l.head? = some 34) := by
  unfold Lib.hasPrefix
  rcases l with _ | ⟨b, l⟩
  · rfl
  · by_cases c : b = 34
    · subst c; simp
    · have : (34 == b) = false := by rw [beq_eq_false_iff_ne]; exact fun e => c e.symm
      rw [show ([34].isPrefixOf (b :: l)) = ((34 == b) && [].isPrefixOf l) from rfl, this]
      simp [c]
theorem suf_34 (l : List UInt8) : Lib.hasSuffix l [34] = decide (l.getLast? = some 34) := by
  unfold Lib.hasSuffix
  rcases List.eq_nil_or_concat l with rfl | ⟨x, b, rfl⟩
  · rfl
  · rw [List.concat_eq_append]
    by_cases c : b = 34
    · subst c
      have : [34].isSuffixOf (x ++ [34]) = true := by rw [List.isSuffixOf_iff_suffix]; exact ⟨x, rfl⟩
      simp [this]
    · have : [34].isSuffixOf (x ++ [b]) = false := by
        rw [Bool.eq_false_iff]
        intro h
        rw [List.isSuffixOf_iff_suffix] at h
        obtain ⟨y, h⟩ := h
        have := congrArg List.getLast? h
        simp at this
        exact c this.symm
      simp [this, c]
theorem vq_len {l m : List UInt8} (h : vq l = some m) : m.length ≤ l.length := by
  unfold vq at h
  split at h
  · split at h
    · injection h with h
      subst h
      rw [List.length_dropLast, List.length_tail]; omega
    · cases h
  · split at h
    · cases h
    · injection h with h
      subst h; exact Nat.le_refl _
end Es
theorem pre_any (s : ByteArray) (w : World) :
    Calls Tryd.prog 115 #[.string s, .string ⟨#[34]⟩] w fun e w' => e = .returned (.bool (decide (s.data.toList.head? = some 34))) ∧ w = w' := by
  refine (Tryd.strings_HasPrefix s ⟨#[34]⟩ w).mono ?_
  rintro e w' ⟨rfl, rfl⟩
  rw [← Es.pre_34]
  exact ⟨rfl, rfl⟩
theorem cont_any (s : ByteArray) (w : World) :
    Calls Tryd.prog 78 #[.string s, .string ⟨#[34]⟩] w fun e w' => e = .returned (.bool (s.data.toList.contains 34)) ∧ w = w' := by
  refine (Tryd.strings_Contains_one s 34 w).mono ?_
  rintro e w' ⟨rfl, rfl⟩
  exact ⟨by rw [Fd.idx_has], rfl⟩
theorem last_pos {l : List UInt8} (h : l.getLast? = some 34) : 1 ≤ l.length := by
  rcases l with _ | ⟨b, l⟩
  · cases h
  · simp
set_option maxHeartbeats 1000000 in
theorem cutlite9_yes (s : ByteArray) (w : World) (hs : s.size ≤ 140737488355328) (h : s.data.toList.getLast? = some 34) :
    Calls Tryd.prog 118 #[.string s, .string ⟨#[34]⟩] w fun e w' => e = .returned (.tuple #[.string ⟨s.data.toList.dropLast.toArray⟩, .bool true]) ∧ w = w' := by
  have cH := Tryd.stringslite_HasSuffix s ⟨#[34]⟩ w (by omega)
  have e1 : Lib.hasSuffix s.data.toList (ByteArray.mk #[34]).data.toList = true := (Es.suf_34 _).trans (decide_eq_true h)
  rw [e1] at cH
  have hp := last_pos h
  rw [← Lib.size_eq] at hp
  have e2 : s.data.toList.dropLast = s.data.toList.take (s.size - 1) := by rw [List.dropLast_eq_take, ← Lib.size_eq]
  have e3 := extract_to s (s.size - 1)
  rw [← e2] at e3
  have e4 : ((s.size : Int) - 1).toNat = s.size - 1 := by omega
  have e5 : (s.size : Int) - 1 = ((s.size - 1 : Nat) : Int) := by omega
  have HX := Lib.hid e3
  clear e1 e2 e3 h
  go_enter Tryd.func118, Tryd.ntmps118
  go_wp2_with (go_at_call 102; refine cH.mono ?_; rintro e w' ⟨rfl, rfl⟩)
  go_ret2
  rw [← HX.out]
  exact ⟨rfl, rfl⟩
set_option maxHeartbeats 1000000 in
theorem cutlite9_no (s : ByteArray) (w : World) (hs : s.size ≤ 140737488355328) (h : s.data.toList.getLast? ≠ some 34) :
    Calls Tryd.prog 118 #[.string s, .string ⟨#[34]⟩] w fun e w' => e = .returned (.tuple #[.string s, .bool false]) ∧ w = w' := by
  have cH := Tryd.stringslite_HasSuffix s ⟨#[34]⟩ w (by omega)
  have e1 : Lib.hasSuffix s.data.toList (ByteArray.mk #[34]).data.toList = false := (Es.suf_34 _).trans (decide_eq_false h)
  rw [e1] at cH
  clear e1 h
  go_enter Tryd.func118, Tryd.ntmps118
  go_wp2_with (go_at_call 102; refine cH.mono ?_; rintro e w' ⟨rfl, rfl⟩)
  go_ret2
  exact ⟨rfl, rfl⟩
set_option maxHeartbeats 1000000 in
theorem cutsuf_yes (s : ByteArray) (w : World) (hs : s.size ≤ 140737488355328) (h : s.data.toList.getLast? = some 34) :
    Calls Tryd.prog 116 #[.string s, .string ⟨#[34]⟩] w fun e w' => e = .returned (.tuple #[.string ⟨s.data.toList.dropLast.toArray⟩, .bool true]) ∧ w = w' := by
  have cH := cutlite9_yes s w hs h
  generalize (ByteArray.mk s.data.toList.dropLast.toArray) = d at *
  clear h
  go_enter Tryd.func116, Tryd.ntmps116
  go_wp2_with (go_at_call 118; refine cH.mono ?_; rintro e w' ⟨rfl, rfl⟩)
  go_ret2
  exact ⟨rfl, rfl⟩
set_option maxHeartbeats 1000000 in
theorem cutsuf_no (s : ByteArray) (w : World) (hs : s.size ≤ 140737488355328) (h : s.data.toList.getLast? ≠ some 34) :
    Calls Tryd.prog 116 #[.string s, .string ⟨#[34]⟩] w fun e w' => e = .returned (.tuple #[.string s, .bool false]) ∧ w = w' := by
  have cH := cutlite9_no s w hs h
  clear h
  go_enter Tryd.func116, Tryd.ntmps116
  go_wp2_with (go_at_call 118; refine cH.mono ?_; rintro e w' ⟨rfl, rfl⟩)
  go_ret2
  exact ⟨rfl, rfl⟩
set_option maxHeartbeats 2000000 in
theorem unq_any (s : ByteArray) (w : World) (hs : s.size ≤ 400000) :
    Calls Tryd.prog 111 #[.string s] w fun e w' => ∃ X, e = .returned (.tuple #[.string X, .bool (Es.vq s.data.toList).isSome]) ∧ (∀ m, Es.vq s.data.toList = some m → X = ⟨m.toArray⟩) ∧ Gr w w' := by
  have cP := pre_any s w
  by_cases hh : s.data.toList.head? = some 34
  · rw [decide_eq_true hh] at cP
    have hpos : 1 ≤ s.size := by
      rcases Nat.eq_zero_or_pos s.size with h | h
      · rw [empty_list s h] at hh; cases hh
      · exact h
    have hx : (s.extract 1 s.size).data.toList = s.data.toList.tail := by rw [ext_data, List.drop_one]
    have hxz : (s.extract 1 s.size).size ≤ 140737488355328 := by rw [Lib.size_eq, hx, List.length_tail, ← Lib.size_eq]; omega
    have hq := Es.vq_in hh
    by_cases hl : s.data.toList.tail.getLast? = some 34
    · have cC := fun w => cutsuf_yes (s.extract 1 s.size) w hxz (by rw [hx]; exact hl)
      rw [hx] at cC
      have cK := fun w => cont_any ⟨s.data.toList.tail.dropLast.toArray⟩ w
      have e1 : (ByteArray.mk s.data.toList.tail.dropLast.toArray).data.toList = s.data.toList.tail.dropLast := rfl
      rw [e1] at cK
      by_cases hc : 34 ∈ s.data.toList.tail.dropLast
      · rw [if_neg (fun h => h.2 hc)] at hq
        rw [hq]
        have e2 : s.data.toList.tail.dropLast.contains 34 = true := by simpa using hc
        rw [e2] at cK
        clear e1 e2 hc hl hx hh hq
        generalize (ByteArray.mk s.data.toList.tail.dropLast.toArray) = d at *
        go_enter Tryd.func111, Tryd.ntmps111
        go_wp2_with (first
          | (go_at_call 115; refine cP.mono ?_; rintro e w' ⟨rfl, rfl⟩)
          | (go_at_call 116; refine (cC _).mono ?_; rintro e w' ⟨rfl, rfl⟩)
          | (go_at_call 78; refine (cK _).mono ?_; rintro e w' ⟨rfl, rfl⟩))
        go_ret2
        exact ⟨_, rfl, fun m h => (by simp at h), Gr.refl _⟩
      · rw [if_pos ⟨hl, hc⟩] at hq
        have e2 : s.data.toList.tail.dropLast.contains 34 = false := by simpa using hc
        rw [e2] at cK
        rw [hq]
        have HX : Hid (∀ m, some s.data.toList.tail.dropLast = some m → (ByteArray.mk s.data.toList.tail.dropLast.toArray) = ⟨m.toArray⟩) := Lib.hid (fun m h => by injection h with h; rw [h])
        have e3 : (some s.data.toList.tail.dropLast).isSome = true := rfl
        rw [e3]
        clear e1 e2 e3 hc hl hx hh hq
        generalize (ByteArray.mk s.data.toList.tail.dropLast.toArray) = d at *
        generalize s.data.toList.tail.dropLast = dl at *
        go_enter Tryd.func111, Tryd.ntmps111
        go_wp2_with (first
          | (go_at_call 115; refine cP.mono ?_; rintro e w' ⟨rfl, rfl⟩)
          | (go_at_call 116; refine (cC _).mono ?_; rintro e w' ⟨rfl, rfl⟩)
          | (go_at_call 78; refine (cK _).mono ?_; rintro e w' ⟨rfl, rfl⟩))
        go_ret2
        exact ⟨_, rfl, HX.out, Gr.refl _⟩
    · have cC := fun w => cutsuf_no (s.extract 1 s.size) w hxz (by rw [hx]; exact hl)
      rw [if_neg (fun h => hl h.1)] at hq
      rw [hq]
      clear hl hx hh hq
      go_enter Tryd.func111, Tryd.ntmps111
      go_wp2_with (first
        | (go_at_call 115; refine cP.mono ?_; rintro e w' ⟨rfl, rfl⟩)
        | (go_at_call 116; refine (cC _).mono ?_; rintro e w' ⟨rfl, rfl⟩))
      go_ret2
      exact ⟨_, rfl, fun m h => (by simp at h), Gr.refl _⟩
  · rw [decide_eq_false hh] at cP
    have hq := Es.vq_out hh
    have cA := fun w => cany_any ⟨#[34, 58, 59, 44]⟩ asc4 s w (by omega)
    have e2 : (s.data.toList.any ((ByteArray.mk #[34, 58, 59, 44]).data.toList.contains ·)) = s.data.toList.any Es.qb := rfl
    rw [e2] at cA
    obtain ⟨Q, hQ⟩ : ∃ Q, s.data.toList.any Es.qb = Q := ⟨_, rfl⟩
    rw [hQ] at hq cA
    rw [hq]
    cases Q
    · have e3 : (if false = true then none else some s.data.toList) = some s.data.toList := rfl
      rw [e3]
      have HX : Hid (∀ m, some s.data.toList = some m → s = ⟨m.toArray⟩) := Lib.hid (fun m h => by injection h with h; rw [← h])
      have e4 : (some s.data.toList).isSome = true := rfl
      rw [e4]
      clear hq hQ hh e2 e3 e4
      go_enter Tryd.func111, Tryd.ntmps111
      go_wp2_with (first
        | (go_at_call 115; refine cP.mono ?_; rintro e w' ⟨rfl, rfl⟩)
        | (go_at_call 66; refine (cA _).mono ?_; rintro e w' ⟨rfl, hg⟩))
      go_ret2
      exact ⟨_, rfl, HX.out, hg⟩
    · have e3 : (if true = true then none else some s.data.toList) = none := rfl
      rw [e3]
      clear hq hQ hh e2 e3
      go_enter Tryd.func111, Tryd.ntmps111
      go_wp2_with (first
        | (go_at_call 115; refine cP.mono ?_; rintro e w' ⟨rfl, rfl⟩)
        | (go_at_call 66; refine (cA _).mono ?_; rintro e w' ⟨rfl, hg⟩))
      go_ret2
      exact ⟨_, rfl, fun m h => (by simp at h), hg⟩
end Go.Proofs.YtbfngdpdgmgfpaaDoor
namespace Go.Proofs.YtbfngdpdgmgfpaaDoor
open Go.RowKit

namespace Es
theorem vl_cl {l : List UInt8} (h : clE false l ≠ 0) : vlE l = clE false l ∧ vlT l = [] := by
  by_cases hv : Lib.validD l = false
  · rw [clE_utf hv]; exact vl_utf hv
  · have hv' : Lib.validD l = true := by simpa using hv
    by_cases hb : l.any (bad false) = false
    · exact absurd (clE_ok hv' hb) h
    · have hb' : l.any (bad false) = true := by simpa using hb
      rw [clE_val hv' hb']; exact vl_none hv' (vlR_bad hb')
theorem vl_zero {l : List UInt8} (h : clE false l = 0) : (vq l = none → vlE l = 7 ∧ vlT l = []) ∧ (∀ m, vq l = some m → vlE l = 0 ∧ vlT l = vr m) := by
  obtain ⟨h1, h2⟩ := clE_zero h
  exact ⟨fun e => vl_none h1 (by rw [vlR_ok h2, e]; rfl), fun m e => vl_some h1 (by rw [vlR_ok h2, e]; rfl)⟩
end Es
theorem acaret_some (s : ByteArray) (w : World) (x : UInt8) (h : Es.ac s.data.toList = some x) :
    Calls Tryd.prog 112 #[.string s] w fun e w' => e = .returned (.tuple #[.int .u8 (x.toNat : Int), .bool true]) ∧ w = w' := by
  have := acaret_any s w
  rw [h] at this
  exact this
theorem acaret_none (s : ByteArray) (w : World) (h : Es.ac s.data.toList = none) :
    Calls Tryd.prog 112 #[.string s] w fun e w' => e = .returned (.tuple #[.int .u8 0, .bool false]) ∧ w = w' := by
  have := acaret_any s w
  rw [h] at this
  exact this
theorem ac_ne {r : List UInt8} {x : UInt8} (h : Es.ac r = some x) : r ≠ [] := by intro e; subst e; cases h
set_option maxHeartbeats 4000000 in
set_option maxRecDepth 100000 in
theorem value_any (s : ByteArray) (w : World) (ht : Tab w) (hs : s.size ≤ 400000) :
    Calls Tryd.prog 104 #[.string s] w fun e w' => e = .returned (.tuple #[.string ⟨(Es.vlT s.data.toList).toArray⟩, .int .i64 (Es.vlE s.data.toList)]) ∧ Gr w w' := by
  have cC := check_any false s w ht (by omega)
  rw [ctl_false] at cC
  by_cases hE : Es.clE false s.data.toList = 0
  · obtain ⟨hN, hY⟩ := Es.vl_zero hE
    rw [hE] at cC
    have cU := fun w => unq_any s w hs
    cases hq : Es.vq s.data.toList with
    | none =>
      obtain ⟨e1, e2⟩ := hN hq
      rw [e1, e2]
      have cU2 := fun w => (cU w).mono (R' := fun e w' => ∃ X, e = .returned (.tuple #[.string X, .bool false]) ∧ Gr w w') (fun e w' ⟨X, h1, _, h3⟩ => ⟨X, by rw [hq] at h1; exact h1, h3⟩)
      clear hN hY hq e1 e2 hE cU
      go_enter Tryd.func104, Tryd.ntmps104
      go_wp2_with (first
        | (go_at_call 84; refine cC.mono ?_; rintro e w1 ⟨rfl, hg1⟩)
        | (go_at_call 111; refine (cU2 _).mono ?_; rintro e w2 ⟨X, rfl, hg2⟩))
      go_ret2
      exact ⟨rfl, hg1.trans hg2⟩
    | some m =>
      obtain ⟨e1, e2⟩ := hY m hq
      rw [e1, e2]
      have cU2 := fun w => (cU w).mono (R' := fun e w' => e = .returned (.tuple #[.string ⟨m.toArray⟩, .bool true]) ∧ Gr w w') (fun e w' ⟨X, h1, h2, h3⟩ => ⟨by rw [h1, hq, h2 m hq]; rfl, h3⟩)
      have hml := Es.vq_len hq
      rw [← Lib.size_eq] at hml
      have htz : (ByteArray.mk m.toArray).size = m.length := size_mk _
      rw [← htz] at hml
      obtain ⟨V, hV⟩ : ∃ V, Es.vr m = V := ⟨_, rfl⟩
      rw [hV]
      have hV2 : Es.vr (ByteArray.mk m.toArray).data.toList = V := hV
      have HV := Lib.hid hV2
      clear hN hY hq e1 e2 hE cU hV hV2 htz
      generalize (ByteArray.mk m.toArray) = t at *
      go_enter Tryd.func104, Tryd.ntmps104
      go_wp2_with (first
        | (go_at_call 84; refine cC.mono ?_; rintro e w1 ⟨rfl, hg1⟩)
        | (go_at_call 111; refine (cU2 _).mono ?_; rintro e w2 ⟨rfl, hg2⟩))
      have hg12 := hg1.trans hg2
      go_loopg [7, 8] t.size (fun g v7 v wx => ∃ A2 n2 c2 acc, ∃ i : Nat, v7 = .slice A2 n2 c2 ∧ v = .int .i64 (i : Int) ∧ i + g = t.size ∧ Below w.heap.size w wx ∧ w.heap.size ≤ wx.heap.size ∧ n2 ≤ i ∧ OwnV wx w.heap.size 5 A2 n2 c2 (bc acc) ∧ Hid (acc ++ Es.vr (t.data.toList.drop i) = V))
      case atStart => exact ⟨_, _, _, [], 0, rfl, rfl, by omega, hg12.below, hg12.lt, by omega, OwnV.nil _ _ _, HV⟩
      case round =>
        obtain ⟨A2, n2, c2, acc, i, rfl, rfl, hig, hb2, hsz2, hn2, hown2, HA⟩ := hrel
        have HG := Lib.hid hig
        clear hig
        by_cases hi : i < t.size
        · have hd := drop_at t i hi
          have ha := HA.out
          rw [hd] at ha
          cases h94 : ((t[i].toNat : Int) == 94)
          · rw [Es.vr_else _ _ (by_f 94 h94)] at ha
            have HB : Hid (acc ++ [t[i]] ++ Es.vr (t.data.toList.drop (i + 1)) = V) := Lib.hid (by rw [← ha]; simp)
            clear ha hd
            go_wp2_with (at_builtin; refine ap_bytes wr rfl (.tmp 47) (.tmp 49) rfl w.heap.size A2 n2 c2 acc [t[i]] rfl hown2 1 1 rfl rfl (by omega) hsz2 ?_; intro A3 c3 w3 hown3 hb3)
            go_roundg (t.size - (i + 1))
            case measure => have := HG.out; omega
            case rel => exact ⟨_, _, _, _, i + 1, rfl, by go_num, by omega, hb2.trans hb3, by have := hb3.size; omega, by omega, hown3, HB⟩
          · have ht94 := by_t 94 h94
            rw [ht94] at ha
            have hx := ext_data t (i + 1)
            cases hab : Es.ac (t.data.toList.drop (i + 1)) with
            | none =>
              rw [Es.vr_none _ hab] at ha
              have cB := fun w => acaret_none (t.extract (i + 1) t.size) w (by rw [hx]; exact hab)
              have HB : Hid (acc ++ [t[i]] ++ Es.vr (t.data.toList.drop (i + 1)) = V) := Lib.hid (by rw [← ha, ht94]; simp)
              clear ha hd hx hab ht94
              go_wp2_with (first
                | (go_at_call 112; refine (cB _).mono ?_; rintro e w' ⟨rfl, rfl⟩)
                | (at_builtin; refine ap_bytes wr rfl (.tmp 47) (.tmp 49) rfl w.heap.size A2 n2 c2 acc [t[i]] rfl hown2 1 1 rfl rfl (by omega) hsz2 ?_; intro A3 c3 w3 hown3 hb3))
              go_roundg (t.size - (i + 1))
              case measure => have := HG.out; omega
              case rel => exact ⟨_, _, _, _, i + 1, rfl, by go_num, by omega, hb2.trans hb3, by have := hb3.size; omega, by omega, hown3, HB⟩
            | some x =>
              rw [Es.vr_some _ _ hab, tail_drop] at ha
              have cB := fun w => acaret_some (t.extract (i + 1) t.size) w x (by rw [hx]; exact hab)
              have hi2 : i + 1 < t.size := by
                have := List.length_pos_iff.2 (ac_ne hab)
                rw [List.length_drop, ← Lib.size_eq] at this
                omega
              have HB : Hid (acc ++ [x] ++ Es.vr (t.data.toList.drop (i + 2)) = V) := Lib.hid (by rw [← ha]; simp)
              clear ha hd hx hab ht94
              go_wp2_with (first
                | (go_at_call 112; refine (cB _).mono ?_; rintro e w' ⟨rfl, rfl⟩)
                | (at_builtin; refine ap_bytes wr rfl (.tmp 47) (.tmp 49) rfl w.heap.size A2 n2 c2 acc [x] rfl hown2 1 1 rfl rfl (by omega) hsz2 ?_; intro A3 c3 w3 hown3 hb3))
              go_roundg (t.size - (i + 2))
              case measure => have := HG.out; omega
              case rel => exact ⟨_, _, _, _, i + 2, rfl, by go_num, by omega, hb2.trans hb3, by have := hb3.size; omega, by omega, hown3, HB⟩
        · have ha := HA.out
          rw [drop_end t i (by omega), Es.vr_nil, List.append_nil] at ha
          obtain rfl : i = t.size := by have := HG.out; omega
          rw [ha] at hown2
          clear ha
          have hcv := conv_back hown2
          go_wp2
          go_ret2
          exact ⟨rfl, ⟨hb2⟩⟩
  · obtain ⟨e1, e2⟩ := Es.vl_cl hE
    rw [e1, e2]
    have hEn : ((Es.clE false s.data.toList : Int) != 0) = true := by simpa using hE
    generalize Es.clE false s.data.toList = E at *
    clear hE e1 e2
    go_enter Tryd.func104, Tryd.ntmps104
    go_wp2_with (go_at_call 84; refine cC.mono ?_; rintro e w1 ⟨rfl, hg1⟩)
    go_ret2
    exact ⟨rfl, hg1⟩
end Go.Proofs.YtbfngdpdgmgfpaaDoor
namespace Go.Proofs.YtbfngdpdgmgfpaaDoor
open Go.RowKit

theorem Mv.below {b : Nat} {w w1 w2 : World} (h : Mv b w w1) (k : Below w.heap.size w1 w2) : Mv b w w2 :=
  ⟨k.os.trans h.os, k.tape.trans h.tape, k.output.trans h.output, Nat.le_trans h.size k.size, fun i hi hne => (k.block i hi).trans (h.block i hi hne)⟩
theorem RB.below {w w' : World} {b B : Nat} {s : ByteArray} {i : Nat} (h : RB w b s i) (hg : Below B w w') (hb : b < B) : RB w' b s i :=
  ⟨(hg.cell hb).trans h.c0, (hg.cell hb).trans h.c1, (hg.frozen hb).trans h.free⟩
/- append(out, byte) inside a region that draws its order -/
theorem st_byte {ops : Array Oper} {o : Oper} {a : Act} {K : Act → World → Prop} {Q : Exit → Act → World → Prop} {E : Prop} (w : World) (hgd : o.guard = none) (sl x : Operand)
    (ho : o.op = .call { callee := .builtin .append, args := #[sl, x], argTypes := #[85, 85] })
    (B : Nat) (A : Option Addr) (n c : Nat) (l : List UInt8) (hs : a.eval sl = .slice A n c) (hown : OwnV w B 5 A n c (bc l)) (b : UInt8) (hx : a.eval x = .slice (some ⟨w.heap.size, 0, none⟩) 1 1)
    (hlen : n + 1 ≤ 1000000) (hB : B ≤ w.heap.size)
    (h : ∀ A' c' w', OwnV w' B 5 A' (n + 1) c' (bc (l ++ [b])) → Below B w w' → K (a.put o.dst (.slice A' (n + 1) c')) w') :
    if Region.wanted o (yielded ops a.tmps) = true then Oper.wp Tryd.prog o a (w.alloc (.cells #[.int .u8 (b.toNat : Int)] 5)).drew K Q else E := by
  obtain ⟨i0, hi, hz0, hz1, hz2⟩ := info_parts info_u8
  have hsz : (w.alloc (.cells #[.int .u8 (b.toNat : Int)] 5)).drew.heap.size = w.heap.size + 1 := by simp
  have hown2 : (w.alloc (.cells #[.int .u8 (b.toNat : Int)] 5)).drew.ownsRow B 5 1 (.slice A n c) n (bc l) := World.ownsRow.alloc hown _
  refine step_append_lies _ hgd sl x 85 ho B 5 i0 (.int .u8 0) 1 1 Tryd.underlying85 hi hz0 hz1 hz2 rfl (by omega) (.slice A n c) n (bc l) hs hown2 ⟨w.heap.size, 0, none⟩ 1 1 [.int .u8 (b.toNat : Int)] hx rfl
    (World.news_of_block (cs := #[.int .u8 (b.toNat : Int)]) (t := 5) (fr := (0, 0)) (heap_alloc_new w _)) (by simp [Value.oneCell']) (by omega) (by unfold maxLen; omega) (by omega) (by omega) (w.heap.size + 1) (by simp) ?_
  intro g cap w' h1 h2 _ _
  refine h _ _ w' ?_ (((Below.refl B w).alloc hB _).drew.trans (below_of_grown hown2 (by omega) h2))
  rw [bc_append]
  exact h1
namespace Ln
theorem nm_step (k : Nat) (s : ByteArray) (j : Nat) (hj : j < s.size) (h : inN (up s[j]) = true) : nm (k + 1) (s.data.toList.drop j) = (up s[j] :: (nm k (s.data.toList.drop (j + 1))).1, (nm k (s.data.toList.drop (j + 1))).2) := by
  rw [drop_at s j hj, nm_yes _ _ _ h]
theorem nm_stop (k : Nat) (s : ByteArray) (j : Nat) (hj : j < s.size) (h : inN (up s[j]) = false) : nm k (s.data.toList.drop j) = ([], s.data.toList.drop j) := by
  rw [drop_at s j hj, nm_no _ _ _ h]
end Ln
set_option maxHeartbeats 4000000 in
set_option maxRecDepth 100000 in
theorem name_any (b : Nat) (s : ByteArray) (i : Nat) (w : World) (h : RB w b s i) (hi : i ≤ s.size) (hs : s.size ≤ 400000) :
    Calls Tryd.prog 80 #[.pointer (some ⟨b, 0, none⟩)] w fun e w' => e = .returned (.tuple #[.string ⟨(Ln.nm 60 (s.data.toList.drop i)).1.toArray⟩, .bool (decide (0 < (Ln.nm 60 (s.data.toList.drop i)).1.length))]) ∧ Mv b w w' ∧ ∃ j, RB w' b s j ∧ i ≤ j ∧ j ≤ s.size ∧ s.data.toList.drop j = (Ln.nm 60 (s.data.toList.drop i)).2 := by
  have hbl := h.lt
  obtain ⟨N, hN⟩ : ∃ N, Ln.nm 60 (s.data.toList.drop i) = N := ⟨_, rfl⟩
  rw [hN]
  have HN := Lib.hid hN
  have HR := Lib.hid h
  clear hN h
  go_enter Tryd.func80, Tryd.ntmps80
  go_wp2
  go_loopg [4] (s.size - i) (fun g v4 wx => ∃ A n c acc, ∃ j : Nat, v4 = .slice A n c ∧ n ≤ 60 ∧ i ≤ j ∧ j + g = s.size ∧ OwnV wx w.heap.size 5 A n c (bc acc) ∧ Mv b w wx ∧ w.heap.size ≤ wx.heap.size ∧ RB wx b s j ∧ Hid (N = (acc ++ (Ln.nm (60 - n) (s.data.toList.drop j)).1, (Ln.nm (60 - n) (s.data.toList.drop j)).2)))
  case atStart => exact ⟨_, _, _, [], i, rfl, by omega, by omega, by omega, OwnV.nil _ _ _, Mv.refl _ _, by omega, HR.out, Lib.hid (by rw [← HN.out]; rfl)⟩
  case round =>
    obtain ⟨A, n, c, acc, j, rfl, hn, hij, hjg, hown, hmv, hsz, hrb, HA⟩ := hrel
    have HG := Lib.hid hjg
    clear hjg
    have hacc : acc.length = n := by simpa [bc] using hown.len
    have HL := Lib.hid hacc
    clear hacc
    have HB := Lib.hid hrb
    obtain ⟨c0, c1, c2⟩ := hrb
    by_cases hj : j < s.size
    · by_cases h60 : n < 60
      · have h60i : (n : Int) < 60 := by omega
        have h60d : decide ((n : Int) < 60) = true := decide_eq_true h60i
        have cU := fun w => upper_any s[j] w
        have cI := fun w => inName_any (Ln.up s[j]) w
        cases hin : Ln.inN (Ln.up s[j])
        · have HE : Hid (N = (acc, s.data.toList.drop j)) := Lib.hid (by rw [HA.out, Ln.nm_stop _ s j hj hin]; simp)
          rw [hin] at cI
          clear hin
          go_wp2
          go_quiet (first | (go_at_call 93; exact qsame (cU _)) | (go_at_call 70; exact qsame (cI _)))
          have hown1 : OwnV (wr.drewN nq) w.heap.size 5 A n c (bc acc) := hown.gr ((Gr.refl _).drewN nq)
          have hcv := conv_back hown1
          go_wp2
          go_ret2
          rw [HE.out]
          exact ⟨by rw [show (acc, s.data.toList.drop j).1 = acc from rfl, HL.out]; first | done | rfl, hmv.drewN nq, j, HB.out.drew nq, hij, by omega, rfl⟩
        · have hst := Ln.nm_step (60 - (n + 1)) s j hj hin
          rw [show 60 - (n + 1) + 1 = 60 - n by omega] at hst
          have HA2 : Hid (N = (acc ++ [Ln.up s[j]] ++ (Ln.nm (60 - (n + 1)) (s.data.toList.drop (j + 1))).1, (Ln.nm (60 - (n + 1)) (s.data.toList.drop (j + 1))).2)) := Lib.hid (by rw [HA.out, hst]; simp)
          rw [hin] at cI
          clear hst hin
          go_wp2
          go_quiet (first | (go_at_call 93; exact qsame (cU _)) | (go_at_call 70; exact qsame (cI _)))
          have hmv1 := hmv.drewN nq
          have hsz1 : w.heap.size ≤ (wr.drewN nq).heap.size := hsz
          have hb1 := HB.out.drew nq
          have hown1 : OwnV (wr.drewN nq) w.heap.size 5 A n c (bc acc) := hown.gr ((Gr.refl _).drewN nq)
          clear hown hmv hsz c0 c1 c2 HB
          generalize wr.drewN nq = w1 at *
          have HB := Lib.hid hb1
          obtain ⟨c0, c1, c2⟩ := hb1
          have hb1l : b < w1.heap.size := by omega
          have hn1 : n + 1 ≤ 1000000 := by omega
          go_wp2_with fail
          go_region_held3 (fun w' => w'.cell? ⟨b, 0, none⟩ = some (.string s) ∧ w'.cell? ⟨b, 1, none⟩ = some (.int .i64 (j : Int)))
            (first | exact ⟨c0, c1⟩ | exact ⟨(hb3.cell hbl).trans c0, (hb3.cell hbl).trans c1⟩ | go_keep)
            (first | (go_at_call 93; refine (cU _).mono ?_; rintro e w' ⟨rfl, rfl⟩) | (refine st_byte w1 (by rfl) (.tmp 33) (.tmp 44) (by rfl) w.heap.size A n c acc (by rfl) hown1 (Ln.up s[j]) (by rfl) hn1 hsz1 ?_; intro A3 c3 w3 hown3 hb3))
          have hb3r := HB.out.below hb3 hbl
          have HB3 := Lib.hid hb3r
          have hmv3 := hmv1.below hb3
          have hsz3 : w.heap.size ≤ w3.heap.size := by have := hb3.size; omega
          obtain ⟨d0, d1, d2⟩ := hb3r
          clear c0 c1 c2 hown1 hmv1 hsz1
          go_wp2
          go_roundg (s.size - (j + 1))
          case measure => have := HG.out; omega
          case rel => exact ⟨_, n + 1, _, acc ++ [Ln.up s[j]], j + 1, rfl, by omega, by omega, by omega, ownsRow_setCell_below hown3 (a := ⟨b, 1, none⟩) hbl _, hmv3.trans (Mv.set b _ 1 _), by simpa using hsz3, HB3.out.set (j + 1), HA2⟩
      · have h60d : decide ((n : Int) < 60) = false := decide_eq_false (by omega)
        have HE : Hid (N = (acc, s.data.toList.drop j)) := Lib.hid (by rw [HA.out, show 60 - n = 0 by omega, Ln.nm_zero]; simp)
        go_wp2
        go_quiet (fail)
        have hown1 : OwnV (wr.drewN nq) w.heap.size 5 A n c (bc acc) := hown.gr ((Gr.refl _).drewN nq)
        have hcv := conv_back hown1
        go_wp2
        go_ret2
        rw [HE.out]
        exact ⟨by rw [show (acc, s.data.toList.drop j).1 = acc from rfl, HL.out]; first | done | rfl, hmv.drewN nq, j, HB.out.drew nq, hij, by omega, rfl⟩
    · obtain rfl : j = s.size := by have := HG.out; omega
      have HE : Hid (N = (acc, s.data.toList.drop s.size)) := Lib.hid (by rw [HA.out, drop_end s s.size (Nat.le_refl _), Ln.nm_nil]; simp)
      go_wp2
      go_quiet (fail)
      have hown1 : OwnV (wr.drewN nq) w.heap.size 5 A n c (bc acc) := hown.gr ((Gr.refl _).drewN nq)
      have hcv := conv_back hown1
      go_wp2
      go_ret2
      rw [HE.out]
      exact ⟨by rw [show (acc, s.data.toList.drop s.size).1 = acc from rfl, HL.out]; first | done | rfl, hmv.drewN nq, s.size, HB.out.drew nq, hij, by omega, rfl⟩
end Go.Proofs.YtbfngdpdgmgfpaaDoor
namespace Go.Proofs.YtbfngdpdgmgfpaaDoor
open Go.RowKit

namespace Ln
open Go.Lib Go.Proofs.YtbfngdpdgmgfpaaDoor.Fd
/- how many bytes are ahead of the first one of the set -/
def tk (cs l : List UInt8) : Nat := (l.takeWhile fun b => !cs.contains b).length
def ix (cs l : List UInt8) : Int := if tk cs l = l.length then -1 else (tk cs l : Int)
theorem tk_nil (cs : List UInt8) : tk cs [] = 0 := rfl
theorem tk_in (cs l : List UInt8) (b : UInt8) (h : cs.contains b = true) : tk cs (b :: l) = 0 := by unfold tk; rw [List.takeWhile_cons, if_neg (by simpa using h)]; rfl
theorem tk_out (cs l : List UInt8) (b : UInt8) (h : cs.contains b = false) : tk cs (b :: l) = tk cs l + 1 := by unfold tk; rw [List.takeWhile_cons, if_pos (by simpa using h)]; rfl
theorem tk_le (cs l : List UInt8) : tk cs l ≤ l.length := by
  induction l with
  | nil => exact Nat.le_refl _
  | cons b l ih =>
    cases h : cs.contains b
    · rw [tk_out _ _ _ h, List.length_cons]; omega
    · rw [tk_in _ _ _ h]; omega
theorem tk_at (cs l : List UInt8) : ∀ i b, NoC cs l i → l[i]? = some b → b ∈ cs → tk cs l = i := by
  induction l with
  | nil => intro i b _ h _; simp at h
  | cons x l ih =>
    intro i b hno h hb
    rcases i with _ | i
    · have : x = b := by simpa using h
      subst this
      exact tk_in _ _ _ (by simpa using hb)
    · have hx : cs.contains x = false := by
        have := hno 0 x (by omega) rfl
        simpa using this
      rw [tk_out _ _ _ hx, ih i b (fun j y hj hy => hno (j + 1) y (by omega) (by simpa using hy)) (by simpa using h) hb]
theorem tk_none (cs l : List UInt8) (h : NoC cs l l.length) : tk cs l = l.length := by
  induction l with
  | nil => rfl
  | cons x l ih =>
    have hx : cs.contains x = false := by
      have := h 0 x (by simp) rfl
      simpa using this
    rw [tk_out _ _ _ hx, ih (fun j y hj hy => h (j + 1) y (by simpa using hj) (by simpa using hy)), List.length_cons]
theorem ix_any (cs l : List UInt8) : indexAny l cs = ix cs l := by
  induction l with
  | nil => rfl
  | cons b l ih =>
    have hl := tk_le cs l
    have e : indexAny (b :: l) cs = if cs.contains b then 0 else if indexAny l cs == -1 then -1 else indexAny l cs + 1 := rfl
    rw [e, ih]
    unfold ix
    cases h : cs.contains b
    · rw [tk_out _ _ _ h, List.length_cons]
      simp only [Bool.false_eq_true, if_false]
      by_cases c : tk cs l = l.length
      · rw [if_pos (show tk cs l + 1 = l.length + 1 by omega), if_pos c]; rfl
      · rw [if_neg (show ¬ tk cs l + 1 = l.length + 1 by omega), if_neg c, if_neg (show ¬ ((tk cs l : Int) == -1) = true by rw [beq_iff_eq]; omega)]; omega
    · rw [tk_in _ _ _ h, List.length_cons]
      simp only [if_true]
      rw [if_neg (by omega)]; rfl
theorem ix_byte (c : UInt8) (l : List UInt8) : indexByte l c = ix [c] l := by
  induction l with
  | nil => rfl
  | cons b l ih =>
    have hl := tk_le [c] l
    by_cases h : b = c
    · subst h
      rw [idx_in b (b :: l) (by simp)]
      unfold ix
      rw [tk_in _ _ _ (by simp), List.length_cons, if_neg (by omega)]
      simp
    · have hc : [c].contains b = false := by simpa using h
      have hi : indexByte (b :: l) c = if indexByte l c < 0 then -1 else indexByte l c + 1 := by
        by_cases hm : c ∈ l
        · rw [idx_in c l hm, idx_in c (b :: l) (by simp [hm]), if_neg (by omega), List.takeWhile_cons, if_pos (by simpa using h), List.length_cons]; omega
        · rw [idx_out c l hm, idx_out c (b :: l) (by simp [hm, Ne.symm h])]; rfl
      rw [hi, ih]
      unfold ix
      rw [tk_out _ _ _ hc, List.length_cons]
      by_cases d : tk [c] l = l.length
      · rw [if_pos d, if_pos (by omega), if_pos (by omega)]
      · rw [if_neg d, if_neg (by omega), if_neg (by omega)]; omega
end Ln
set_option maxHeartbeats 4000000 in
set_option maxRecDepth 100000 in
theorem iat_short (cs : ByteArray) (hc : Asc cs) (s : ByteArray) (w : World) (h8 : s.size ≤ 8) :
    Calls Tryd.prog 85 #[.string s, .string cs] w fun e w' => e = .returned (.int .i64 (Ln.ix cs.data.toList s.data.toList)) ∧ Gr w w' := by
  have h8z : decide ((8 : Int) < (s.size : Int)) = false := decide_eq_false (by omega)
  have hc2 := hc.two
  have hc8 := hc.few
  have hc0 : ((cs.size : Int) == 0) = false := by rw [beq_eq_false_iff_ne]; omega
  have hc1 : ((cs.size : Int) == 1) = false := by rw [beq_eq_false_iff_ne]; omega
  have hem : cs.toList.isEmpty = false := by rw [Lib.toList_data, isEmpty_size2]; exact decide_eq_false (by omega)
  go_enter Tryd.func85, Tryd.ntmps85
  go_wp2_with (go_at_call 97; refine (Tryd.strings_shouldUseASCIISet _ _).mono ?_; rintro e w' ⟨rfl, hw⟩; rw [hw, h8z])
  go_loopg [9, 10] s.size (fun g _ _ wx => ∃ i : Nat, i + g = s.size ∧ wx.heap[w.heap.size]? = some (.stringIter s i) ∧ Gr w wx ∧ Fd.NoC cs.data.toList s.data.toList i)
  case atStart => exact ⟨0, by omega, World.iter_heap _ _ _, (Gr.refl _).allocO _, fun j b hj => by omega⟩
  case round =>
    obtain ⟨i, hig, hit, hg, hno⟩ := hrel
    have HN := Lib.hid hno
    clear hno
    by_cases hi : i < s.size
    · have hnx := fun ty => Lib.run_next_any_at (P := Tryd.prog) wr w.heap.size s i ty hit hi
      have hit2 := Lib.iterAt_heap wr w.heap.size s i (i + (Utf8.decode s i).2) hit
      have hg2 : Gr w (wr.iterAt w.heap.size s (i + (Utf8.decode s i).2)) := ⟨Lib.below_iterAt hg.below (Nat.le_refl _) _ _⟩
      generalize wr.iterAt w.heap.size s (i + (Utf8.decode s i).2) = wn at hnx hit2 hg2
      have hle := Lib.rune_le s i
      have hw1 := Lib.width_pos s i
      have hw2 : i + (Utf8.decode s i).2 ≤ s.size := by
        have := (Fd.decN_le (s.size - i) (s.get! i).toNat (s.get! (i + 1)).toNat (s.get! (i + 2)).toNat (s.get! (i + 3)).toNat (by omega)).1
        rw [← Lib.decode_at] at this
        omega
      have HS := Lib.hid (fun h => HN.out.step hc.low (s := s) hi h)
      have HT := Lib.hid (fun h => Fd.dec_low s i h)
      have HB := Lib.hid (Fd.get_at s i hi)
      generalize (Utf8.decode s i).1 = rr at *
      generalize (Utf8.decode s i).2 = kk at *
      have cR := irune_any cs hc rr wn hle
      clear hc hc2 hc8
      by_cases c : rr < 128 ∧ rr.toUInt8 ∈ cs.data.toList
      · have cR2 := cR.mono (R' := fun e w' => ∃ v : Int, e = .returned (.int .i64 v) ∧ 0 ≤ v ∧ Gr wn w') (fun e w' ⟨v, h1, h2, h3⟩ => ⟨v, h1, h2.2 c, h3⟩)
        have hyes : Ln.ix cs.data.toList s.data.toList = (i : Int) := by
          have e2 := c.2
          rw [HT.out c.1] at e2
          have e3 := Ln.tk_at cs.data.toList s.data.toList i _ HN.out HB.out (by simpa using e2)
          unfold Ln.ix
          rw [e3, if_neg (by rw [← Lib.size_eq]; omega)]
        have HY := Lib.hid hyes
        clear cR c hyes
        go_wp2_with (go_at_call 96; refine cR2.mono ?_; rintro e w' ⟨v, rfl, hv, hgr⟩)
        go_ret
        exact ⟨by rw [HY.out]; first | done | rfl, hg2.trans hgr⟩
      · have cR2 := cR.mono (R' := fun e w' => ∃ v : Int, e = .returned (.int .i64 v) ∧ v < 0 ∧ Gr wn w') (fun e w' ⟨v, h1, h2, h3⟩ => ⟨v, h1, Int.not_le.1 (fun x => c (h2.1 x)), h3⟩)
        have HC := Lib.hid c
        clear cR c
        go_wp2_with (go_at_call 96; refine cR2.mono ?_; rintro e w' ⟨v, rfl, hv, hgr⟩)
        go_roundg (s.size - (i + kk))
        case measure => omega
        case rel => exact ⟨i + kk, by omega, (hgr.below.block _ (Array.getElem?_eq_some_iff.1 hit2).1).trans hit2, hg2.trans hgr, HS.out HC.out⟩
    · have hnx := fun ty => Lib.run_next_end_at (P := Tryd.prog) wr w.heap.size s i ty hit hi
      obtain rfl : i = s.size := by omega
      have HY : Hid (Ln.ix cs.data.toList s.data.toList = -1) := Lib.hid (by
        unfold Ln.ix
        rw [if_pos (Ln.tk_none _ _ (by rw [← Lib.size_eq]; exact HN.out))])
      go_wp2
      go_ret
      exact ⟨by rw [HY.out]; first | done | rfl, hg⟩
theorem iat_any (cs : ByteArray) (hc : Asc cs) (s : ByteArray) (w : World) (hs : s.size < 4294967281) :
    Calls Tryd.prog 85 #[.string s, .string cs] w fun e w' => e = .returned (.int .i64 (Ln.ix cs.data.toList s.data.toList)) ∧ Gr w w' := by
  by_cases h8 : s.size ≤ 8
  · exact iat_short cs hc s w h8
  · have h2 := hc.two
    have h3 := hc.few
    refine (Tryd.strings_IndexAny_long zero59 s cs w h2 (by omega) hs (by omega) ?_).mono ?_
    · intro j b hb
      exact hc.low b (List.mem_of_getElem? hb)
    · rintro e w' ⟨rfl, rfl⟩
      exact ⟨by rw [← Ln.ix_any], ((Gr.refl _).allocO _).allocO _⟩
set_option maxHeartbeats 1000000 in
theorem iat_one1 (cs : ByteArray) (h1 : 0 < cs.size) (h2 : cs.size = 1) (c : Int) (hc : (cs[0].toNat : Int) = c) (h0 : 0 ≤ c) (h128 : c < 128) (s : ByteArray) (w : World) :
    Calls Tryd.prog 85 #[.string s, .string cs] w fun e w' => e = .returned (.int .i64 (Lib.indexByte s.data.toList c.toNat.toUInt8)) ∧ Gr w w' := by
  have cR := fun w => Tryd.strings_IndexRune_ascii s c w h0 h128
  generalize Lib.indexByte s.data.toList c.toNat.toUInt8 = X at *
  have hem : cs.toList.isEmpty = false := by rw [Lib.toList_data, isEmpty_size2]; exact decide_eq_false (by omega)
  have hs1 : ((cs.size : Int) == 1) = true := by rw [beq_iff_eq]; omega
  clear h2
  go_enter Tryd.func85, Tryd.ntmps85
  go_wp2_with (go_at_call 96; refine (cR _).mono ?_; rintro e w' ⟨rfl, rfl⟩)
  go_ret
  exact ⟨rfl, Gr.refl _⟩
theorem iat_one (s : ByteArray) (w : World) :
    Calls Tryd.prog 85 #[.string s, .string ⟨#[34]⟩] w fun e w' => e = .returned (.int .i64 (Ln.ix [34] s.data.toList)) ∧ Gr w w' := by
  have := iat_one1 ⟨#[34]⟩ (by decide) (by decide) 34 (by decide) (by omega) (by omega) s w
  rw [show ((34 : Int).toNat.toUInt8) = 34 by decide, Ln.ix_byte] at this
  exact this
end Go.Proofs.YtbfngdpdgmgfpaaDoor
namespace Go.Proofs.YtbfngdpdgmgfpaaDoor
open Go.RowKit

theorem RB.setI {w : World} {b : Nat} {s : ByteArray} {i : Nat} (h : RB w b s i) (v : Int) (j : Nat) (hv : v = (j : Int)) : RB (w.setCell ⟨b, 1, none⟩ (.int .i64 v)) b s j := by
  subst hv; exact h.set j
set_option maxHeartbeats 2000000 in
theorem skipTo_any (cs : ByteArray) (cl : List UInt8) (b : Nat) (s : ByteArray) (i : Nat) (w : World) (h : RB w b s i) (hi : i ≤ s.size) (hs : s.size ≤ 400000)
    (cA : ∀ w, Calls Tryd.prog 85 #[.string (s.extract i s.size), .string cs] w fun e w' => e = .returned (.int .i64 (Ln.ix cl (s.data.toList.drop i))) ∧ Gr w w') :
    Calls Tryd.prog 110 #[.pointer (some ⟨b, 0, none⟩), .string cs] w fun e w' => e = .returned (.tuple #[]) ∧ Mv b w w' ∧ RB w' b s (i + Ln.tk cl (s.data.toList.drop i)) := by
  have hbl := h.lt
  have HR := Lib.hid h
  obtain ⟨c0, c1, c2⟩ := h
  have hle := Ln.tk_le cl (s.data.toList.drop i)
  rw [List.length_drop, ← Lib.size_eq] at hle
  by_cases hf : Ln.tk cl (s.data.toList.drop i) = s.size - i
  · have hx : Ln.ix cl (s.data.toList.drop i) = -1 := by unfold Ln.ix; rw [if_pos (by rw [List.length_drop, ← Lib.size_eq]; exact hf)]
    rw [hx] at cA
    rw [hf, show i + (s.size - i) = s.size by omega]
    clear hf hx hle
    go_enter Tryd.func110, Tryd.ntmps110
    go_wp2_with fail
    go_region_held3 (fun w' => w'.cell? ⟨b, 0, none⟩ = some (.string s) ∧ w'.cell? ⟨b, 1, none⟩ = some (.int .i64 (i : Int)))
      (first | exact ⟨c0, c1⟩ | exact ⟨d0, d1⟩)
      (first | (go_at_call 85; refine (cA _).mono ?_; rintro e w1 ⟨rfl, hg1⟩; have hg2 := (Gr.refl w).drew.trans hg1; have hr1 := HR.out.keep hg2; have HR1 := Lib.hid hr1; obtain ⟨d0, d1, d2⟩ := hr1))
    go_wp2
    go_quiet (fail)
    go_wp2
    go_end0
    exact ⟨rfl, (hg2.mv b).drewN nq |>.trans (Mv.set b _ 1 _), (HR1.out.drew nq).setI _ _ (by omega)⟩
  · have hx : Ln.ix cl (s.data.toList.drop i) = (Ln.tk cl (s.data.toList.drop i) : Int) := by unfold Ln.ix; rw [if_neg (by rw [List.length_drop, ← Lib.size_eq]; exact hf)]
    rw [hx] at cA
    clear hf hx
    generalize Ln.tk cl (s.data.toList.drop i) = k at *
    go_enter Tryd.func110, Tryd.ntmps110
    go_wp2_with fail
    go_region_held3 (fun w' => w'.cell? ⟨b, 0, none⟩ = some (.string s) ∧ w'.cell? ⟨b, 1, none⟩ = some (.int .i64 (i : Int)))
      (first | exact ⟨c0, c1⟩ | exact ⟨d0, d1⟩)
      (first | (go_at_call 85; refine (cA _).mono ?_; rintro e w1 ⟨rfl, hg1⟩; have hg2 := (Gr.refl w).drew.trans hg1; have hr1 := HR.out.keep hg2; have HR1 := Lib.hid hr1; obtain ⟨d0, d1, d2⟩ := hr1))
    go_wp2
    go_end0
    exact ⟨rfl, (hg2.mv b).trans (Mv.set b _ 1 _), HR1.out.setI _ _ (by omega)⟩
namespace Ln
open Go.Lib _root_.Go.Proofs.YtbfngdpdgmgfpaaDoor.Es
theorem drop_tw (p : UInt8 → Bool) (l : List UInt8) : l.drop (l.takeWhile p).length = l.dropWhile p := by
  have h := List.takeWhile_append_dropWhile (p := p) (l := l)
  conv => lhs; arg 2; rw [← h]
  rw [List.drop_left]
theorem cs4 (b : UInt8) : ([34, 44, 59, 58] : List UInt8).contains b = qb b := by
  refine byte_ind (P := fun b => ([34, 44, 59, 58] : List UInt8).contains b = qb b) ?_ b
  decide +kernel
theorem tk4 (r : List UInt8) : tk [34, 44, 59, 58] r = (r.takeWhile fun b => !qb b).length := by
  unfold tk
  rw [show (fun b => !([34, 44, 59, 58] : List UInt8).contains b) = fun b => !qb b from funext fun b => by rw [cs4]]
theorem cs1 (b : UInt8) : (!([34] : List UInt8).contains b) = (b != 34) := by
  refine byte_ind (P := fun b => (!([34] : List UInt8).contains b) = (b != 34)) ?_ b
  decide +kernel
theorem tk1 (r : List UInt8) : tk [34] r = (r.takeWhile (· != 34)).length := by
  unfold tk
  rw [show (fun b => !([34] : List UInt8).contains b) = (· != 34) from funext fun b => cs1 b]
theorem sv_in_yes {r : List UInt8} (h : r.head? = some 34) (hm : 34 ∈ r.tail) : (r.tail.drop (tk [34] r.tail)).head? = some 34 ∧ ∃ x, sv r = some x ∧ x.1.length = tk [34] r.tail + 2 := by
  have e := tw_mem 34 r.tail hm
  rw [tk1, drop_tw]
  refine ⟨?_, _, by unfold sv; rw [if_pos h, if_pos hm], by simp⟩
  have h2 := List.takeWhile_append_dropWhile (p := (· != (34 : UInt8))) (l := r.tail)
  have e2 := List.append_cancel_left (h2.trans e)
  rw [e2]; rfl
theorem sv_in_no {r : List UInt8} (h : r.head? = some 34) (hm : 34 ∉ r.tail) : (r.tail.drop (tk [34] r.tail)).head? ≠ some 34 ∧ sv r = none := by
  refine ⟨fun e => hm ?_, by unfold sv; rw [if_pos h, if_neg hm]⟩
  exact List.mem_of_mem_drop (List.mem_of_head? e)
theorem sv_out_yes {r : List UInt8} (h : r.head? ≠ some 34) (c : UInt8) (hc : (r.drop (tk [34, 44, 59, 58] r)).head? = some c) (h34 : c ≠ 34) : ∃ x, sv r = some x ∧ x.1.length = tk [34, 44, 59, 58] r := by
  rw [tk4] at hc ⊢
  rw [drop_tw] at hc
  refine ⟨_, by unfold sv; rw [if_neg h, if_neg (by rw [hc]; simp [h34])], rfl⟩
theorem sv_out_no {r : List UInt8} (h : r.head? ≠ some 34) (hc : (r.drop (tk [34, 44, 59, 58] r)).head? = none ∨ (r.drop (tk [34, 44, 59, 58] r)).head? = some 34) : sv r = none := by
  rw [tk4, drop_tw] at hc
  unfold sv; rw [if_neg h, if_pos hc]
end Ln
theorem asc4b : Asc ⟨#[34, 44, 59, 58]⟩ := ⟨by decide, by decide, by decide⟩
theorem iat_from (cs : ByteArray) (hc : Asc cs) (s : ByteArray) (i : Nat) (hs : s.size ≤ 400000) (w : World) :
    Calls Tryd.prog 85 #[.string (s.extract i s.size), .string cs] w fun e w' => e = .returned (.int .i64 (Ln.ix cs.data.toList (s.data.toList.drop i))) ∧ Gr w w' := by
  have h := iat_any cs hc (s.extract i s.size) w (by rw [Lib.size_eq, ext_data, List.length_drop, ← Lib.size_eq]; omega)
  rw [ext_data] at h
  exact h
theorem iat_one_from (s : ByteArray) (i : Nat) (w : World) :
    Calls Tryd.prog 85 #[.string (s.extract i s.size), .string ⟨#[34]⟩] w fun e w' => e = .returned (.int .i64 (Ln.ix [34] (s.data.toList.drop i))) ∧ Gr w w' := by
  have h := iat_one (s.extract i s.size) w
  rw [ext_data] at h
  exact h
theorem tk_size (cs : List UInt8) (s : ByteArray) (i : Nat) (hi : i ≤ s.size) : i + Ln.tk cs (s.data.toList.drop i) ≤ s.size := by
  have := Ln.tk_le cs (s.data.toList.drop i)
  rw [List.length_drop, ← Lib.size_eq] at this; omega
theorem skipTo4 (b : Nat) (s : ByteArray) (i : Nat) (w : World) (h : RB w b s i) (hi : i ≤ s.size) (hs : s.size ≤ 400000) :
    Calls Tryd.prog 110 #[.pointer (some ⟨b, 0, none⟩), .string ⟨#[34, 44, 59, 58]⟩] w fun e w' => e = .returned (.tuple #[]) ∧ Mv b w w' ∧ RB w' b s (i + Ln.tk [34, 44, 59, 58] (s.data.toList.drop i)) :=
  skipTo_any ⟨#[34, 44, 59, 58]⟩ [34, 44, 59, 58] b s i w h hi hs (fun w => iat_from ⟨#[34, 44, 59, 58]⟩ asc4b s i hs w)
theorem skipTo1 (b : Nat) (s : ByteArray) (i : Nat) (w : World) (h : RB w b s i) (hi : i ≤ s.size) (hs : s.size ≤ 400000) :
    Calls Tryd.prog 110 #[.pointer (some ⟨b, 0, none⟩), .string ⟨#[34]⟩] w fun e w' => e = .returned (.tuple #[]) ∧ Mv b w w' ∧ RB w' b s (i + Ln.tk [34] (s.data.toList.drop i)) :=
  skipTo_any ⟨#[34]⟩ [34] b s i w h hi hs (fun w => iat_one_from s i w)
set_option maxHeartbeats 2000000 in
theorem skipValue_any (b : Nat) (s : ByteArray) (i : Nat) (w : World) (h : RB w b s i) (hi : i ≤ s.size) (hs : s.size ≤ 400000) :
    Calls Tryd.prog 103 #[.pointer (some ⟨b, 0, none⟩)] w fun e w' => e = .returned (.bool (Ln.sv (s.data.toList.drop i)).isSome) ∧ Mv b w w' ∧ ∃ j, RB w' b s j ∧ i ≤ j ∧ j ≤ s.size ∧ ∀ x, Ln.sv (s.data.toList.drop i) = some x → j = i + x.1.length := by
  by_cases h34 : (s.data.toList.drop i).head? = some 34
  · have hlt := hd_lt h34
    have cT := take_t b s i 34 34 rfl w h hs h34
    have cS := fun w1 (h1 : RB w1 b s (i + 1)) => skipTo1 b s (i + 1) w1 h1 (by omega) hs
    have hkz := tk_size [34] s (i + 1) (by omega)
    have etl : (s.data.toList.drop i).tail = s.data.toList.drop (i + 1) := by rw [List.tail_drop]
    by_cases hm : 34 ∈ (s.data.toList.drop i).tail
    · obtain ⟨e1, x, e2, e3⟩ := Ln.sv_in_yes h34 hm
      rw [etl] at e1 e3
      rw [List.drop_drop] at e1
      have cT2 := fun w1 (h1 : RB w1 b s (i + 1 + Ln.tk [34] (s.data.toList.drop (i + 1)))) => take_t b s _ 34 34 rfl w1 h1 hs e1
      have hl2 := hd_lt e1
      rw [e2]
      have HE := Lib.hid e3
      generalize Ln.tk [34] (s.data.toList.drop (i + 1)) = k at *
      clear e1 e2 e3 hm etl h34
      go_enter Tryd.func103, Tryd.ntmps103
      go_wp2_with fail
      refine cT.mono ?_
      rintro e w1 ⟨rfl, hm1, hr1⟩
      go_wp2_with fail
      refine (cS w1 hr1).mono ?_
      rintro e w2 ⟨rfl, hm2, hr2⟩
      go_wp2_with fail
      refine (cT2 w2 hr2).mono ?_
      rintro e w3 ⟨rfl, hm3, hr3⟩
      go_wp2
      go_ret
      exact ⟨rfl, (hm1.trans hm2).trans hm3, _, hr3, by omega, by omega, fun y hy => by injection hy with hy; subst hy; rw [HE.out]; omega⟩
    · obtain ⟨e1, e2⟩ := Ln.sv_in_no h34 hm
      rw [etl, List.drop_drop] at e1
      have cT2 := fun w1 (h1 : RB w1 b s (i + 1 + Ln.tk [34] (s.data.toList.drop (i + 1)))) => take_f b s _ 34 34 rfl w1 h1 hkz e1
      rw [e2]
      generalize Ln.tk [34] (s.data.toList.drop (i + 1)) = k at *
      clear e1 e2 hm etl h34
      go_enter Tryd.func103, Tryd.ntmps103
      go_wp2_with fail
      refine cT.mono ?_
      rintro e w1 ⟨rfl, hm1, hr1⟩
      go_wp2_with fail
      refine (cS w1 hr1).mono ?_
      rintro e w2 ⟨rfl, hm2, hr2⟩
      go_wp2_with fail
      refine (cT2 w2 hr2).mono ?_
      rintro e w3 ⟨rfl, hg3⟩
      go_wp2
      go_ret
      exact ⟨rfl, (hm1.trans hm2).trans (hg3.mv b), _, hr2.keep hg3, by omega, by omega, fun y hy => by cases hy⟩
  · have cT := take_f b s i 34 34 rfl w h hi h34
    have cS := fun w1 (h1 : RB w1 b s i) => skipTo4 b s i w1 h1 hi hs
    have hkz := tk_size [34, 44, 59, 58] s i hi
    by_cases hl : i + Ln.tk [34, 44, 59, 58] (s.data.toList.drop i) < s.size
    · have hh := hd_at s _ hl
      rw [← List.drop_drop] at hh
      cases h34b : ((s[i + Ln.tk [34, 44, 59, 58] (s.data.toList.drop i)].toNat : Int) == 34)
      · obtain ⟨x, e2, e3⟩ := Ln.sv_out_yes h34 _ hh (by_f 34 h34b)
        rw [e2]
        have HE : Hid (i + x.1.length = i + Ln.tk [34, 44, 59, 58] (s.data.toList.drop i)) := Lib.hid (by rw [e3])
        have hij : i ≤ i + Ln.tk [34, 44, 59, 58] (s.data.toList.drop i) := by omega
        clear e2 e3 hh h34
        generalize i + Ln.tk [34, 44, 59, 58] (s.data.toList.drop i) = j at *
        go_enter Tryd.func103, Tryd.ntmps103
        go_wp2_with fail
        refine cT.mono ?_
        rintro e w1 ⟨rfl, hg1⟩
        go_wp2_with fail
        refine (cS w1 (h.keep hg1)).mono ?_
        rintro e w2 ⟨rfl, hm2, hr2⟩
        have HR := Lib.hid hr2
        obtain ⟨c0, c1, c2⟩ := hr2
        go_wp2_with fail
        go_quiet (fail)
        go_wp2
        go_ret
        exact ⟨ret_bool (by show (!((s[j].toNat : Int) == 34)) = _; rw [h34b]; rfl), ((hg1.mv b).trans hm2).drewN _, _, HR.out.drew _, by omega, by omega, fun y hy => by injection hy with hy; subst hy; exact HE.out.symm⟩
      · have e2 := Ln.sv_out_no h34 (.inr (by rw [hh, by_t 34 h34b]))
        rw [e2]
        have hij : i ≤ i + Ln.tk [34, 44, 59, 58] (s.data.toList.drop i) := by omega
        clear e2 hh h34
        generalize i + Ln.tk [34, 44, 59, 58] (s.data.toList.drop i) = j at *
        go_enter Tryd.func103, Tryd.ntmps103
        go_wp2_with fail
        refine cT.mono ?_
        rintro e w1 ⟨rfl, hg1⟩
        go_wp2_with fail
        refine (cS w1 (h.keep hg1)).mono ?_
        rintro e w2 ⟨rfl, hm2, hr2⟩
        have HR := Lib.hid hr2
        obtain ⟨c0, c1, c2⟩ := hr2
        go_wp2_with fail
        go_quiet (fail)
        go_wp2
        go_ret
        exact ⟨ret_bool (by show (!((s[j].toNat : Int) == 34)) = _; rw [h34b]; rfl), ((hg1.mv b).trans hm2).drewN _, _, HR.out.drew _, by omega, by omega, fun y hy => by cases hy⟩
    · have e2 := Ln.sv_out_no h34 (.inl (by rw [List.drop_drop, drop_end s _ (by omega)]; rfl))
      rw [e2]
      have hij : i ≤ i + Ln.tk [34, 44, 59, 58] (s.data.toList.drop i) := by omega
      clear e2 h34
      generalize i + Ln.tk [34, 44, 59, 58] (s.data.toList.drop i) = j at *
      go_enter Tryd.func103, Tryd.ntmps103
      go_wp2_with fail
      refine cT.mono ?_
      rintro e w1 ⟨rfl, hg1⟩
      go_wp2_with fail
      refine (cS w1 (h.keep hg1)).mono ?_
      rintro e w2 ⟨rfl, hm2, hr2⟩
      have HR := Lib.hid hr2
      obtain ⟨c0, c1, c2⟩ := hr2
      have hli : ¬ (j : Int) < (s.size : Int) := by omega
      have hld : decide ((j : Int) < (s.size : Int)) = false := decide_eq_false hli
      go_wp2_with fail
      go_quiet (fail)
      go_wp2
      go_ret
      exact ⟨rfl, ((hg1.mv b).trans hm2).drewN _, _, HR.out.drew _, by omega, by omega, fun y hy => by cases hy⟩
end Go.Proofs.YtbfngdpdgmgfpaaDoor
namespace Go.Proofs.YtbfngdpdgmgfpaaDoor
open Go.RowKit

/- the reader's box lies behind the tables of utf8 -/
def Hi (b : Nat) : Prop := 0 < b ∧ 1 < b
theorem Tab.mv {w w' : World} {b : Nat} (h : Tab w) (hg : Mv b w w') (hb : Hi b) : Tab w' := by
  have hl := h.lt
  exact ⟨fun c hc => (World.grownBy.cell_far hg ⟨0, c, none⟩ hl.1 (by simp; have := hb.1; omega)).trans (h.1 c hc),
    fun i hi => ⟨(World.grownBy.cell_far hg ⟨1, 2 * i, none⟩ hl.2 (by simp; have := hb.2; omega)).trans (h.2 i hi).1, (World.grownBy.cell_far hg ⟨1, 2 * i + 1, none⟩ hl.2 (by simp; have := hb.2; omega)).trans (h.2 i hi).2⟩⟩
theorem ext_mid (s : ByteArray) (i j : Nat) : (s.extract i j).data.toList = (s.data.toList.drop i).take (j - i) := by
  simp only [ByteArray.data_extract, Array.toList_extract, List.extract_eq_take_drop]
theorem raw_ext (s : ByteArray) (i : Nat) (x : List UInt8 × List UInt8) (h : Ln.sv (s.data.toList.drop i) = some x) : (s.extract i (i + x.1.length)).data.toList = x.1 ∧ i + x.1.length ≤ s.size ∧ s.data.toList.drop (i + x.1.length) = x.2 := by
  have e := Ln.sv_app (raw := x.1) (rest := x.2) h
  have hl := congrArg List.length e
  rw [List.length_drop, List.length_append, ← Lib.size_eq] at hl
  refine ⟨by rw [ext_mid, show i + x.1.length - i = x.1.length by omega, e, List.take_left], ?_, by rw [← List.drop_drop, e, List.drop_left]⟩
  rcases Nat.eq_zero_or_pos (s.size - i) with h0 | h0
  · rcases Nat.lt_or_ge s.size i with h1 | h1
    · have hn := drop_end s i (by omega)
      rw [hn] at h
      cases h
    · omega
  · omega
set_option maxHeartbeats 2000000 in
theorem rvalue_yes (b : Nat) (s : ByteArray) (i : Nat) (w : World) (h : RB w b s i) (ht : Tab w) (hb : Hi b) (hi : i ≤ s.size) (hs : s.size ≤ 400000) (x : List UInt8 × List UInt8) (hx : Ln.sv (s.data.toList.drop i) = some x) (hE : Es.vlE x.1 = 0) :
    Calls Tryd.prog 94 #[.pointer (some ⟨b, 0, none⟩)] w fun e w' => e = .returned (.tuple #[.string ⟨(Es.vlT x.1).toArray⟩, .int .i64 0]) ∧ Mv b w w' ∧ RB w' b s (i + x.1.length) := by
  obtain ⟨r1, r2, r3⟩ := raw_ext s i x hx
  have cS := (skipValue_any b s i w h hi hs).mono (R' := fun e w' => e = .returned (.bool true) ∧ Mv b w w' ∧ RB w' b s (i + x.1.length)) (fun e w' ⟨h1, h2, j, h3, _, _, h6⟩ => ⟨by rw [h1, hx]; rfl, h2, h6 x hx ▸ h3⟩)
  have cV := fun w1 (t1 : Tab w1) => value_any (s.extract i (i + x.1.length)) w1 t1 (by rw [Lib.size_eq, r1]; omega)
  rw [r1, hE] at cV
  have hij : i ≤ i + x.1.length := by omega
  generalize i + x.1.length = j at *
  generalize (ByteArray.mk (Es.vlT x.1).toArray) = T at *
  clear r1 r3 hx hE
  obtain ⟨c0, c1, c2⟩ := h
  go_enter Tryd.func94, Tryd.ntmps94
  go_wp2_with fail
  refine cS.mono ?_
  rintro e w1 ⟨rfl, hm1, hr1⟩
  have ht1 := ht.mv hm1 hb
  have HR := Lib.hid hr1
  obtain ⟨d0, d1, d2⟩ := hr1
  go_wp2_with fail
  go_region_held3 (fun w' => w'.cell? ⟨b, 0, none⟩ = some (.string s) ∧ w'.cell? ⟨b, 1, none⟩ = some (.int .i64 (j : Int)))
    (first | exact ⟨d0, d1⟩ | exact ⟨f0, f1⟩)
    (first | (go_at_call 104; refine (cV _ (by exact ht1)).mono ?_; rintro e w2 ⟨rfl, hg2⟩; have hg3 := (Gr.refl w1).drew.trans hg2; have hr3 := HR.out.keep hg3; have HR3 := Lib.hid hr3; obtain ⟨f0, f1, f2⟩ := hr3))
  go_wp2
  go_ret2
  exact ⟨rfl, hm1.trans (hg3.mv b), HR3.out⟩
set_option maxHeartbeats 2000000 in
theorem rvalue_bad (b : Nat) (s : ByteArray) (i : Nat) (w : World) (h : RB w b s i) (ht : Tab w) (hb : Hi b) (hi : i ≤ s.size) (hs : s.size ≤ 400000) (x : List UInt8 × List UInt8) (hx : Ln.sv (s.data.toList.drop i) = some x) (hE : Es.vlE x.1 ≠ 0) :
    Calls Tryd.prog 94 #[.pointer (some ⟨b, 0, none⟩)] w fun e w' => e = .returned (.tuple #[.string ⟨#[]⟩, .int .i64 7]) ∧ Mv b w w' ∧ RB w' b s i := by
  obtain ⟨r1, r2, r3⟩ := raw_ext s i x hx
  have cS := (skipValue_any b s i w h hi hs).mono (R' := fun e w' => e = .returned (.bool true) ∧ Mv b w w' ∧ RB w' b s (i + x.1.length)) (fun e w' ⟨h1, h2, j, h3, _, _, h6⟩ => ⟨by rw [h1, hx]; rfl, h2, h6 x hx ▸ h3⟩)
  have cV := fun w1 (t1 : Tab w1) => value_any (s.extract i (i + x.1.length)) w1 t1 (by rw [Lib.size_eq, r1]; omega)
  rw [r1] at cV
  have hE2 : ((Es.vlE x.1 : Int) != 0) = true := by simpa using hE
  have hij : i ≤ i + x.1.length := by omega
  generalize i + x.1.length = j at *
  generalize (ByteArray.mk (Es.vlT x.1).toArray) = T at *
  clear r1 r3 hx hE
  generalize Es.vlE x.1 = E at *
  obtain ⟨c0, c1, c2⟩ := h
  go_enter Tryd.func94, Tryd.ntmps94
  go_wp2_with fail
  refine cS.mono ?_
  rintro e w1 ⟨rfl, hm1, hr1⟩
  have ht1 := ht.mv hm1 hb
  have HR := Lib.hid hr1
  obtain ⟨d0, d1, d2⟩ := hr1
  go_wp2_with fail
  go_region_held3 (fun w' => w'.cell? ⟨b, 0, none⟩ = some (.string s) ∧ w'.cell? ⟨b, 1, none⟩ = some (.int .i64 (j : Int)))
    (first | exact ⟨d0, d1⟩ | exact ⟨f0, f1⟩)
    (first | (go_at_call 104; refine (cV _ (by exact ht1)).mono ?_; rintro e w2 ⟨rfl, hg2⟩; have hg3 := (Gr.refl w1).drew.trans hg2; have hr3 := HR.out.keep hg3; have HR3 := Lib.hid hr3; obtain ⟨f0, f1, f2⟩ := hr3))
  go_wp2
  go_ret2
  exact ⟨rfl, (hm1.trans (hg3.mv b)).trans (Mv.set b _ 1 _), HR3.out.set i⟩
set_option maxHeartbeats 2000000 in
theorem rvalue_none (b : Nat) (s : ByteArray) (i : Nat) (w : World) (h : RB w b s i) (hi : i ≤ s.size) (hs : s.size ≤ 400000) (hx : Ln.sv (s.data.toList.drop i) = none) :
    Calls Tryd.prog 94 #[.pointer (some ⟨b, 0, none⟩)] w fun e w' => e = .returned (.tuple #[.string ⟨#[]⟩, .int .i64 5]) ∧ Mv b w w' ∧ ∃ j, RB w' b s j := by
  have cS := (skipValue_any b s i w h hi hs).mono (R' := fun e w' => e = .returned (.bool false) ∧ Mv b w w' ∧ ∃ j, RB w' b s j) (fun e w' ⟨h1, h2, j, h3, _⟩ => ⟨by rw [h1, hx]; rfl, h2, j, h3⟩)
  clear hx
  obtain ⟨c0, c1, c2⟩ := h
  go_enter Tryd.func94, Tryd.ntmps94
  go_wp2_with fail
  refine cS.mono ?_
  rintro e w1 ⟨rfl, hm1, j, hr1⟩
  go_wp2
  go_ret2
  exact ⟨rfl, hm1, j, hr1⟩
end Go.Proofs.YtbfngdpdgmgfpaaDoor
namespace Go.Proofs.YtbfngdpdgmgfpaaDoor
open Go.RowKit

/- a box of two cells that may be written -/
structure Bx2 (w : World) (b : Nat) (x y : Value) : Prop where
  c0 : w.cell? ⟨b, 0, none⟩ = some x
  c1 : w.cell? ⟨b, 1, none⟩ = some y
  f0 : w.frozen? ⟨b, 0, none⟩ = false
  f1 : w.frozen? ⟨b, 1, none⟩ = false
theorem Bx2.lt {w : World} {b : Nat} {x y : Value} (h : Bx2 w b x y) : b < w.heap.size := World.block_lt_of_cell? _ _ h.c0
theorem Bx2.new (w : World) (x y : Value) (t : TypeId) : Bx2 (w.alloc (.cells #[x, y] t)) w.heap.size x y :=
  ⟨by simp, by simp, by rw [frozen?_alloc_cells]; simp [World.frozen?], by rw [frozen?_alloc_cells]; simp [World.frozen?]⟩
theorem Bx2.block {w w' : World} {b : Nat} {x y : Value} (h : Bx2 w b x y) (hb : w'.heap[b]? = w.heap[b]?) : Bx2 w' b x y :=
  ⟨(World.cell?_of_block (w := w) hb).trans h.c0, (World.cell?_of_block (w := w) hb).trans h.c1, (World.frozen?_of_block (w := w) hb).trans h.f0, (World.frozen?_of_block (w := w) hb).trans h.f1⟩
theorem Bx2.gr {w w' : World} {b : Nat} {x y : Value} (h : Bx2 w b x y) (hg : Gr w w') : Bx2 w' b x y := h.block (hg.below.block _ h.lt)
theorem Bx2.mv {w w' : World} {b k : Nat} {x y : Value} (h : Bx2 w b x y) (hg : Mv k w w') (hk : b ≠ k) : Bx2 w' b x y := h.block (hg.block _ h.lt (fun e => hk (by injection e)))
theorem Bx2.below {w w' : World} {b B : Nat} {x y : Value} (h : Bx2 w b x y) (hg : Below B w w') (hb : b < B) : Bx2 w' b x y := h.block (hg.block _ hb)
theorem OwnV.mv {w w' : World} {B k : Nat} {e : TypeId} {A : Option Addr} {n c : Nat} {xs : List Value} (h : OwnV w B e A n c xs) (hg : Mv k w w') (hk : k < B) : OwnV w' B e A n c xs := by
  refine World.ownsRow.kept h hg ?_
  rcases h.2 with ⟨hn, _⟩ | ⟨g, cap, cur, hv, hb, _⟩
  · left; injection hn with h1; subst h1; rfl
  · right
    rw [hv]
    intro e1
    have : g = k := by simpa [Value.ownBlock] using e1
    omega
theorem Strs.fresh {w : World} {B : Nat} {A : Option Addr} {n c : Nat} {ls : List (List UInt8)} (h : OwnV w B 9 A n c (sc ls)) : 0 < n → ∀ ad, A = some ad → B ≤ ad.block := by
  intro hn ad ha
  obtain ⟨g, rfl, hb, _⟩ := h.cells hn
  injection ha with ha
  subst ha; exact hb
/- append(out, text), the text laid in a new block first -/
theorem ap_str {ops : Array Oper} {rest : List Oper} {o : Oper} {a : Act} {Q : Exit → Act → World → Prop} (w : World) (hgd : o.guard = none) (sl x : Operand)
    (ho : o.op = .call { callee := .builtin .append, args := #[sl, x], argTypes := #[60, 60] })
    (B : Nat) (A : Option Addr) (n c : Nat) (ls : List (List UInt8)) (hs : a.eval sl = .slice A n c) (hown : OwnV w B 9 A n c (sc ls)) (t : List UInt8) (hx : a.eval x = .slice (some ⟨w.heap.size, 0, none⟩) 1 1)
    (hlen : n + 1 ≤ 1000000) (hB : B ≤ w.heap.size)
    (h : ∀ A' c' w', OwnV w' B 9 A' (n + 1) c' (sc (ls ++ [t])) → Below B w w' → wpList Tryd.prog ops Q rest (a.put o.dst (.slice A' (n + 1) c')) w') : wpList Tryd.prog ops Q (o :: rest) a (w.alloc (.cells #[.string ⟨t.toArray⟩] 9)) := by
  refine ap_lit w hgd sl x 60 9 (.string ⟨#[]⟩) 16 Tryd.underlying60 info_str rfl (by omega) ho B A n c (sc ls) [.string ⟨t.toArray⟩] hs hown 1 1 hx rfl (by simp [Value.oneCell']) hlen hB ?_
  intro A' c' w' h1 h2
  refine h A' c' w' ?_ h2
  rw [sc_append]
  exact h1
namespace Ln
theorem pa_noname {r : List UInt8} {before : List (List UInt8)} (h : (nm 60 r).1 = []) : pa r before = none := by unfold pa; rw [if_pos h]
theorem pa_noeq {r : List UInt8} {before : List (List UInt8)} (h : (nm 60 r).2.head? ≠ some 61) : pa r before = none := by
  unfold pa; split
  · rfl
  · rfl
theorem pa_many {r : List UInt8} {before : List (List UInt8)} (h : before.length = 60 ∨ (nm 60 r).1 ∈ before) : pa r before = none := by
  unfold pa; split
  · rfl
  · split
    · rfl
    · rfl
theorem pa_vals {r : List UInt8} {before : List (List UInt8)} (h1 : (nm 60 r).1 ≠ []) (h2 : (nm 60 r).2.head? = some 61) (h3 : before.length ≠ 60) (h4 : (nm 60 r).1 ∉ before) :
    pa r before = (vs (nm 60 r).2.tail []).map fun x => (((nm 60 r).1, x.1), x.2) := by
  unfold pa; rw [if_neg h1, if_neg (by simp [h2]), if_neg (by simp [h3, h4])]
end Ln
/- what param leaves behind: a parameter, or an error -/
def PaPost (b : Nat) (s : ByteArray) (i : Nat) (names : List (List UInt8)) (w : World) (e : Ending) (w' : World) : Prop :=
  (∃ p rest A n c j, Ln.pa (s.data.toList.drop i) names = some (p, rest) ∧ e = .returned (.tuple #[.agg #[.string ⟨p.1.toArray⟩, .slice A n c], .int .i64 0]) ∧ Mv b w w' ∧ RB w' b s j ∧ j ≤ s.size ∧ s.data.toList.drop j = rest ∧ Strs w' w'.heap.size A n p.2 ∧ (0 < n → ∀ ad, A = some ad → w.heap.size ≤ ad.block)) ∨
  (Ln.pa (s.data.toList.drop i) names = none ∧ ∃ E j, e = .returned (.tuple #[.agg #[.string ⟨#[]⟩, .slice none 0 0], .int .i64 E]) ∧ (E != 0) = true ∧ Mv b w w' ∧ RB w' b s j)
/- what name leaves behind -/
def NmPost (b : Nat) (s : ByteArray) (i : Nat) (N : List UInt8 × List UInt8) (B : Bool) (w : World) (e : Ending) (w' : World) : Prop :=
  e = .returned (.tuple #[.string ⟨N.1.toArray⟩, .bool B]) ∧ Mv b w w' ∧ ∃ j, RB w' b s j ∧ i ≤ j ∧ j ≤ s.size ∧ s.data.toList.drop j = N.2
theorem name_yes (b : Nat) (s : ByteArray) (i : Nat) (w : World) (h : RB w b s i) (hi : i ≤ s.size) (hs : s.size ≤ 400000) (hn : (Ln.nm 60 (s.data.toList.drop i)).1 ≠ []) :
    Calls Tryd.prog 80 #[.pointer (some ⟨b, 0, none⟩)] w (NmPost b s i (Ln.nm 60 (s.data.toList.drop i)) true w) := by
  have := name_any b s i w h hi hs
  rw [decide_eq_true (List.length_pos_iff.2 hn)] at this
  exact this
theorem name_no (b : Nat) (s : ByteArray) (i : Nat) (w : World) (h : RB w b s i) (hi : i ≤ s.size) (hs : s.size ≤ 400000) (hn : (Ln.nm 60 (s.data.toList.drop i)).1 = []) :
    Calls Tryd.prog 80 #[.pointer (some ⟨b, 0, none⟩)] w (NmPost b s i (Ln.nm 60 (s.data.toList.drop i)) false w) := by
  have := name_any b s i w h hi hs
  rw [decide_eq_false (by rw [hn]; simp)] at this
  exact this
theorem pa_err {b : Nat} {s : ByteArray} {i : Nat} {names : List (List UInt8)} {w w' : World} (h : Ln.pa (s.data.toList.drop i) names = none) (E : Int) (hE : (E != 0) = true) (hm : Mv b w w') {j : Nat} (hr : RB w' b s j) :
    PaPost b s i names w (.returned (.tuple #[.agg #[.string ⟨#[]⟩, .slice none 0 0], .int .i64 E])) w' := .inr ⟨h, E, j, rfl, hE, hm, hr⟩
theorem Bx2.set2 {w : World} {b : Nat} {x y : Value} (h : Bx2 w b x y) (u v : Value) :
    ((w.setCell ⟨b, 0, none⟩ u).setCell ⟨b, 1, none⟩ v).cell? ⟨b, 0, none⟩ = some u ∧ ((w.setCell ⟨b, 0, none⟩ u).setCell ⟨b, 1, none⟩ v).cell? ⟨b, 1, none⟩ = some v := by
  refine ⟨?_, ?_⟩
  · rw [World.cell?_setCell_other (h := by simp)]; exact World.cell?_setCell_same _ _ _ h.c0
  · refine World.cell?_setCell_same _ _ _ (u := y) ?_; rw [World.cell?_setCell_other (h := by simp)]; exact h.c1
theorem below_set2 {w : World} {b B : Nat} (hb : B ≤ b) (u v : Value) : Below B w ((w.setCell ⟨b, 0, none⟩ u).setCell ⟨b, 1, none⟩ v) := ((Below.refl B w).setCell (p := ⟨b, 0, none⟩) hb u).setCell (p := ⟨b, 1, none⟩) hb v
theorem own_set2 {w : World} {b B : Nat} {e : TypeId} {A : Option Addr} {n c : Nat} {xs : List Value} (h : OwnV w B e A n c xs) (hb : b < B) (u v : Value) : OwnV ((w.setCell ⟨b, 0, none⟩ u).setCell ⟨b, 1, none⟩ v) B e A n c xs :=
  ownsRow_setCell_below (ownsRow_setCell_below h (a := ⟨b, 0, none⟩) hb u) (a := ⟨b, 1, none⟩) hb v
theorem Bx2.box {w : World} {b k : Nat} {x y : Value} (h : Bx2 w b x y) (hk : b ≠ k) (v : Value) : Bx2 (w.setCell ⟨k, 1, none⟩ v) b x y := h.mv (Mv.set k w 1 v) hk
set_option maxHeartbeats 4000000 in
set_option maxRecDepth 100000 in
theorem param_noname (b : Nat) (s : ByteArray) (i : Nat) (A0 : Option Addr) (n0 c0 : Nat) (names : List (List UInt8)) (w : World) (h : RB w b s i) (hi : i ≤ s.size) (hs : s.size ≤ 400000)
    (hx : (Ln.nm 60 (s.data.toList.drop i)).1 = []) :
    Calls Tryd.prog 82 #[.pointer (some ⟨b, 0, none⟩), .slice A0 n0 c0] w (PaPost b s i names w) := by
  have HP := Lib.hid (Ln.pa_noname (before := names) hx)
  have hbl := h.lt
  have hg0 : Gr w (w.alloc (.cells #[.string ⟨#[]⟩, .slice none 0 0] 79)) := (Gr.refl w).allocO _
  have hr0 := h.keep hg0
  have cN := name_no b s i _ hr0 hi hs hx
  have hx4 := Bx2.new w (.string ⟨#[]⟩) (.slice none 0 0) 79
  obtain ⟨c1, c2, c3⟩ := hr0
  clear hx
  generalize Ln.nm 60 (s.data.toList.drop i) = N at *
  go_enter Tryd.func82, Tryd.ntmps82
  go_wp2_with fail
  refine cN.mono ?_
  rintro e w1 ⟨rfl, hm1, j, hr1, hij, hj, hd⟩
  have hx1 := hx4.mv hm1 (by omega)
  have hm2 := (hg0.mv b).trans hm1
  clear c1 c2 c3 hx4
  have HX := Lib.hid hx1
  obtain ⟨x0, x1, f0, f1⟩ := hx1
  go_wp2
  obtain ⟨y0, y1⟩ := HX.out.set2 (.string ⟨#[]⟩) (.slice none 0 0)
  have hbw := below_set2 (w := w1) (Nat.le_refl w.heap.size) (.string ⟨#[]⟩) (.slice none 0 0)
  generalize World.setCell _ _ _ = W at *
  exact bodyPost_ret (v := .tuple #[.agg #[.string ⟨#[]⟩, .slice none 0 0], .int .i64 5]) (by simp [results, Tryd.results82, go_sem, y0, y1]) rfl (pa_err HP.out 5 rfl (hm2.below hbw) (hr1.below hbw hbl))
set_option maxHeartbeats 4000000 in
set_option maxRecDepth 100000 in
theorem param_noeq (b : Nat) (s : ByteArray) (i : Nat) (A0 : Option Addr) (n0 c0 : Nat) (names : List (List UInt8)) (w : World) (h : RB w b s i) (hi : i ≤ s.size) (hs : s.size ≤ 400000)
    (hn : (Ln.nm 60 (s.data.toList.drop i)).1 ≠ []) (hx : (Ln.nm 60 (s.data.toList.drop i)).2.head? ≠ some 61) :
    Calls Tryd.prog 82 #[.pointer (some ⟨b, 0, none⟩), .slice A0 n0 c0] w (PaPost b s i names w) := by
  have HP := Lib.hid (Ln.pa_noeq (before := names) hx)
  have hbl := h.lt
  have hg0 : Gr w (w.alloc (.cells #[.string ⟨#[]⟩, .slice none 0 0] 79)) := (Gr.refl w).allocO _
  have hr0 := h.keep hg0
  have cN := name_yes b s i _ hr0 hi hs hn
  have hx4 := Bx2.new w (.string ⟨#[]⟩) (.slice none 0 0) 79
  obtain ⟨c1, c2, c3⟩ := hr0
  have HX0 := Lib.hid hx
  clear hx hn
  generalize Ln.nm 60 (s.data.toList.drop i) = N at *
  go_enter Tryd.func82, Tryd.ntmps82
  go_wp2_with fail
  refine cN.mono ?_
  rintro e w1 ⟨rfl, hm1, j, hr1, hij, hj, hd⟩
  have cT := take_f b s j 61 61 rfl w1 hr1 hj (by rw [hd]; exact HX0.out)
  have hx1 := hx4.mv hm1 (by omega)
  have hm2 := (hg0.mv b).trans hm1
  clear c1 c2 c3 hx4 hd
  go_wp2_with fail
  refine cT.mono ?_
  rintro e w2 ⟨rfl, hg2⟩
  have hx2 := hx1.gr hg2
  have hr2 := hr1.keep hg2
  have hm3 := hm2.trans (hg2.mv b)
  clear hx1 hr1 hm2
  have HX := Lib.hid hx2
  obtain ⟨x0, x1, f0, f1⟩ := hx2
  go_wp2
  obtain ⟨y0, y1⟩ := HX.out.set2 (.string ⟨#[]⟩) (.slice none 0 0)
  have hbw := below_set2 (w := w2) (Nat.le_refl w.heap.size) (.string ⟨#[]⟩) (.slice none 0 0)
  generalize World.setCell _ _ _ = W at *
  exact bodyPost_ret (v := .tuple #[.agg #[.string ⟨#[]⟩, .slice none 0 0], .int .i64 5]) (by simp [results, Tryd.results82, go_sem, y0, y1]) rfl (pa_err HP.out 5 rfl (hm3.below hbw) (hr2.below hbw hbl))
set_option maxHeartbeats 4000000 in
set_option maxRecDepth 100000 in
theorem param_full (b : Nat) (s : ByteArray) (i : Nat) (A0 : Option Addr) (n0 c0 : Nat) (ps : List Ln.Par) (w : World) (h : RB w b s i) (hi : i ≤ s.size) (hs : s.size ≤ 400000) (hl : ps.length = n0)
    (hn : (Ln.nm 60 (s.data.toList.drop i)).1 ≠ []) (h61 : (Ln.nm 60 (s.data.toList.drop i)).2.head? = some 61) (hx : n0 = 60) :
    Calls Tryd.prog 82 #[.pointer (some ⟨b, 0, none⟩), .slice A0 n0 c0] w (PaPost b s i (ps.map Prod.fst) w) := by
  have HP := Lib.hid (Ln.pa_many (r := s.data.toList.drop i) (before := ps.map Prod.fst) (.inl (by rw [List.length_map, hl, hx])))
  have hbl := h.lt
  have hg0 : Gr w (w.alloc (.cells #[.string ⟨#[]⟩, .slice none 0 0] 79)) := (Gr.refl w).allocO _
  have hr0 := h.keep hg0
  have cN := name_yes b s i _ hr0 hi hs hn
  have hx4 := Bx2.new w (.string ⟨#[]⟩) (.slice none 0 0) 79
  obtain ⟨c1, c2, c3⟩ := hr0
  have H61 := Lib.hid h61
  have hq60 : ((n0 : Int) == 60) = true := by rw [beq_iff_eq]; omega
  clear h61 hn hl hx
  generalize Ln.nm 60 (s.data.toList.drop i) = N at *
  go_enter Tryd.func82, Tryd.ntmps82
  go_wp2_with fail
  refine cN.mono ?_
  rintro e w1 ⟨rfl, hm1, j, hr1, hij, hj, hd⟩
  have hd61 : (s.data.toList.drop j).head? = some 61 := by rw [hd]; exact H61.out
  have hjl := hd_lt hd61
  have cT := take_t b s j 61 61 rfl w1 hr1 hs hd61
  have hx1 := hx4.mv hm1 (by omega)
  have hm2 := (hg0.mv b).trans hm1
  have HD := Lib.hid hd
  clear c1 c2 c3 hx4 hd hd61
  go_wp2_with fail
  refine cT.mono ?_
  rintro e w2 ⟨rfl, hmt, hr2⟩
  have hx2 := hx1.mv hmt (by omega)
  have hm3 := hm2.trans hmt
  clear hx1 hr1 hm2
  have hr4 := hr2.set i
  have hx4 := hx2.box (k := b) (by omega) (.int .i64 (i : Int))
  have hm4 := hm3.trans (Mv.set b w2 1 (.int .i64 (i : Int)))
  have HX := Lib.hid hx4
  obtain ⟨z0, z1, z2⟩ := hr2
  obtain ⟨x0, x1, f0, f1⟩ := hx4
  go_wp2
  obtain ⟨y0, y1⟩ := HX.out.set2 (.string ⟨#[]⟩) (.slice none 0 0)
  have hbw := below_set2 (w := (w2.setCell ⟨b, 1, none⟩ (.int .i64 (i : Int)))) (Nat.le_refl w.heap.size) (.string ⟨#[]⟩) (.slice none 0 0)
  generalize World.setCell (World.setCell (World.setCell _ _ _) _ _) _ _ = W at *
  exact bodyPost_ret (v := .tuple #[.agg #[.string ⟨#[]⟩, .slice none 0 0], .int .i64 9]) (by simp [results, Tryd.results82, go_sem, y0, y1]) rfl (pa_err HP.out 9 rfl (hm4.below hbw) (hr4.below hbw hbl))
set_option maxHeartbeats 4000000 in
set_option maxRecDepth 100000 in
theorem param_twice (b : Nat) (s : ByteArray) (i : Nat) (A0 : Option Addr) (n0 c0 : Nat) (ps : List Ln.Par) (w : World) (h : RB w b s i) (hi : i ≤ s.size) (hs : s.size ≤ 400000) (hP : ∀ w', Mv b w w' → Pars w' w'.heap.size A0 n0 ps) (hn0 : n0 < 60)
    (hn : (Ln.nm 60 (s.data.toList.drop i)).1 ≠ []) (h61 : (Ln.nm 60 (s.data.toList.drop i)).2.head? = some 61) (hx : (Ln.nm 60 (s.data.toList.drop i)).1 ∈ ps.map Prod.fst) :
    Calls Tryd.prog 82 #[.pointer (some ⟨b, 0, none⟩), .slice A0 n0 c0] w (PaPost b s i (ps.map Prod.fst) w) := by
  have HP := Lib.hid (Ln.pa_many (r := s.data.toList.drop i) (before := ps.map Prod.fst) (.inr hx))
  have hbl := h.lt
  have hg0 : Gr w (w.alloc (.cells #[.string ⟨#[]⟩, .slice none 0 0] 79)) := (Gr.refl w).allocO _
  have hr0 := h.keep hg0
  have cN := name_yes b s i _ hr0 hi hs hn
  have hx4 := Bx2.new w (.string ⟨#[]⟩) (.slice none 0 0) 79
  obtain ⟨c1, c2, c3⟩ := hr0
  have H61 := Lib.hid h61
  have hq60 : ((n0 : Int) == 60) = false := by rw [beq_eq_false_iff_ne]; omega
  have HI := Lib.hid hx
  clear h61 hn hx
  generalize Ln.nm 60 (s.data.toList.drop i) = N at *
  go_enter Tryd.func82, Tryd.ntmps82
  go_wp2_with fail
  refine cN.mono ?_
  rintro e w1 ⟨rfl, hm1, j, hr1, hij, hj, hd⟩
  have hd61 : (s.data.toList.drop j).head? = some 61 := by rw [hd]; exact H61.out
  have hjl := hd_lt hd61
  have cT := take_t b s j 61 61 rfl w1 hr1 hs hd61
  have hx1 := hx4.mv hm1 (by omega)
  have hm2 := (hg0.mv b).trans hm1
  have HD := Lib.hid hd
  clear c1 c2 c3 hx4 hd hd61
  go_wp2_with fail
  refine cT.mono ?_
  rintro e w2 ⟨rfl, hmt, hr2⟩
  have hx2 := hx1.mv hmt (by omega)
  have hm3 := hm2.trans hmt
  clear hx1 hr1 hm2
  have cI := (index_any ⟨N.1.toArray⟩ A0 n0 c0 ps w2 (hP w2 hm3) (by omega)).mono (R' := fun e w' => ∃ v : Int, e = .returned (.int .i64 v) ∧ 0 ≤ v ∧ Gr w2 w') (fun e w' ⟨v, h1, h2, h3⟩ => ⟨v, h1, by
    have := h2.neg
    rw [show (ps.map Prod.fst).contains (ByteArray.mk N.1.toArray).data.toList = true by simpa using HI.out] at this
    exact of_decide_eq_true this, h3⟩)
  go_wp2_with fail
  refine cI.mono ?_
  rintro e w3 ⟨v, rfl, hv, hg3⟩
  have hr3 := hr2.keep hg3
  have hx3 := hx2.gr hg3
  have hr4 := hr3.set i
  have hx4 := hx3.box (k := b) (by omega) (.int .i64 (i : Int))
  have hm4 := (hm3.trans (hg3.mv b)).trans (Mv.set b w3 1 (.int .i64 (i : Int)))
  have HX := Lib.hid hx4
  obtain ⟨z0, z1, z2⟩ := hr3
  obtain ⟨x0, x1, f0, f1⟩ := hx4
  go_wp2
  obtain ⟨y0, y1⟩ := HX.out.set2 (.string ⟨#[]⟩) (.slice none 0 0)
  have hbw := below_set2 (w := (w3.setCell ⟨b, 1, none⟩ (.int .i64 (i : Int)))) (Nat.le_refl w.heap.size) (.string ⟨#[]⟩) (.slice none 0 0)
  generalize World.setCell (World.setCell (World.setCell _ _ _) _ _) _ _ = W at *
  exact bodyPost_ret (v := .tuple #[.agg #[.string ⟨#[]⟩, .slice none 0 0], .int .i64 9]) (by simp [results, Tryd.results82, go_sem, y0, y1]) rfl (pa_err HP.out 9 rfl (hm4.below hbw) (hr4.below hbw hbl))
end Go.Proofs.YtbfngdpdgmgfpaaDoor
namespace Go.Proofs.YtbfngdpdgmgfpaaDoor
open Go.RowKit

theorem Tab.below {w w' : World} {B : Nat} (h : Tab w) (hg : Below B w w') (hB : 0 < B ∧ 1 < B) : Tab w' := h.low hg hB.1 hB.2
set_option maxHeartbeats 8000000 in
set_option maxRecDepth 100000 in
theorem param_vals (b : Nat) (s : ByteArray) (i : Nat) (A0 : Option Addr) (n0 c0 : Nat) (ps : List Ln.Par) (w : World) (h : RB w b s i) (ht : Tab w) (hbh : Hi b) (hi : i ≤ s.size) (hs : s.size ≤ 400000) (hP : ∀ w', Mv b w w' → Pars w' w'.heap.size A0 n0 ps) (hl : ps.length = n0) (hn0 : n0 < 60)
    (hn : (Ln.nm 60 (s.data.toList.drop i)).1 ≠ []) (h61 : (Ln.nm 60 (s.data.toList.drop i)).2.head? = some 61) (hx : (Ln.nm 60 (s.data.toList.drop i)).1 ∉ ps.map Prod.fst) :
    Calls Tryd.prog 82 #[.pointer (some ⟨b, 0, none⟩), .slice A0 n0 c0] w (PaPost b s i (ps.map Prod.fst) w) := by
  have HP := Lib.hid (Ln.pa_vals (r := s.data.toList.drop i) (before := ps.map Prod.fst) hn h61 (by rw [List.length_map]; omega) hx)
  have hbl := h.lt
  have hg0 : Gr w (w.alloc (.cells #[.string ⟨#[]⟩, .slice none 0 0] 79)) := (Gr.refl w).allocO _
  have hr0 := h.keep hg0
  have cN := name_yes b s i _ hr0 hi hs hn
  have hx4 := Bx2.new w (.string ⟨#[]⟩) (.slice none 0 0) 79
  obtain ⟨c1, c2, c3⟩ := hr0
  have H61 := Lib.hid h61
  have hq60 : ((n0 : Int) == 60) = false := by rw [beq_eq_false_iff_ne]; omega
  have HI := Lib.hid hx
  have hgl := ht.lt
  clear h61 hn hx hl
  generalize Ln.nm 60 (s.data.toList.drop i) = N at *
  go_enter Tryd.func82, Tryd.ntmps82
  go_wp2_with fail
  refine cN.mono ?_
  rintro e w1 ⟨rfl, hm1, j, hr1, hij, hj, hd⟩
  have hd61 : (s.data.toList.drop j).head? = some 61 := by rw [hd]; exact H61.out
  have hjl := hd_lt hd61
  have cT := take_t b s j 61 61 rfl w1 hr1 hs hd61
  have hx1 := hx4.mv hm1 (by omega)
  have hm2 := (hg0.mv b).trans hm1
  have HD := Lib.hid hd
  clear c1 c2 c3 hx4 hd hd61
  go_wp2_with fail
  refine cT.mono ?_
  rintro e w2 ⟨rfl, hmt, hr2⟩
  have hx2 := hx1.mv hmt (by omega)
  have hm3 := hm2.trans hmt
  clear hx1 hr1 hm2
  have cI := (index_any ⟨N.1.toArray⟩ A0 n0 c0 ps w2 (hP w2 hm3) (by omega)).mono (R' := fun e w' => ∃ v : Int, e = .returned (.int .i64 v) ∧ v < 0 ∧ Gr w2 w') (fun e w' ⟨v, h1, h2, h3⟩ => ⟨v, h1, by
    have := h2.neg
    rw [show (ps.map Prod.fst).contains (ByteArray.mk N.1.toArray).data.toList = false by simpa using HI.out] at this
    exact Int.not_le.1 (of_decide_eq_false this), h3⟩)
  go_wp2_with fail
  refine cI.mono ?_
  rintro e w3 ⟨v, rfl, hv, hg3⟩
  have hr3 := hr2.keep hg3
  have hx3 := hx2.gr hg3
  have hm4 := hm3.trans (hg3.mv b)
  have ht3 := ht.mv hm4 hbh
  have hd2 : s.data.toList.drop (j + 1) = N.2.tail := by rw [← HD.out, List.tail_drop]
  obtain ⟨V, hV⟩ : ∃ V, Ln.vs (s.data.toList.drop (j + 1)) [] = V := ⟨_, rfl⟩
  have hpa : Ln.pa (s.data.toList.drop i) (ps.map Prod.fst) = V.map fun x => ((N.1, x.1), x.2) := by rw [HP.out, ← hd2, hV]
  have HNo : Hid (V = none → Ln.pa (s.data.toList.drop i) (ps.map Prod.fst) = none) := Lib.hid (fun e => by rw [hpa, e]; rfl)
  have HYes : Hid (∀ x, V = some x → Ln.pa (s.data.toList.drop i) (ps.map Prod.fst) = some ((N.1, x.1), x.2)) := Lib.hid (fun x e => by rw [hpa, e]; rfl)
  have HV0 := Lib.hid hV
  have hsz3 : w.heap.size + 1 ≤ w3.heap.size := hx3.lt
  clear hpa hV hd2 HP HI H61 hr2 hx2 hm3 cI cT cN hmt hm1 hg0 hP h hg3 ht
  go_wp2
  go_loopg [9] (s.size + 1 - (j + 1)) (fun g v9 wx => ∃ A n c acc, ∃ k : Nat, v9 = .slice A n c ∧ n < 60 ∧ k ≤ s.size ∧ k + g = s.size + 1 ∧ OwnV wx (w.heap.size + 1) 9 A n c (sc acc) ∧ Mv b w wx ∧ w.heap.size + 1 ≤ wx.heap.size ∧ RB wx b s k ∧ Bx2 wx w.heap.size (.string ⟨#[]⟩) (.slice none 0 0) ∧ Tab wx ∧ Hid (acc.length = n ∧ Ln.vs (s.data.toList.drop k) acc = V))
  case atStart => exact ⟨_, _, _, [], j + 1, rfl, by omega, by omega, by omega, OwnV.nil _ _ _, hm4, hsz3, hr3, hx3, ht3, Lib.hid ⟨rfl, HV0.out⟩⟩
  case round =>
    obtain ⟨A, n, c, acc, k, rfl, hn, hk, hkg, hown, hmv, hsz, hrb, hbx, htx, HA⟩ := hrel
    have HG := Lib.hid hkg
    clear hkg hm4 hsz3 hr3 hx3 ht3 HV0
    cases hsv : Ln.sv (s.data.toList.drop k) with
    | none =>
      have HV : Hid (none = V) := Lib.hid (by rw [← HA.out.2, Ln.vs_none hsv])
      have cV := rvalue_none b s k wr hrb hk hs hsv
      clear hsv
      go_wp2_with fail
      refine cV.mono ?_
      rintro e w4 ⟨rfl, hm5, j5, hr5⟩
      have hbx5 := hbx.mv hm5 (by omega)
      have hm6 := hmv.trans hm5
      have HX := Lib.hid hbx5
      obtain ⟨x0, x1, f0, f1⟩ := hbx5
      go_wp2
      obtain ⟨y0, y1⟩ := HX.out.set2 (.string ⟨#[]⟩) (.slice none 0 0)
      have hbw := below_set2 (w := w4) (Nat.le_refl w.heap.size) (.string ⟨#[]⟩) (.slice none 0 0)
      generalize World.setCell (World.setCell _ _ _) _ _ = W at *
      exact bodyPost_ret (v := .tuple #[.agg #[.string ⟨#[]⟩, .slice none 0 0], .int .i64 5]) (by simp [results, Tryd.results82, go_sem, y0, y1]) rfl (pa_err (HNo.out (HV.out ▸ rfl)) 5 rfl (hm6.below hbw) (hr5.below hbw hbl))
    | some x =>
      by_cases hE : Es.vlE x.1 = 0
      · obtain ⟨q1, q2, q3⟩ := raw_ext s k x hsv
        have cV := rvalue_yes b s k wr hrb htx hbh hk hs x hsv hE
        by_cases h44 : x.2.head? = some 44
        · by_cases h60 : n + 1 = 60
          · have HV : Hid (none = V) := Lib.hid (by rw [← HA.out.2, Ln.vs_many hsv hE h44 (by rw [HA.out.1]; exact h60)])
            have h60i : ((n : Int) + 1 == 60) = true := by rw [beq_iff_eq]; omega
            have H44 : Hid ((s.data.toList.drop (k + x.1.length)).head? = some 44) := Lib.hid (by rw [q3]; exact h44)
            clear hsv hE q1 q3 h44 h60
            generalize k + x.1.length = k1 at *
            generalize Es.vlT x.1 = T at *
            go_wp2_with fail
            refine cV.mono ?_
            rintro e w4 ⟨rfl, hm5, hr5⟩
            have hown5 := hown.mv hm5 (by omega)
            have hbx5 := hbx.mv hm5 (by omega)
            have hm6 := hmv.trans hm5
            have hsz5 : w.heap.size + 1 ≤ w4.heap.size := by have := hm5.lt; omega
            clear hown hbx hrb hmv
            go_wp2_with (at_builtin; refine ap_str w4 rfl (.tmp 52) (.tmp 54) rfl (w.heap.size + 1) A n c acc rfl hown5 T rfl (by omega) hsz5 ?_; intro A6 c6 w6 hown6 hb6)
            have hr6 := hr5.below hb6 (by omega)
            have hbx6 := hbx5.below hb6 (by omega)
            have hm7 := hm6.below (hb6.mono (by omega))
            have cT := take_t b s k1 44 44 rfl w6 hr6 hs H44.out
            clear hr5 hbx5 hm6 hown5
            go_wp2_with fail
            refine cT.mono ?_
            rintro e w7 ⟨rfl, hm8, hr7⟩
            have hbx7 := (hbx6.mv hm8 (by omega)).box (k := b) (by omega) (.int .i64 (i : Int))
            have hm9 := (hm7.trans hm8).trans (Mv.set b w7 1 (.int .i64 (i : Int)))
            have hr8 := hr7.set i
            have HX := Lib.hid hbx7
            obtain ⟨z0, z1, z2⟩ := hr7
            obtain ⟨x0, x1, f0, f1⟩ := hbx7
            go_wp2
            obtain ⟨y0, y1⟩ := HX.out.set2 (.string ⟨#[]⟩) (.slice none 0 0)
            have hbw := below_set2 (w := (w7.setCell ⟨b, 1, none⟩ (.int .i64 (i : Int)))) (Nat.le_refl w.heap.size) (.string ⟨#[]⟩) (.slice none 0 0)
            generalize World.setCell (World.setCell (World.setCell _ _ _) _ _) _ _ = W at *
            exact bodyPost_ret (v := .tuple #[.agg #[.string ⟨#[]⟩, .slice none 0 0], .int .i64 9]) (by simp [results, Tryd.results82, go_sem, y0, y1]) rfl (pa_err (HNo.out (HV.out ▸ rfl)) 9 rfl (hm9.below hbw) (hr8.below hbw hbl))
          · have HV : Hid (Ln.vs (s.data.toList.drop (k + x.1.length + 1)) (acc ++ [Es.vlT x.1]) = V) := Lib.hid (by rw [← HA.out.2, Ln.vs_more hsv hE h44 (by rw [HA.out.1]; exact h60), ← q3, List.tail_drop])
            have h60i : ((n : Int) + 1 == 60) = false := by rw [beq_eq_false_iff_ne]; omega
            have H44 : Hid ((s.data.toList.drop (k + x.1.length)).head? = some 44) := Lib.hid (by rw [q3]; exact h44)
            have hkk : k ≤ k + x.1.length := by omega
            clear hsv hE q1 q3 h44
            generalize k + x.1.length = k1 at *
            generalize Es.vlT x.1 = T at *
            have hk1 := hd_lt H44.out
            go_wp2_with fail
            refine cV.mono ?_
            rintro e w4 ⟨rfl, hm5, hr5⟩
            have hown5 := hown.mv hm5 (by omega)
            have hbx5 := hbx.mv hm5 (by omega)
            have hm6 := hmv.trans hm5
            have ht5 := htx.mv hm5 hbh
            have hsz5 : w.heap.size + 1 ≤ w4.heap.size := by have := hm5.lt; omega
            clear hown hbx hrb hmv htx
            go_wp2_with (at_builtin; refine ap_str w4 rfl (.tmp 52) (.tmp 54) rfl (w.heap.size + 1) A n c acc rfl hown5 T rfl (by omega) hsz5 ?_; intro A6 c6 w6 hown6 hb6)
            have hr6 := hr5.below hb6 (by omega)
            have hbx6 := hbx5.below hb6 (by omega)
            have hm7 := hm6.below (hb6.mono (by omega))
            have ht6 := ht5.below hb6 ⟨by omega, by omega⟩
            have hsz6 : w.heap.size + 1 ≤ w6.heap.size := by have := hb6.size; omega
            have cT := take_t b s k1 44 44 rfl w6 hr6 hs H44.out
            clear hr5 hbx5 hm6 hown5 ht5
            go_wp2_with fail
            refine cT.mono ?_
            rintro e w7 ⟨rfl, hm8, hr7⟩
            have hbx7 := hbx6.mv hm8 (by omega)
            have hm9 := hm7.trans hm8
            have ht7 := ht6.mv hm8 hbh
            have hown7 := hown6.mv hm8 (by omega)
            have hsz7 : w.heap.size + 1 ≤ w7.heap.size := by have := hm8.lt; omega
            go_wp2
            go_roundg (s.size + 1 - (k1 + 1))
            case measure => have := HG.out; omega
            case rel => exact ⟨_, n + 1, _, acc ++ [T], k1 + 1, rfl, by omega, by omega, by omega, hown7, hm9, hsz7, hr7, hbx7, ht7, Lib.hid ⟨by rw [List.length_append, HA.out.1]; rfl, HV.out⟩⟩
        · have HV : Hid (V = some (acc ++ [Es.vlT x.1], x.2)) := Lib.hid (by rw [← HA.out.2, Ln.vs_end hsv hE h44])
          have H44 : Hid ((s.data.toList.drop (k + x.1.length)).head? ≠ some 44) := Lib.hid (by rw [q3]; exact h44)
          have HQ := Lib.hid q3
          clear hsv hE q1 q3 h44
          generalize k + x.1.length = k1 at *
          generalize Es.vlT x.1 = T at *
          go_wp2_with fail
          refine cV.mono ?_
          rintro e w4 ⟨rfl, hm5, hr5⟩
          have hown5 := hown.mv hm5 (by omega)
          have hbx5 := hbx.mv hm5 (by omega)
          have hm6 := hmv.trans hm5
          have hsz5 : w.heap.size + 1 ≤ w4.heap.size := by have := hm5.lt; omega
          clear hown hbx hrb hmv htx
          go_wp2_with (at_builtin; refine ap_str w4 rfl (.tmp 52) (.tmp 54) rfl (w.heap.size + 1) A n c acc rfl hown5 T rfl (by omega) hsz5 ?_; intro A6 c6 w6 hown6 hb6)
          have hr6 := hr5.below hb6 (by omega)
          have hbx6 := hbx5.below hb6 (by omega)
          have hm7 := hm6.below (hb6.mono (by omega))
          have cT := take_f b s k1 44 44 rfl w6 hr6 q2 H44.out
          clear hr5 hbx5 hm6 hown5
          go_wp2_with fail
          refine cT.mono ?_
          rintro e w7 ⟨rfl, hg8⟩
          have hr7 := hr6.keep hg8
          have hbx7 := hbx6.gr hg8
          have hm9 := hm7.trans (hg8.mv b)
          have hown7 := hown6.gr hg8
          have HX := Lib.hid hbx7
          obtain ⟨x0, x1, f0, f1⟩ := hbx7
          go_wp2
          obtain ⟨y0, y1⟩ := HX.out.set2 (.string ⟨N.1.toArray⟩) (.slice A6 (n + 1) c6)
          have hbw := below_set2 (w := w7) (Nat.le_refl w.heap.size) (.string ⟨N.1.toArray⟩) (.slice A6 (n + 1) c6)
          have hown8 := own_set2 hown7 (b := w.heap.size) (by omega) (.string ⟨N.1.toArray⟩) (.slice A6 (n + 1) c6)
          generalize World.setCell (World.setCell _ _ _) _ _ = W at *
          exact bodyPost_ret (v := .tuple #[.agg #[.string ⟨N.1.toArray⟩, .slice A6 (n + 1) c6], .int .i64 0]) (by simp [results, Tryd.results82, go_sem, y0, y1]) rfl
            (.inl ⟨_, _, A6, n + 1, c6, k1, HYes.out _ HV.out, rfl, hm9.below hbw, hr7.below hbw hbl, q2, HQ.out, Strs.of_own hown8, fun h0 ad ha => by have := Strs.fresh hown8 h0 ad ha; omega⟩)
      · have HV : Hid (none = V) := Lib.hid (by rw [← HA.out.2, Ln.vs_bad hsv hE])
        have cV := rvalue_bad b s k wr hrb htx hbh hk hs x hsv hE
        clear hsv hE
        go_wp2_with fail
        refine cV.mono ?_
        rintro e w4 ⟨rfl, hm5, hr5⟩
        have hbx5 := hbx.mv hm5 (by omega)
        have hm6 := hmv.trans hm5
        have HX := Lib.hid hbx5
        obtain ⟨x0, x1, f0, f1⟩ := hbx5
        go_wp2
        obtain ⟨y0, y1⟩ := HX.out.set2 (.string ⟨#[]⟩) (.slice none 0 0)
        have hbw := below_set2 (w := w4) (Nat.le_refl w.heap.size) (.string ⟨#[]⟩) (.slice none 0 0)
        generalize World.setCell (World.setCell _ _ _) _ _ = W at *
        exact bodyPost_ret (v := .tuple #[.agg #[.string ⟨#[]⟩, .slice none 0 0], .int .i64 7]) (by simp [results, Tryd.results82, go_sem, y0, y1]) rfl (pa_err (HNo.out (HV.out ▸ rfl)) 7 rfl (hm6.below hbw) (hr5.below hbw hbl))
theorem rparam_any (b : Nat) (s : ByteArray) (i : Nat) (A0 : Option Addr) (n0 c0 : Nat) (ps : List Ln.Par) (w : World) (h : RB w b s i) (ht : Tab w) (hbh : Hi b) (hi : i ≤ s.size) (hs : s.size ≤ 400000) (hP : ∀ w', Mv b w w' → Pars w' w'.heap.size A0 n0 ps) (hn0 : n0 ≤ 60) :
    Calls Tryd.prog 82 #[.pointer (some ⟨b, 0, none⟩), .slice A0 n0 c0] w (PaPost b s i (ps.map Prod.fst) w) := by
  have hl : ps.length = n0 := (hP w (Mv.refl b w)).1
  by_cases hn : (Ln.nm 60 (s.data.toList.drop i)).1 = []
  · exact param_noname b s i A0 n0 c0 _ w h hi hs hn
  · by_cases h61 : (Ln.nm 60 (s.data.toList.drop i)).2.head? = some 61
    · by_cases h60 : n0 = 60
      · exact param_full b s i A0 n0 c0 ps w h hi hs hl hn h61 h60
      · by_cases hx : (Ln.nm 60 (s.data.toList.drop i)).1 ∈ ps.map Prod.fst
        · exact param_twice b s i A0 n0 c0 ps w h hi hs hP (by omega) hn h61 hx
        · exact param_vals b s i A0 n0 c0 ps w h ht hbh hi hs hP hl (by omega) hn h61 hx
    · exact param_noeq b s i A0 n0 c0 _ w h hi hs hn h61
end Go.Proofs.YtbfngdpdgmgfpaaDoor
namespace Go.Proofs.YtbfngdpdgmgfpaaDoor
open Go.RowKit

theorem clone_any (s : ByteArray) (w : World) (hs : s.size ≤ 140737488355328) : Calls Tryd.prog 62 #[.string s] w fun e w' => e = .returned (.string s) ∧ Gr w w' := by
  have cC := Tryd.stringslite_Clone s w (by omega)
  go_enter Tryd.func62, Tryd.ntmps62
  go_wp2_with (go_at_call 83; refine cC.mono ?_; rintro e w' ⟨rfl, hg⟩)
  go_ret
  exact ⟨rfl, ⟨hg⟩⟩
namespace Es
theorem clE_bad {f : Bool} {l : List UInt8} (h : l.any (bad f) = true) : clE f l ≠ 0 := by
  intro e
  rw [(clE_zero e).2] at h; cases h
theorem clE_iff {f : Bool} {l : List UInt8} (h : l.any (bad f) = false) : decide (clE f l = 0) = Lib.validD l := by
  cases hv : Lib.validD l
  · rw [clE_utf hv]; rfl
  · rw [clE_ok hv h]; rfl
theorem bad_low {b : UInt8} (h : (b.toNat : Int) < 32) (h9 : b ≠ 9) : bad false b = true := by
  unfold bad
  have h3 : decide (b.toNat < 32) = true := decide_eq_true (by omega)
  have h4 : (b != 9) = true := by simpa using h9
  rw [h3, h4]; simp
end Es
set_option maxHeartbeats 2000000 in
set_option maxRecDepth 100000 in
theorem fval_any (s : ByteArray) (w : World) (ht : Tab w) (hs : s.size ≤ 140737488355328) :
    Calls Tryd.prog 71 #[.string s] w fun e w' => e = .returned (.bool (decide (Es.clE false s.data.toList = 0))) ∧ Gr w w' := by
  have cV := valid_any s w ht (by omega)
  have HB := Lib.hid (fun h => decide_eq_false (Es.clE_bad (f := false) (l := s.data.toList) h))
  have HO := Lib.hid (fun h => Es.clE_iff (f := false) (l := s.data.toList) h)
  generalize decide (Es.clE false s.data.toList = 0) = E at *
  generalize Lib.validD s.data.toList = V at *
  go_enter Tryd.func71, Tryd.ntmps71
  go_wp2
  go_loopg [7] s.size (fun g v wx => ∃ i : Nat, v = .int .i64 (i : Int) ∧ i + g = s.size ∧ w = wx ∧ Hid ((s.data.toList.take i).any (Es.bad false) = false))
  case atStart => exact ⟨0, rfl, by omega, rfl, Lib.hid (by simp)⟩
  case round =>
    obtain ⟨i, rfl, hig, rfl, HN⟩ := hrel
    have HG := Lib.hid hig
    clear hig
    by_cases hi : i < s.size
    · have hlt : (s[i].toNat : Int) < 256 := by have := UInt8.toNat_lt s[i]; omega
      cases h127 : ((s[i].toNat : Int) == 127)
      · by_cases h32 : (s[i].toNat : Int) < 32
        · cases h9 : ((s[i].toNat : Int) == 9)
          · have HE := Lib.hid (HB.out (Es.any_at hi (Es.bad_low h32 (by_f 9 h9))))
            go_wp2
            go_ret
            exact ⟨ret_bool HE.out.symm, Gr.refl _⟩
          · have HE := Lib.hid (Es.any_more hi HN.out (by rw [by_t 9 h9]; rfl))
            go_wp2
            go_roundg (s.size - (i + 1))
            case measure => have := HG.out; omega
            case rel => exact ⟨i + 1, by go_num, by omega, rfl, HE⟩
        · have HE := Lib.hid (Es.any_more hi HN.out (Es.bad_high false _ (by_f 127 h127) (by omega)))
          go_wp2
          go_roundg (s.size - (i + 1))
          case measure => have := HG.out; omega
          case rel => exact ⟨i + 1, by go_num, by omega, rfl, HE⟩
      · have HE := Lib.hid (HB.out (Es.any_at hi (by rw [by_t 127 h127]; exact Es.bad_del false)))
        go_wp2
        go_ret
        exact ⟨ret_bool HE.out.symm, Gr.refl _⟩
    · have he := HN.out
      rw [take_end s i (by omega)] at he
      have HE := Lib.hid (HO.out he)
      obtain rfl : i = s.size := by have := HG.out; omega
      clear he
      go_wp2_with (go_at_call 56; refine cV.mono ?_; rintro e w1 ⟨rfl, hg1⟩)
      go_ret
      exact ⟨ret_bool HE.out.symm, hg1⟩
/- a box of three cells that may be written -/
structure Bx3 (w : World) (b : Nat) (x y z : Value) : Prop where
  c0 : w.cell? ⟨b, 0, none⟩ = some x
  c1 : w.cell? ⟨b, 1, none⟩ = some y
  c2 : w.cell? ⟨b, 2, none⟩ = some z
  f0 : w.frozen? ⟨b, 0, none⟩ = false
  f1 : w.frozen? ⟨b, 1, none⟩ = false
  f2 : w.frozen? ⟨b, 2, none⟩ = false
theorem Bx3.lt {w : World} {b : Nat} {x y z : Value} (h : Bx3 w b x y z) : b < w.heap.size := World.block_lt_of_cell? _ _ h.c0
theorem Bx3.new (w : World) (x y z : Value) (t : TypeId) : Bx3 (w.alloc (.cells #[x, y, z] t)) w.heap.size x y z :=
  ⟨by simp, by simp, by simp, by rw [frozen?_alloc_cells]; simp [World.frozen?], by rw [frozen?_alloc_cells]; simp [World.frozen?], by rw [frozen?_alloc_cells]; simp [World.frozen?]⟩
theorem Bx3.block {w w' : World} {b : Nat} {x y z : Value} (h : Bx3 w b x y z) (hb : w'.heap[b]? = w.heap[b]?) : Bx3 w' b x y z :=
  ⟨(World.cell?_of_block (w := w) hb).trans h.c0, (World.cell?_of_block (w := w) hb).trans h.c1, (World.cell?_of_block (w := w) hb).trans h.c2, (World.frozen?_of_block (w := w) hb).trans h.f0, (World.frozen?_of_block (w := w) hb).trans h.f1, (World.frozen?_of_block (w := w) hb).trans h.f2⟩
theorem Bx3.gr {w w' : World} {b : Nat} {x y z : Value} (h : Bx3 w b x y z) (hg : Gr w w') : Bx3 w' b x y z := h.block (hg.below.block _ h.lt)
theorem Bx3.mv {w w' : World} {b k : Nat} {x y z : Value} (h : Bx3 w b x y z) (hg : Mv k w w') (hk : b ≠ k) : Bx3 w' b x y z := h.block (hg.block _ h.lt (fun e => hk (by injection e)))
theorem Bx3.below {w w' : World} {b B : Nat} {x y z : Value} (h : Bx3 w b x y z) (hg : Below B w w') (hb : b < B) : Bx3 w' b x y z := h.block (hg.block _ hb)
theorem Bx3.set3 {w : World} {b : Nat} {x y z : Value} (h : Bx3 w b x y z) (u v t : Value) :
    (((w.setCell ⟨b, 0, none⟩ u).setCell ⟨b, 1, none⟩ v).setCell ⟨b, 2, none⟩ t).cell? ⟨b, 0, none⟩ = some u ∧ (((w.setCell ⟨b, 0, none⟩ u).setCell ⟨b, 1, none⟩ v).setCell ⟨b, 2, none⟩ t).cell? ⟨b, 1, none⟩ = some v ∧ (((w.setCell ⟨b, 0, none⟩ u).setCell ⟨b, 1, none⟩ v).setCell ⟨b, 2, none⟩ t).cell? ⟨b, 2, none⟩ = some t := box_set3 h.c0 h.c1 h.c2 u v t
theorem below_set3 {w : World} {b B : Nat} (hb : B ≤ b) (u v t : Value) : Below B w (((w.setCell ⟨b, 0, none⟩ u).setCell ⟨b, 1, none⟩ v).setCell ⟨b, 2, none⟩ t) :=
  (((Below.refl B w).setCell (p := ⟨b, 0, none⟩) hb u).setCell (p := ⟨b, 1, none⟩) hb v).setCell (p := ⟨b, 2, none⟩) hb t
theorem mv_set3 (w : World) (b : Nat) (u v t : Value) : Mv b w (((w.setCell ⟨b, 0, none⟩ u).setCell ⟨b, 1, none⟩ v).setCell ⟨b, 2, none⟩ t) := ((Mv.set b w 0 u).trans (Mv.set b _ 1 v)).trans (Mv.set b _ 2 t)
end Go.Proofs.YtbfngdpdgmgfpaaDoor
namespace Go.Proofs.YtbfngdpdgmgfpaaDoor
open Go.RowKit

namespace Ln
open _root_.Go.Proofs.YtbfngdpdgmgfpaaDoor.Es
/- a line that is read, whatever its length -/
def rlB (N : List UInt8) (V : Option (List Par × List UInt8)) : Option Li :=
  match V with
  | none => none
  | some x => if x.2.head? ≠ some 58 then none else if clE false x.2.tail ≠ 0 then none else some ⟨N, x.1, x.2.tail⟩
def rl (s : List UInt8) : Option Li := if (nm 60 s).1 = [] then none else rlB (nm 60 s).1 (ps (nm 60 s).2 [])
theorem rp_rl (s : List UInt8) : rp s = if 2000 < s.length then none else if Lib.validD s = false then none else rl s := rfl
theorem rl_noname {s : List UInt8} (h : (nm 60 s).1 = []) : rl s = none := by unfold rl; rw [if_pos h]
theorem rl_name {s : List UInt8} (h : (nm 60 s).1 ≠ []) : rl s = rlB (nm 60 s).1 (ps (nm 60 s).2 []) := by unfold rl; rw [if_neg h]
theorem rlB_none (N : List UInt8) : rlB N none = none := rfl
theorem rlB_colon {N : List UInt8} {x : List Par × List UInt8} (h : x.2.head? ≠ some 58) : rlB N (some x) = none := by simp only [rlB]; rw [if_pos h]
theorem rlB_bad {N : List UInt8} {x : List Par × List UInt8} (h : clE false x.2.tail ≠ 0) : rlB N (some x) = none := by
  simp only [rlB]; split
  · rfl
  · rfl
theorem rlB_ok {N : List UInt8} {x : List Par × List UInt8} (h1 : x.2.head? = some 58) (h2 : clE false x.2.tail = 0) : rlB N (some x) = some ⟨N, x.1, x.2.tail⟩ := by
  simp only [rlB]; rw [if_neg (by simp [h1]), if_neg (by simp [h2])]
end Ln
/- what line leaves behind: a line, or an error -/
def LiPost (b : Nat) (s : ByteArray) (L : List UInt8) (w : World) (e : Ending) (w' : World) : Prop :=
  (∃ l A n c j, Ln.rl L = some l ∧ e = .returned (.tuple #[.agg #[.string ⟨l.name.toArray⟩, .slice A n c, .string ⟨l.value.toArray⟩], .int .i64 0]) ∧ Mv b w w' ∧ RB w' b s j ∧ PRow w' (w.heap.size + 1) (fun x => w.heap.size + 1 ≤ x) 79 A n c l.ps) ∨
  (Ln.rl L = none ∧ ∃ E j, e = .returned (.tuple #[.agg #[.string ⟨#[]⟩, .slice none 0 0, .string ⟨#[]⟩], .int .i64 E]) ∧ (E != 0) = true ∧ Mv b w w' ∧ RB w' b s j)
theorem li_err {b : Nat} {s : ByteArray} {L : List UInt8} {w w' : World} (h : Ln.rl L = none) (E : Int) (hE : (E != 0) = true) (hm : Mv b w w') {j : Nat} (hr : RB w' b s j) :
    LiPost b s L w (.returned (.tuple #[.agg #[.string ⟨#[]⟩, .slice none 0 0, .string ⟨#[]⟩], .int .i64 E])) w' := .inr ⟨h, E, j, rfl, hE, hm, hr⟩
theorem PRow.mv {w w' : World} {b B : Nat} {e : TypeId} {A : Option Addr} {n c : Nat} {ps : List Ln.Par} (h : PRow w B (fun x => B ≤ x) e A n c ps) (hg : Mv b w w') (hb : b < B) : PRow w' B (fun x => B ≤ x) e A n c ps :=
  h.kept hg (fun k hk => by injection hk with hk; subst hk; exact ⟨hb, fun x hx => by omega⟩)
set_option maxHeartbeats 4000000 in
set_option maxRecDepth 100000 in
theorem line_noname (b : Nat) (s : ByteArray) (w : World) (h : RB w b s 0) (hs : s.size ≤ 400000) (hx : (Ln.nm 60 s.data.toList).1 = []) :
    Calls Tryd.prog 57 #[.pointer (some ⟨b, 0, none⟩)] w (LiPost b s s.data.toList w) := by
  have HNo := Lib.hid (Ln.rl_noname hx)
  have hbl := h.lt
  have hg0 : Gr w (w.alloc (.cells #[.string ⟨#[]⟩, .slice none 0 0, .string ⟨#[]⟩] 48)) := (Gr.refl w).allocO _
  have cN := name_no b s 0 _ (h.keep hg0) (by omega) hs hx
  have hx2 := Bx3.new w (.string ⟨#[]⟩) (.slice none 0 0) (.string ⟨#[]⟩) 48
  rw [List.drop_zero] at cN
  clear hx
  generalize Ln.nm 60 s.data.toList = N at *
  go_enter Tryd.func57, Tryd.ntmps57
  go_wp2_with fail
  refine cN.mono ?_
  rintro e w1 ⟨rfl, hm1, j, hr1, hij, hj, hd⟩
  have hx1 := hx2.mv hm1 (by omega)
  have hm2 := (hg0.mv b).trans hm1
  clear hx2
  have HX := Lib.hid hx1
  obtain ⟨x0, x1, x2, f0, f1, f2⟩ := hx1
  go_wp2
  obtain ⟨y0, y1, y2⟩ := HX.out.set3 (.string ⟨#[]⟩) (.slice none 0 0) (.string ⟨#[]⟩)
  have hbw := below_set3 (w := w1) (Nat.le_refl w.heap.size) (.string ⟨#[]⟩) (.slice none 0 0) (.string ⟨#[]⟩)
  generalize World.setCell (World.setCell (World.setCell _ _ _) _ _) _ _ = W at *
  exact bodyPost_ret (v := .tuple #[.agg #[.string ⟨#[]⟩, .slice none 0 0, .string ⟨#[]⟩], .int .i64 5]) (by simp [results, Tryd.results57, go_sem, y0, y1, y2]) rfl (li_err HNo.out 5 rfl (hm2.below hbw) (hr1.below hbw hbl))
set_option maxHeartbeats 8000000 in
set_option maxRecDepth 100000 in
theorem line_yes (b : Nat) (s : ByteArray) (w : World) (h : RB w b s 0) (ht : Tab w) (hbh : Hi b) (hs : s.size ≤ 400000) (hx : (Ln.nm 60 s.data.toList).1 ≠ []) :
    Calls Tryd.prog 57 #[.pointer (some ⟨b, 0, none⟩)] w (LiPost b s s.data.toList w) := by
  have HR := Lib.hid (Ln.rl_name hx)
  have hbl := h.lt
  have hgl := ht.lt
  have hg0 : Gr w (w.alloc (.cells #[.string ⟨#[]⟩, .slice none 0 0, .string ⟨#[]⟩] 48)) := (Gr.refl w).allocO _
  have cN := name_yes b s 0 _ (h.keep hg0) (by omega) hs hx
  have hx2 := Bx3.new w (.string ⟨#[]⟩) (.slice none 0 0) (.string ⟨#[]⟩) 48
  rw [List.drop_zero] at cN
  clear hx
  generalize Ln.nm 60 s.data.toList = N at *
  go_enter Tryd.func57, Tryd.ntmps57
  go_wp2_with fail
  refine cN.mono ?_
  rintro e w1 ⟨rfl, hm1, j, hr1, hij, hj, hd⟩
  have hx1 := hx2.mv hm1 (by omega)
  have hm2 := (hg0.mv b).trans hm1
  have ht1 := ht.mv hm2 hbh
  have hsz1 : w.heap.size + 1 ≤ w1.heap.size := hx1.lt
  obtain ⟨V, hV⟩ : ∃ V, Ln.ps N.2 [] = V := ⟨_, rfl⟩
  rw [hV] at HR
  have HV0 : Hid (Ln.ps (s.data.toList.drop j) [] = V) := Lib.hid (by rw [hd]; exact hV)
  clear hx2 cN hm1 hg0 hd hV h ht
  go_wp2
  go_loopg [6] (s.size + 1 - j) (fun g v6 wx => ∃ A n c acc, ∃ k : Nat, v6 = .slice A n c ∧ n ≤ 60 ∧ k ≤ s.size ∧ k + g = s.size + 1 ∧ PRow wx (w.heap.size + 1) (fun x => w.heap.size + 1 ≤ x) 79 A n c acc ∧ Mv b w wx ∧ w.heap.size + 1 ≤ wx.heap.size ∧ RB wx b s k ∧ Bx3 wx w.heap.size (.string ⟨#[]⟩) (.slice none 0 0) (.string ⟨#[]⟩) ∧ Tab wx ∧ Hid (acc.length = n ∧ Ln.ps (s.data.toList.drop k) acc = V))
  case atStart => exact ⟨_, _, _, [], j, rfl, by omega, by omega, by omega, PRow.nil _ _ _ _, hm2, hsz1, hr1, hx1, ht1, Lib.hid ⟨rfl, HV0.out⟩⟩
  case round =>
    obtain ⟨A, n, c, acc, k, rfl, hn, hk, hkg, hrow, hmv, hsz, hrb, hbx, htx, HA⟩ := hrel
    have HG := Lib.hid hkg
    clear hkg hm2 hsz1 hr1 hx1 ht1 HV0
    by_cases h59 : (s.data.toList.drop k).head? = some 59
    · have hkl := hd_lt h59
      have cT := take_t b s k 59 59 rfl wr hrb hs h59
      have etl : (s.data.toList.drop k).tail = s.data.toList.drop (k + 1) := by rw [List.tail_drop]
      have HNp : Hid (Ln.pa (s.data.toList.drop (k + 1)) (acc.map Prod.fst) = none → Ln.rl s.data.toList = none) := Lib.hid (fun e => by
        rw [HR.out, ← HA.out.2, Ln.ps_none h59 (by rw [etl]; exact e)]; rfl)
      have HYp : Hid (∀ p rest, Ln.pa (s.data.toList.drop (k + 1)) (acc.map Prod.fst) = some (p, rest) → n < 60 ∧ rest.length ≤ s.size - (k + 1) ∧ Ln.ps rest (acc ++ [p]) = V) := Lib.hid (fun p rest e => by
        have g := Ln.pa_good e
        have g2 := Ln.pa_short e
        rw [List.length_drop, ← Lib.size_eq] at g2
        refine ⟨?_, g2, by rw [← HA.out.2, Ln.ps_more h59 (by rw [etl]; exact e)]⟩
        have := g.2.1
        rw [List.length_map, HA.out.1] at this
        omega)
      clear h59 etl
      go_wp2_with fail
      refine cT.mono ?_
      rintro e w2 ⟨rfl, hm3, hr2⟩
      have hrow2 := hrow.mv hm3 (by omega)
      have hbx2 := hbx.mv hm3 (by omega)
      have hm4 := hmv.trans hm3
      have ht2 := htx.mv hm3 hbh
      have hsz2 : w.heap.size + 1 ≤ w2.heap.size := by have := hm3.lt; omega
      have cP := rparam_any b s (k + 1) A n c acc w2 hr2 ht2 hbh (by omega) hs (fun w' hw => (hrow2.mv hw (by omega)).pars) hn
      clear hrow hbx hmv htx hrb cT hm3
      go_wp2_with fail
      refine cP.mono ?_
      rintro e w3 (⟨p, rest, Av, nv, cv, j3, hp, rfl, hm5, hr3, hj3, hd3, hS3, hf3⟩ | ⟨hp, E, j3, rfl, hE, hm5, hr3⟩)
      · obtain ⟨hn60, hrl, hps⟩ := HYp.out p rest hp
        have HPS := Lib.hid hps
        have hown2 := hrow2.own
        have hrow3 := hrow2.mv hm5 (by omega)
        have hbx3 := hbx2.mv hm5 (by omega)
        have hm6 := hm4.trans hm5
        have ht3 := ht2.mv hm5 hbh
        have hsz3 : w.heap.size + 1 ≤ w3.heap.size := by have := hm5.lt; omega
        have hg4 : Gr w3 (w3.alloc (.cells #[.string ⟨p.1.toArray⟩, .slice Av nv cv] 79)) := (Gr.refl w3).allocO _
        have hrow4 := hrow3.gr hg4
        have hS4 : Strs (w3.alloc (.cells #[.string ⟨p.1.toArray⟩, .slice Av nv cv] 79)) (w3.alloc (.cells #[.string ⟨p.1.toArray⟩, .slice Av nv cv] 79)).heap.size Av nv p.2 := (hS3.keep hg4.below).more hg4.lt
        have hv4 : 0 < nv → ∀ ad, Av = some ad → w.heap.size + 1 ≤ ad.block ∧ (Value.slice A n c).ownBlock ≠ some ad.block := fun h0 ad ha => by
          have h1 := hf3 h0 ad ha
          refine ⟨by omega, fun e1 => ?_⟩
          have := (hown2 _ e1).2
          omega
        have hsz4 : w.heap.size + 1 ≤ (w3.alloc (.cells #[.string ⟨p.1.toArray⟩, .slice Av nv cv] 79)).heap.size := by have := hg4.lt; omega
        have hH4 : (w3.alloc (.cells #[.string ⟨p.1.toArray⟩, .slice Av nv cv] 79)).heap.size = w3.heap.size + 1 := by simp
        have hm7 := hm6.trans (hg4.mv b)
        have hbx4 := hbx3.gr hg4
        have hr4 := hr3.keep hg4
        have ht4 := ht3.keep hg4
        have HD3 := Lib.hid hd3
        clear hps hp hrow2 hbx2 hm4 ht2 hr2 cP hm5 hrow3 hbx3 hm6 ht3 hr3 hS3 hf3 hown2 hd3
        go_wp2_with (at_builtin; refine ap_par (w3.alloc (.cells #[.string ⟨p.1.toArray⟩, .slice Av nv cv] 79)) rfl (.tmp 30) (.tmp 32) rfl (w.heap.size + 1) (fun x => w.heap.size + 1 ≤ x) A n c acc rfl hrow4 p Av nv cv hS4 hv4 (by rw [hH4]; rfl) (by omega) hsz4 ?_; intro A5 c5 w5 hrow5 hb5)
        have hr5 := hr4.below hb5 (by omega)
        have hbx5 := hbx4.below hb5 (by omega)
        have hm8 := hm7.below (hb5.mono (by omega))
        have ht5 := ht4.below hb5 ⟨by omega, by omega⟩
        have hsz5 : w.heap.size + 1 ≤ w5.heap.size := by have := hb5.size; omega
        go_wp2
        go_roundg (s.size + 1 - j3)
        case measure => have := HG.out; have h1 := congrArg List.length HD3.out; rw [List.length_drop, ← Lib.size_eq] at h1; omega
        case rel => exact ⟨_, n + 1, _, acc ++ [p], j3, rfl, by omega, hj3, by omega, hrow5, hm8, hsz5, hr5, hbx5, ht5, Lib.hid ⟨by rw [List.length_append, HA.out.1]; rfl, by rw [HD3.out]; exact HPS.out⟩⟩
      · have HNo : Hid (Ln.rl s.data.toList = none) := Lib.hid (HNp.out hp)
        have hg4 : Gr w3 (w3.alloc (.cells #[.string ⟨#[]⟩, .slice none 0 0] 79)) := (Gr.refl w3).allocO _
        have hbx4 := (hbx2.mv hm5 (by omega)).gr hg4
        have hm7 := (hm4.trans hm5).trans (hg4.mv b)
        have hr4 := hr3.keep hg4
        clear hp hrow2 hbx2 hm4 ht2 hr2 cP hm5 hr3
        have HX := Lib.hid hbx4
        obtain ⟨x0, x1, x2, f0, f1, f2⟩ := hbx4
        go_wp2
        obtain ⟨y0, y1, y2⟩ := HX.out.set3 (.string ⟨#[]⟩) (.slice none 0 0) (.string ⟨#[]⟩)
        have hbw := below_set3 (w := (w3.alloc (.cells #[.string ⟨#[]⟩, .slice none 0 0] 79))) (Nat.le_refl w.heap.size) (.string ⟨#[]⟩) (.slice none 0 0) (.string ⟨#[]⟩)
        generalize World.setCell (World.setCell (World.setCell _ _ _) _ _) _ _ = W at *
        exact bodyPost_ret (v := .tuple #[.agg #[.string ⟨#[]⟩, .slice none 0 0, .string ⟨#[]⟩], .int .i64 E]) (by simp [results, Tryd.results57, go_sem, y0, y1, y2]) rfl (li_err HNo.out E hE (hm7.below hbw) (hr4.below hbw hbl))
    · have cT := take_f b s k 59 59 rfl wr hrb hk h59
      have HVx : Hid (Ln.rl s.data.toList = Ln.rlB N.1 (some (acc, s.data.toList.drop k))) := Lib.hid (by rw [HR.out, ← HA.out.2, Ln.ps_end h59])
      clear h59
      go_wp2_with fail
      refine cT.mono ?_
      rintro e w2 ⟨rfl, hg2⟩
      have hrow2 := hrow.gr hg2
      have hbx2 := hbx.gr hg2
      have hm4 := hmv.trans (hg2.mv b)
      have ht2 := htx.keep hg2
      have hr2 := hrb.keep hg2
      clear hrow hbx hmv htx hrb cT
      by_cases h58 : (s.data.toList.drop k).head? = some 58
      · have hkl := hd_lt h58
        have cT := take_t b s k 58 58 rfl w2 hr2 hs h58
        have etl : (s.data.toList.drop k).tail = s.data.toList.drop (k + 1) := by rw [List.tail_drop]
        have hxs : (s.extract (k + 1) s.size).size ≤ 400000 := by rw [Lib.size_eq, ext_data, List.length_drop, ← Lib.size_eq]; omega
        have cC := fun w1 => clone_any (s.extract (k + 1) s.size) w1 (by omega)
        have cF := fun w1 (t1 : Tab w1) => fval_any (s.extract (k + 1) s.size) w1 t1 (by omega)
        rw [ext_data] at cF
        have hkk : k + 1 ≤ s.size := by omega
        generalize k + 1 = k1 at *
        by_cases hcl : Es.clE false (s.data.toList.drop k1) = 0
        · have HOk : Hid (Ln.rl s.data.toList = some ⟨N.1, acc, s.data.toList.drop k1⟩) := Lib.hid (by rw [HVx.out, Ln.rlB_ok h58 (by rw [etl]; exact hcl), etl])
          rw [decide_eq_true hcl] at cF
          have HEx := Lib.hid (extract_from s k1)
          clear h58 etl hcl HVx
          go_wp2_with fail
          refine cT.mono ?_
          rintro e w3 ⟨rfl, hm5, hr3⟩
          have hrow3 := hrow2.mv hm5 (by omega)
          have hbx3 := hbx2.mv hm5 (by omega)
          have hm6 := hm4.trans hm5
          have ht3 := ht2.mv hm5 hbh
          clear hrow2 hbx2 hm4 ht2 hr2 cT
          have HR3 := Lib.hid hr3
          obtain ⟨d0, d1, d2⟩ := hr3
          go_wp2_with fail
          go_region_held3 (fun w' => w'.cell? ⟨b, 0, none⟩ = some (.string s) ∧ w'.cell? ⟨b, 1, none⟩ = some (.int .i64 (k1 : Int)))
            (first | exact ⟨d0, d1⟩ | exact ⟨p0, p1⟩)
            (first | (go_at_call 62; refine (cC _).mono ?_; rintro e w4 ⟨rfl, hg4⟩; have hg5 := (Gr.refl w3).drew.trans hg4; have hr4 := HR3.out.keep hg5; have HR4 := Lib.hid hr4; obtain ⟨p0, p1, p2⟩ := hr4))
          have hrow4 := hrow3.gr hg5
          have hbx4 := hbx3.gr hg5
          have hm7 := hm6.trans (hg5.mv b)
          have ht4 := ht3.keep hg5
          clear hrow3 hbx3 hm6 ht3
          go_wp2_with fail
          refine (cF w4 ht4).mono ?_
          rintro e w5 ⟨rfl, hg6⟩
          have hrow5 := hrow4.gr hg6
          have hbx5 := hbx4.gr hg6
          have hm8 := hm7.trans (hg6.mv b)
          have hr5 := HR4.out.keep hg6
          have HX := Lib.hid hbx5
          obtain ⟨x0, x1, x2, f0, f1, f2⟩ := hbx5
          clear hrow4 hbx4 hm7 ht4 d0 d1 d2 p0 p1 p2
          go_wp2
          obtain ⟨y0, y1, y2⟩ := HX.out.set3 (.string ⟨N.1.toArray⟩) (.slice A n c) (.string (s.extract k1 s.size))
          have hbw := below_set3 (w := w5) (Nat.le_refl w.heap.size) (.string ⟨N.1.toArray⟩) (.slice A n c) (.string (s.extract k1 s.size))
          have hrow6 := hrow5.mv (mv_set3 w5 w.heap.size (.string ⟨N.1.toArray⟩) (.slice A n c) (.string (s.extract k1 s.size))) (by omega)
          generalize World.setCell (World.setCell (World.setCell _ _ _) _ _) _ _ = W at *
          exact bodyPost_ret (v := .tuple #[.agg #[.string ⟨N.1.toArray⟩, .slice A n c, .string (s.extract k1 s.size)], .int .i64 0]) (by simp [results, Tryd.results57, go_sem, y0, y1, y2]) rfl
            (.inl ⟨_, A, n, c, _, HOk.out, by rw [HEx.out], hm8.below hbw, hr5.below hbw hbl, hrow6⟩)
        · have HNo : Hid (Ln.rl s.data.toList = none) := Lib.hid (by rw [HVx.out, Ln.rlB_bad (by rw [etl]; exact hcl)])
          rw [decide_eq_false hcl] at cF
          clear h58 etl hcl HVx
          go_wp2_with fail
          refine cT.mono ?_
          rintro e w3 ⟨rfl, hm5, hr3⟩
          have hbx3 := hbx2.mv hm5 (by omega)
          have hm6 := hm4.trans hm5
          have ht3 := ht2.mv hm5 hbh
          clear hrow2 hbx2 hm4 ht2 hr2 cT
          have HR3 := Lib.hid hr3
          obtain ⟨d0, d1, d2⟩ := hr3
          go_wp2_with fail
          go_region_held3 (fun w' => w'.cell? ⟨b, 0, none⟩ = some (.string s) ∧ w'.cell? ⟨b, 1, none⟩ = some (.int .i64 (k1 : Int)))
            (first | exact ⟨d0, d1⟩ | exact ⟨p0, p1⟩)
            (first | (go_at_call 62; refine (cC _).mono ?_; rintro e w4 ⟨rfl, hg4⟩; have hg5 := (Gr.refl w3).drew.trans hg4; have hr4 := HR3.out.keep hg5; have HR4 := Lib.hid hr4; obtain ⟨p0, p1, p2⟩ := hr4))
          have hbx4 := hbx3.gr hg5
          have hm7 := hm6.trans (hg5.mv b)
          have ht4 := ht3.keep hg5
          clear hbx3 hm6 ht3
          go_wp2_with fail
          refine (cF w4 ht4).mono ?_
          rintro e w5 ⟨rfl, hg6⟩
          have hbx5 := hbx4.gr hg6
          have hm8 := hm7.trans (hg6.mv b)
          have hr5 := HR4.out.keep hg6
          have HX := Lib.hid hbx5
          obtain ⟨x0, x1, x2, f0, f1, f2⟩ := hbx5
          clear hbx4 hm7 ht4 d0 d1 d2 p0 p1 p2
          go_wp2
          obtain ⟨y0, y1, y2⟩ := HX.out.set3 (.string ⟨#[]⟩) (.slice none 0 0) (.string ⟨#[]⟩)
          have hbw := below_set3 (w := w5) (Nat.le_refl w.heap.size) (.string ⟨#[]⟩) (.slice none 0 0) (.string ⟨#[]⟩)
          generalize World.setCell (World.setCell (World.setCell _ _ _) _ _) _ _ = W at *
          exact bodyPost_ret (v := .tuple #[.agg #[.string ⟨#[]⟩, .slice none 0 0, .string ⟨#[]⟩], .int .i64 7]) (by simp [results, Tryd.results57, go_sem, y0, y1, y2]) rfl (li_err HNo.out 7 rfl (hm8.below hbw) (hr5.below hbw hbl))
      · have cT := take_f b s k 58 58 rfl w2 hr2 hk h58
        have HNo : Hid (Ln.rl s.data.toList = none) := Lib.hid (by rw [HVx.out, Ln.rlB_colon h58])
        clear h58 HVx
        go_wp2_with fail
        refine cT.mono ?_
        rintro e w3 ⟨rfl, hg3⟩
        have hbx3 := hbx2.gr hg3
        have hm6 := hm4.trans (hg3.mv b)
        have hr3 := hr2.keep hg3
        have HX := Lib.hid hbx3
        obtain ⟨x0, x1, x2, f0, f1, f2⟩ := hbx3
        go_wp2
        obtain ⟨y0, y1, y2⟩ := HX.out.set3 (.string ⟨#[]⟩) (.slice none 0 0) (.string ⟨#[]⟩)
        have hbw := below_set3 (w := w3) (Nat.le_refl w.heap.size) (.string ⟨#[]⟩) (.slice none 0 0) (.string ⟨#[]⟩)
        generalize World.setCell (World.setCell (World.setCell _ _ _) _ _) _ _ = W at *
        exact bodyPost_ret (v := .tuple #[.agg #[.string ⟨#[]⟩, .slice none 0 0, .string ⟨#[]⟩], .int .i64 5]) (by simp [results, Tryd.results57, go_sem, y0, y1, y2]) rfl (li_err HNo.out 5 rfl (hm6.below hbw) (hr3.below hbw hbl))
theorem line_any (b : Nat) (s : ByteArray) (w : World) (h : RB w b s 0) (ht : Tab w) (hbh : Hi b) (hs : s.size ≤ 400000) :
    Calls Tryd.prog 57 #[.pointer (some ⟨b, 0, none⟩)] w (LiPost b s s.data.toList w) := by
  by_cases hx : (Ln.nm 60 s.data.toList).1 = []
  · exact line_noname b s w h hs hx
  · exact line_yes b s w h ht hbh hs hx
end Go.Proofs.YtbfngdpdgmgfpaaDoor
namespace Go.Proofs.YtbfngdpdgmgfpaaDoor
open Go.RowKit

namespace Ln
theorem rp_long {s : List UInt8} (h : 2000 < s.length) : rp s = none := by rw [rp_rl, if_pos h]
theorem rp_utf {s : List UInt8} (h : Lib.validD s = false) : rp s = none := by
  rw [rp_rl]; split
  · rfl
  · rfl
theorem rp_ok {s : List UInt8} (h : s.length ≤ 2000) (h2 : Lib.validD s = true) : rp s = rl s := by rw [rp_rl, if_neg (by omega), if_neg (by simp [h2])]
end Ln
theorem PRow.cap {w : World} {B : Nat} {P : Nat → Prop} {e : TypeId} {A : Option Addr} {n c : Nat} {ps : List Ln.Par} (h : PRow w B P e A n c ps) : n ≤ c := by
  obtain ⟨xs, h1, _⟩ := h
  rcases h1.2 with ⟨hn, rfl⟩ | ⟨g, cap, cur, hv, _, _, hc, _⟩
  · exact Nat.zero_le _
  · injection hv with _ _ h3; omega
/- what Parse leaves behind: a line, or an error -/
def PsPost (L : List UInt8) (w : World) (e : Ending) (w' : World) : Prop :=
  (∃ l A n c, Ln.rp L = some l ∧ e = .returned (.tuple #[.agg #[.string ⟨l.name.toArray⟩, .slice A n c, .string ⟨l.value.toArray⟩], .int .i64 0, .int .i64 0]) ∧ Gr w w' ∧ Pars w' w'.heap.size A n l.ps ∧ n ≤ c) ∨
  (Ln.rp L = none ∧ ∃ E m : Int, e = .returned (.tuple #[.agg #[.string ⟨#[]⟩, .slice none 0 0, .string ⟨#[]⟩], .int .i64 m, .int .i64 E]) ∧ (E != 0) = true ∧ Gr w w')
/- .. in memory of its own -/
def PsPostF (L : List UInt8) (w : World) (e : Ending) (w' : World) : Prop :=
  (∃ l A n c, Ln.rp L = some l ∧ e = .returned (.tuple #[.agg #[.string ⟨l.name.toArray⟩, .slice A n c, .string ⟨l.value.toArray⟩], .int .i64 0, .int .i64 0]) ∧ Gr w w' ∧ Fp (fun x => w.heap.size ≤ x) w' (fun v => Pars v v.heap.size A n l.ps) ∧ n ≤ c) ∨
  (Ln.rp L = none ∧ ∃ E m : Int, e = .returned (.tuple #[.agg #[.string ⟨#[]⟩, .slice none 0 0, .string ⟨#[]⟩], .int .i64 m, .int .i64 E]) ∧ (E != 0) = true ∧ Gr w w')
theorem RB.new (w : World) (s : ByteArray) (t : TypeId) : RB (w.alloc (.cells #[.string s, .int .i64 0] t)) w.heap.size s 0 :=
  ⟨by simp, by simp, by rw [frozen?_alloc_cells]; simp [World.frozen?]⟩
set_option maxHeartbeats 4000000 in
set_option maxRecDepth 100000 in
theorem parse_fr (s : ByteArray) (w : World) (ht : Tab w) (hs : s.size ≤ 140737488355328) :
    Calls Tryd.prog 35 #[.string s] w (PsPostF s.data.toList w) := by
  have hgl := ht.lt
  have hg0 : Gr w (w.alloc (.cells #[.string ⟨#[]⟩, .slice none 0 0, .string ⟨#[]⟩] 48)) := (Gr.refl w).allocO _
  have hx0 := Bx3.new w (.string ⟨#[]⟩) (.slice none 0 0) (.string ⟨#[]⟩) 48
  have hsz := Lib.size_eq s
  by_cases hlong : 2000 < s.size
  · have HNo := Lib.hid (Ln.rp_long (s := s.data.toList) (by omega))
    have hli : (2000 : Int) < (s.size : Int) := by omega
    clear hsz hlong
    go_enter Tryd.func35, Tryd.ntmps35
    go_wp2
    exact bodyPost_ret (v := .tuple #[.agg #[.string ⟨#[]⟩, .slice none 0 0, .string ⟨#[]⟩], .int .i64 0, .int .i64 4]) (by simp [results, Tryd.results35, go_sem]) rfl (.inr ⟨HNo.out, 4, 0, rfl, rfl, hg0⟩)
  · have hli : ¬ (2000 : Int) < (s.size : Int) := by omega
    have cV := valid_any s _ (ht.keep hg0) (by omega)
    cases hv : Lib.validD s.data.toList
    · have HNo := Lib.hid (Ln.rp_utf (s := s.data.toList) hv)
      rw [hv] at cV
      clear hsz hv
      go_enter Tryd.func35, Tryd.ntmps35
      go_wp2_with fail
      refine cV.mono ?_
      rintro e w1 ⟨rfl, hg1⟩
      have hx1 := hx0.gr hg1
      have hg2 := hg0.trans hg1
      clear hx0
      have HX := Lib.hid hx1
      obtain ⟨x0, x1, x2, f0, f1, f2⟩ := hx1
      go_wp2
      obtain ⟨y0, y1, y2⟩ := HX.out.set3 (.string ⟨#[]⟩) (.slice none 0 0) (.string ⟨#[]⟩)
      have hbw := below_set3 (w := w1) (Nat.le_refl w.heap.size) (.string ⟨#[]⟩) (.slice none 0 0) (.string ⟨#[]⟩)
      generalize World.setCell (World.setCell (World.setCell _ _ _) _ _) _ _ = W at *
      exact bodyPost_ret (v := .tuple #[.agg #[.string ⟨#[]⟩, .slice none 0 0, .string ⟨#[]⟩], .int .i64 0, .int .i64 3]) (by simp [results, Tryd.results35, go_sem, y0, y1, y2]) rfl (.inr ⟨HNo.out, 3, 0, rfl, rfl, ⟨hg2.below.trans hbw⟩⟩)
    · have HP := Lib.hid (Ln.rp_ok (s := s.data.toList) (by omega) hv)
      rw [hv] at cV
      clear hsz hv
      go_enter Tryd.func35, Tryd.ntmps35
      go_wp2_with fail
      refine cV.mono ?_
      rintro e w1 ⟨rfl, hg1⟩
      have hx1 := hx0.gr hg1
      have hg2 := hg0.trans hg1
      have hsz1 := hx1.lt
      have ht1 := ht.keep hg2
      have hr1 := RB.new w1 s 94
      have hg3 : Gr w1 (w1.alloc (.cells #[.string s, .int .i64 0] 94)) := (Gr.refl w1).allocO _
      have cL := line_any w1.heap.size s _ hr1 (ht1.keep hg3) ⟨by omega, by omega⟩ (by omega)
      have hx2 := hx1.gr hg3
      have hg4 := hg2.trans hg3
      clear hx0 cV hx1 hg2
      go_wp2_with fail
      refine cL.mono ?_
      rintro e w2 (⟨l, A, n, c, j, hl, rfl, hm, hr2, hrow⟩ | ⟨hl, E, j, rfl, hE, hm, hr2⟩)
      · have hx3 := hx2.mv hm (by omega)
        have hb2 : Below w.heap.size w w2 := hg4.below.trans (hm.low (by omega) (by have := hg4.lt; omega))
        have hg5 : Gr w2 (w2.alloc (.cells #[.string ⟨l.name.toArray⟩, .slice A n c, .string ⟨l.value.toArray⟩] 48)) := (Gr.refl w2).allocO _
        have hx4 := hx3.gr hg5
        have hrow4 := hrow.gr hg5
        have hb4 := hb2.trans (hg5.low (by have := hb2.size; omega))
        have HL : Hid (Ln.rp s.data.toList = some l) := Lib.hid (HP.out.trans hl)
        have hB : (w1.alloc (.cells #[.string s, .int .i64 0] 94)).heap.size = w1.heap.size + 1 := by simp
        rw [hB] at hrow4
        clear hx2 hg4 cL hr1 hx3 hb2 hrow hl hm hr2
        have HX := Lib.hid hx4
        obtain ⟨x0, x1, x2, f0, f1, f2⟩ := hx4
        go_wp2
        obtain ⟨y0, y1, y2⟩ := HX.out.set3 (.string ⟨l.name.toArray⟩) (.slice A n c) (.string ⟨l.value.toArray⟩)
        have hbw := below_set3 (w := (w2.alloc (.cells #[.string ⟨l.name.toArray⟩, .slice A n c, .string ⟨l.value.toArray⟩] 48))) (Nat.le_refl w.heap.size) (.string ⟨l.name.toArray⟩) (.slice A n c) (.string ⟨l.value.toArray⟩)
        have hrow5 := hrow4.mv (mv_set3 _ w.heap.size (.string ⟨l.name.toArray⟩) (.slice A n c) (.string ⟨l.value.toArray⟩)) (by omega)
        generalize World.setCell (World.setCell (World.setCell _ _ _) _ _) _ _ = W at *
        exact bodyPost_ret (v := .tuple #[.agg #[.string ⟨l.name.toArray⟩, .slice A n c, .string ⟨l.value.toArray⟩], .int .i64 0, .int .i64 0]) (by simp [results, Tryd.results35, go_sem, y0, y1, y2]) rfl (.inl ⟨l, A, n, c, HL.out, rfl, ⟨hb4.trans hbw⟩, hrow5.fp (fun x (hx : _ ≤ x) => by omega) (fun x hx => by omega), hrow5.cap⟩)
      · have hx3 := hx2.mv hm (by omega)
        have hb2 : Below w.heap.size w w2 := hg4.below.trans (hm.low (by omega) (by have := hg4.lt; omega))
        have hg5 : Gr w2 (w2.alloc (.cells #[.string ⟨#[]⟩, .slice none 0 0, .string ⟨#[]⟩] 48)) := (Gr.refl w2).allocO _
        have hx4 := hx3.gr hg5
        have hb4 := hb2.trans (hg5.low (by have := hb2.size; omega))
        have hr4 := hr2.keep hg5
        have HNo : Hid (Ln.rp s.data.toList = none) := Lib.hid (HP.out.trans hl)
        clear hx2 hg4 cL hr1 hx3 hb2 hl hm hr2
        have HX := Lib.hid hx4
        obtain ⟨x0, x1, x2, f0, f1, f2⟩ := hx4
        obtain ⟨d0, d1, d2⟩ := hr4
        go_wp2
        go_region
        go_wp2
        obtain ⟨y0, y1, y2⟩ := HX.out.set3 (.string ⟨#[]⟩) (.slice none 0 0) (.string ⟨#[]⟩)
        have hbw := below_set3 (w := (w2.alloc (.cells #[.string ⟨#[]⟩, .slice none 0 0, .string ⟨#[]⟩] 48))) (Nat.le_refl w.heap.size) (.string ⟨#[]⟩) (.slice none 0 0) (.string ⟨#[]⟩)
        generalize World.setCell (World.setCell (World.setCell _ _ _) _ _) _ _ = W at *
        exact bodyPost_ret (v := .tuple #[.agg #[.string ⟨#[]⟩, .slice none 0 0, .string ⟨#[]⟩], .int .i64 (j : Int), .int .i64 E]) (by simp [results, Tryd.results35, go_sem, y0, y1, y2]) rfl (.inr ⟨HNo.out, E, j, rfl, hE, ⟨(hb4.trans hbw).drew⟩⟩)
theorem parse_any (s : ByteArray) (w : World) (ht : Tab w) (hs : s.size ≤ 140737488355328) :
    Calls Tryd.prog 35 #[.string s] w (PsPost s.data.toList w) :=
  (parse_fr s w ht hs).mono fun _ _ h => by
    rcases h with ⟨l, A, n, c, h1, h2, h3, h4, h5⟩ | h
    · exact .inl ⟨l, A, n, c, h1, h2, h3, h4.now, h5⟩
    · exact .inr h
end Go.Proofs.YtbfngdpdgmgfpaaDoor
namespace Go.Proofs.YtbfngdpdgmgfpaaDoor
open Go.RowKit

structure After (W : World) where
  wd : World
  gr : Gr W wd
instance afterNonempty (W : World) : Nonempty (After W) := ⟨⟨W, Gr.refl W⟩⟩
theorem wp_region_after {id : Nat} {Q : Exit → Act → World → Prop} {a : Act} {W : World} {l : List Oper} (hm : Tryd.prog.follows .mixedOrders = true) (hB : Region.lexB .any l.toArray = true)
    (h : wpQuiet Tryd.prog l.toArray (fun w' => ∃ u : After W, w' = u.wd) (fun a' => ∀ w', (∃ u : After W, w' = u.wd) → Q .normal a' w') l a) : (Code.region id l.toArray true).wp Tryd.prog Q a W :=
  wp_region_quiet (C := fun w' => ∃ u : After W, w' = u.wd) hm hB ⟨⟨_, (Gr.refl W).drew⟩, rfl⟩ (by simpa using h)
theorem qafter {f : FuncId} {args : Array Value} {W : World} {u : After W} {v : Value} (h : Calls Tryd.prog f args u.wd fun e w' => e = .returned v ∧ Gr u.wd w') :
    Calls Tryd.prog f args u.wd fun e w'' => e = .returned v ∧ ∃ u' : After W, w'' = u'.wd := h.mono fun _ w' ⟨he, hg⟩ => ⟨he, ⟨w', u.gr.trans hg⟩, rfl⟩
theorem after_cell {W : World} {p : Addr} {v : Value} (h : W.cell? p = some v) (u : After W) : u.wd.cell? p = some v := (u.gr.below.cell (World.block_lt_of_cell? _ _ h)).trans h
namespace Ln
theorem Ixp.uniq {ps : List Par} {nm : List UInt8} {v v' : Int} (h : Ixp ps nm v) (h' : Ixp ps nm v') : v = v' := by
  have key : ∀ i (hi : i < ps.length), ps[i].1 = nm → ∀ j, i < j → nm ∈ (ps.take j).map Prod.fst := fun i hi e j hij =>
    List.mem_map.2 ⟨ps[i], by rw [List.mem_take_iff_getElem]; exact ⟨i, by omega, rfl⟩, e⟩
  rcases h with ⟨rfl, h⟩ | ⟨i, hi, rfl, h1, h2⟩ <;> rcases h' with ⟨rfl, h'⟩ | ⟨j, hj, rfl, h3, h4⟩
  · rfl
  · exact absurd (List.mem_map.2 ⟨ps[j], List.getElem_mem hj, h3⟩) h
  · exact absurd (List.mem_map.2 ⟨ps[i], List.getElem_mem hi, h1⟩) h'
  · rcases Nat.lt_trichotomy i j with h | h | h
    · exact absurd (key i hi h1 j h) h4
    · rw [h]
    · exact absurd (key j hj h3 i h) h2
theorem Ixp.ex (ps : List Par) (nm : List UInt8) : ∃ v, Ixp ps nm v := by
  induction ps with
  | nil => exact ⟨-1, .inl ⟨rfl, by simp⟩⟩
  | cons p ps ih =>
    by_cases hp : p.1 = nm
    · exact ⟨0, .inr ⟨0, by simp, rfl, hp, by simp⟩⟩
    · obtain ⟨v, h⟩ := ih
      rcases h with ⟨rfl, h⟩ | ⟨i, hi, rfl, h1, h2⟩
      · exact ⟨-1, .inl ⟨rfl, by simp only [List.map_cons, List.mem_cons, not_or]; exact ⟨fun e => hp e.symm, h⟩⟩⟩
      · exact ⟨((i + 1 : Nat) : Int), .inr ⟨i + 1, by simpa using hi, rfl, by simpa using h1, by simp only [List.take_succ_cons, List.map_cons, List.mem_cons, not_or]; exact ⟨fun e => hp e.symm, h2⟩⟩⟩
noncomputable def ixv (ps : List Par) (nm : List UInt8) : Int := (Ixp.ex ps nm).choose
theorem ixv_is (ps : List Par) (nm : List UInt8) : Ixp ps nm (ixv ps nm) := (Ixp.ex ps nm).choose_spec
end Ln
theorem index_val (name : ByteArray) (A : Option Addr) (n c : Nat) (ps : List Ln.Par) (w : World) (hP : Pars w w.heap.size A n ps) (hn : n ≤ 140737488355328) :
    Calls Tryd.prog 73 #[.slice A n c, .string name] w fun e w' => e = .returned (.int .i64 (Ln.ixv ps name.data.toList)) ∧ Gr w w' :=
  (index_any name A n c ps w hP hn).mono fun _ _ ⟨v, h1, h2, h3⟩ => ⟨by rw [h1, h2.uniq (Ln.ixv_is _ _)], h3⟩
end Go.Proofs.YtbfngdpdgmgfpaaDoor
namespace Go.Proofs.YtbfngdpdgmgfpaaDoor
open Go.RowKit

namespace Ln
theorem nameB_empty : nameB [] = false := rfl
theorem nameB_long {s : List UInt8} (h : 60 < s.length) : nameB s = false := by
  unfold nameB; rw [decide_eq_false (by omega : ¬ s.length ≤ 60)]; simp
theorem nameB_bad {s : List UInt8} {b : UInt8} (h : b ∈ s) (hb : inN b = false) : nameB s = false := by
  unfold nameB
  have : s.all inN = false := by rw [List.all_eq_false]; exact ⟨b, h, by simp [hb]⟩
  rw [this]; simp
theorem nameB_ok {s : List UInt8} (h0 : 0 < s.length) (h1 : s.length ≤ 60) (h : s.all inN = true) : nameB s = true := (nameB_iff s).2 ⟨h0, h1, h⟩
end Ln
theorem all_at {s : ByteArray} {i : Nat} (h : i < s.size) (h0 : (s.data.toList.take i).all Ln.inN = true) (hb : Ln.inN s[i] = true) : (s.data.toList.take (i + 1)).all Ln.inN = true := by
  rw [take_at s i h, List.all_append, h0]; simp [hb]
theorem at_mem (s : ByteArray) (i : Nat) (h : i < s.size) : s[i] ∈ s.data.toList := List.mem_of_getElem? (at_toNat s i h)
set_option maxHeartbeats 2000000 in
set_option maxRecDepth 100000 in
theorem lname_any (s : ByteArray) (w : World) :
    Calls Tryd.prog 49 #[.string s] w fun e w' => e = .returned (.bool (Ln.nameB s.data.toList)) ∧ w = w' := by
  have hsz := Lib.size_eq s
  rcases Nat.eq_zero_or_pos s.size with h0 | h0
  · have hem := emp_t s h0
    rw [empty_list s h0]
    clear hsz h0
    go_enter Tryd.func49, Tryd.ntmps49
    go_wp2
    go_ret
    exact ⟨rfl, rfl⟩
  · have hem := emp_f s h0
    by_cases h60 : 60 < s.size
    · rw [Ln.nameB_long (by omega)]
      have hi : (60 : Int) < (s.size : Int) := by omega
      clear hsz h60
      go_enter Tryd.func49, Tryd.ntmps49
      go_wp2
      go_ret
      exact ⟨rfl, rfl⟩
    · have hi60 : ¬ (60 : Int) < (s.size : Int) := by omega
      have HB := Lib.hid (fun b h hb => Ln.nameB_bad (s := s.data.toList) (b := b) h hb)
      have HO := Lib.hid (fun h => Ln.nameB_ok (s := s.data.toList) (by omega) (by omega) h)
      generalize Ln.nameB s.data.toList = E at *
      clear hsz
      go_enter Tryd.func49, Tryd.ntmps49
      go_wp2
      go_loopg [13] s.size (fun g v wx => ∃ i : Nat, v = .int .i64 (i : Int) ∧ i + g = s.size ∧ w = wx ∧ Hid ((s.data.toList.take i).all Ln.inN = true))
      case atStart => exact ⟨0, rfl, by omega, rfl, Lib.hid (by simp)⟩
      case round =>
        obtain ⟨i, rfl, hig, rfl, HN⟩ := hrel
        have HG := Lib.hid hig
        clear hig
        by_cases hi : i < s.size
        · have cI := fun w => inName_any s[i] w
          cases hin : Ln.inN s[i]
          · have HE := Lib.hid (HB.out _ (at_mem s i hi) hin)
            rw [hin] at cI
            clear hin
            go_wp2_with (go_at_call 70; refine (cI _).mono ?_; rintro e w' ⟨rfl, rfl⟩)
            go_ret
            exact ⟨ret_bool HE.out.symm, rfl⟩
          · have HE := Lib.hid (all_at hi HN.out hin)
            rw [hin] at cI
            clear hin
            go_wp2_with (go_at_call 70; refine (cI _).mono ?_; rintro e w' ⟨rfl, rfl⟩)
            go_roundg (s.size - (i + 1))
            case measure => have := HG.out; omega
            case rel => exact ⟨i + 1, by go_num, by omega, rfl, HE⟩
        · have he := HN.out
          rw [take_end s i (by omega)] at he
          have HE := Lib.hid (HO.out he)
          obtain rfl : i = s.size := by have := HG.out; omega
          clear he
          go_wp2
          go_ret
          exact ⟨ret_bool HE.out.symm, rfl⟩
namespace Ln
theorem parB_name {p : Par} (h : nameB p.1 = false) : parB p = false := by unfold parB; rw [h]; simp
theorem parB_zero {p : Par} (h : p.2.length = 0) : parB p = false := by unfold parB; rw [h]; simp
theorem parB_many {p : Par} (h : 60 < p.2.length) : parB p = false := by unfold parB; rw [decide_eq_false (by omega : ¬ p.2.length ≤ 60)]; simp
theorem parB_bad {p : Par} {v : List UInt8} (h : v ∈ p.2) (hv : Es.clE true v ≠ 0) : parB p = false := by
  cases e : parB p
  · rfl
  · exact absurd (((parB_iff p).1 e).2.2.2 v h) hv
theorem parB_ok {p : Par} (h : nameB p.1 = true) (h0 : 0 < p.2.length) (h1 : p.2.length ≤ 60) (h2 : ∀ v ∈ p.2, Es.clE true v = 0) : parB p = true := (parB_iff p).2 ⟨h, h0, h1, h2⟩
end Ln
theorem all_take {vs : List (List UInt8)} {k : Nat} (hk : k < vs.length) (h : ∀ v ∈ vs.take k, Es.clE true v = 0) (h2 : Es.clE true vs[k] = 0) : ∀ v ∈ vs.take (k + 1), Es.clE true v = 0 := by
  intro v hv
  rw [List.take_succ_eq_append_getElem hk] at hv
  rcases List.mem_append.1 hv with hv | hv
  · exact h v hv
  · rw [List.mem_singleton.1 hv]; exact h2
set_option maxHeartbeats 4000000 in
set_option maxRecDepth 100000 in
theorem fpar_any (a : ByteArray) (A : Option Addr) (n c : Nat) (vs : List (List UInt8)) (w : World) (ht : Tab w) (hS : Strs w w.heap.size A n vs) (hl : n ≤ 60 → ∀ v ∈ vs, v.length ≤ 400000) (hn : n ≤ 140737488355328) :
    Calls Tryd.prog 72 #[.agg #[.string a, .slice A n c]] w fun e w' => e = .returned (.bool (Ln.parB (a.data.toList, vs))) ∧ Gr w w' := by
  have hlen : vs.length = n := hS.1
  have hg0 : Gr w (w.alloc (.cells #[.string a, .slice A n c] 79)) := (Gr.refl w).allocO _
  have cN := fun w => lname_any a w
  cases hnm : Ln.nameB a.data.toList
  · rw [Ln.parB_name hnm]
    rw [hnm] at cN
    clear hnm
    go_enter Tryd.func72, Tryd.ntmps72
    go_wp2_with (go_at_call 49; refine (cN _).mono ?_; rintro e w' ⟨rfl, rfl⟩)
    go_ret
    exact ⟨rfl, hg0⟩
  · rw [hnm] at cN
    rcases Nat.eq_zero_or_pos n with h0 | h0
    · rw [Ln.parB_zero (by rw [← h0]; exact hlen)]
      have hq : ((n : Int) == 0) = true := by rw [beq_iff_eq]; omega
      clear hnm h0
      go_enter Tryd.func72, Tryd.ntmps72
      go_wp2_with (go_at_call 49; refine (cN _).mono ?_; rintro e w' ⟨rfl, rfl⟩)
      go_ret
      exact ⟨rfl, hg0⟩
    · have hq : ((n : Int) == 0) = false := by rw [beq_eq_false_iff_ne]; omega
      by_cases h60 : 60 < n
      · rw [Ln.parB_many (by show 60 < vs.length; omega)]
        have hi60 : (60 : Int) < (n : Int) := by omega
        clear hnm
        go_enter Tryd.func72, Tryd.ntmps72
        go_wp2_with (go_at_call 49; refine (cN _).mono ?_; rintro e w' ⟨rfl, rfl⟩)
        go_ret
        exact ⟨rfl, hg0⟩
      · have hi60 : ¬ (60 : Int) < (n : Int) := by omega
        have HB := Lib.hid (fun v h hv => Ln.parB_bad (p := (a.data.toList, vs)) (v := v) h hv)
        have HO := Lib.hid (fun h => Ln.parB_ok (p := (a.data.toList, vs)) hnm (by show 0 < vs.length; omega) (by show vs.length ≤ 60; omega) h)
        have HL := Lib.hid hlen
        generalize Ln.parB (a.data.toList, vs) = E at *
        clear hnm hlen
        have hS0 := hS.keep hg0.below
        go_enter Tryd.func72, Tryd.ntmps72
        go_wp2_with (go_at_call 49; refine (cN _).mono ?_; rintro e w' ⟨rfl, rfl⟩)
        go_loopg [26] n (fun g v wx => ∃ k : Nat, v = .int .i64 (k : Int) ∧ k + g = n ∧ Gr w wx ∧ Hid (∀ v ∈ vs.take k, Es.clE true v = 0))
        case atStart => exact ⟨0, rfl, by omega, hg0, Lib.hid (by simp)⟩
        case round =>
          obtain ⟨k, rfl, hkg, hg, HN⟩ := hrel
          have HG := Lib.hid hkg
          clear hkg
          by_cases hk : k < n
          · obtain ⟨ad, hk', rfl, hbl, hcell⟩ := (hS.keep hg.below).at_ hk
            have hle := hl (by omega) _ (List.getElem_mem hk')
            have cP := param_any ⟨vs[k].toArray⟩ wr (ht.keep hg) (by rw [size_mk]; exact hle)
            have e1 : (ByteArray.mk vs[k].toArray).data.toList = vs[k] := rfl
            rw [e1] at cP
            by_cases hE : Es.clE true vs[k] = 0
            · have HE := Lib.hid (all_take hk' HN.out hE)
              rw [hE] at cP
              clear hE e1 hle
              generalize (ByteArray.mk vs[k].toArray) = s at *
              go_wp2_with (go_at_call 65; refine cP.mono ?_; rintro e w1 ⟨rfl, hg1⟩)
              go_roundg (n - (k + 1))
              case measure => have := HG.out; omega
              case rel => exact ⟨k + 1, by go_num, by omega, hg.trans hg1, HE⟩
            · have HE := Lib.hid (HB.out _ (List.getElem_mem hk') hE)
              have hEn : ((Es.clE true vs[k] : Int) != 0) = true := by simpa using hE
              clear hE e1 hle
              generalize (ByteArray.mk vs[k].toArray) = s at *
              generalize Es.clE true vs[k] = X at *
              go_wp2_with (go_at_call 65; refine cP.mono ?_; rintro e w1 ⟨rfl, hg1⟩)
              go_ret
              exact ⟨ret_bool HE.out.symm, hg.trans hg1⟩
          · obtain rfl : k = n := by have := HG.out; omega
            have he := HN.out
            rw [List.take_of_length_le (by rw [HL.out]; exact Nat.le_refl _)] at he
            have HE := Lib.hid (HO.out he)
            clear he
            go_wp2
            go_ret
            exact ⟨ret_bool HE.out.symm, hg⟩
end Go.Proofs.YtbfngdpdgmgfpaaDoor
namespace Go.Proofs.YtbfngdpdgmgfpaaDoor
open Go.RowKit

namespace Ln
/- the values that are looked at are of a size that is borne -/
def Calm (ps : List Par) : Prop := ∀ k (hk : k < ps.length), psB (ps.take k) = true → ps[k].2.length ≤ 60 → ∀ v ∈ ps[k].2, v.length ≤ 400000
theorem formed_name {l : Li} (h : nameB l.name = false) : formed l = false := by unfold formed; rw [h]; simp
theorem formed_many {l : Li} (h : 60 < l.ps.length) : formed l = false := by unfold formed; rw [decide_eq_false (by omega : ¬ l.ps.length ≤ 60)]; simp
theorem formed_val {l : Li} (h : Es.clE false l.value ≠ 0) : formed l = false := by unfold formed; rw [decide_eq_false h]; simp
theorem formed_ps {l : Li} (h : psB l.ps = false) : formed l = false := by unfold formed; rw [h]; simp
theorem formed_ok {l : Li} (h1 : nameB l.name = true) (h2 : l.ps.length ≤ 60) (h3 : Es.clE false l.value = 0) (h4 : psB l.ps = true) : formed l = true := (formed_iff l).2 ⟨h1, h2, h3, h4⟩
theorem calm_of {ps : List Par} (h : wtPs ps ≤ 400000) : Calm ps := fun k hk _ _ v hv => by
  have h1 := wtPs_mem (List.getElem_mem hk)
  unfold wtP at h1
  have h2 := wtV_mem hv
  omega
theorem wt_val {ps : List Par} {k : Nat} (hk : k < ps.length) : (∀ v ∈ ps[k].2, v.length ≤ wtPs ps) ∧ ps[k].2.length ≤ wtPs ps ∧ ps[k].1.length ≤ wtPs ps := by
  have h1 := wtPs_mem (List.getElem_mem hk)
  unfold wtP at h1
  have h2 := wtV_len ps[k].2
  exact ⟨fun v hv => by have := wtV_mem hv; omega, by omega, by omega⟩
end Ln
set_option maxHeartbeats 4000000 in
set_option maxRecDepth 100000 in
theorem formed_any (N V : ByteArray) (A : Option Addr) (n c : Nat) (ps : List Ln.Par) (w : World) (ht : Tab w) (hP : Pars w w.heap.size A n ps) (hnc : n ≤ c) (hC : Ln.Calm ps) (hvn : ∀ p ∈ ps, p.2.length ≤ 140737488355328) (hV : V.size ≤ 140737488355328) :
    Calls Tryd.prog 50 #[.agg #[.string N, .slice A n c, .string V]] w fun e w' => e = .returned (.bool (Ln.formed ⟨N.data.toList, ps, V.data.toList⟩)) ∧ Gr w w' := by
  have hlen : ps.length = n := hP.1
  have hg0 : Gr w (w.alloc (.cells #[.string N, .slice A n c, .string V] 48)) := (Gr.refl w).allocO _
  have hx0 := Bx3.new w (.string N) (.slice A n c) (.string V) 48
  have cN := fun w => lname_any N w
  cases hnm : Ln.nameB N.data.toList
  · rw [Ln.formed_name (l := ⟨N.data.toList, ps, V.data.toList⟩) hnm]
    rw [hnm] at cN
    clear hnm
    go_enter Tryd.func50, Tryd.ntmps50
    go_wp2_with (go_at_call 49; refine (cN _).mono ?_; rintro e w' ⟨rfl, rfl⟩)
    go_ret
    exact ⟨rfl, hg0⟩
  · rw [hnm] at cN
    by_cases h60 : 60 < n
    · rw [Ln.formed_many (l := ⟨N.data.toList, ps, V.data.toList⟩) (by show 60 < ps.length; omega)]
      have hi60 : (60 : Int) < (n : Int) := by omega
      clear hnm
      go_enter Tryd.func50, Tryd.ntmps50
      go_wp2_with (go_at_call 49; refine (cN _).mono ?_; rintro e w' ⟨rfl, rfl⟩)
      go_ret
      exact ⟨rfl, hg0⟩
    · have hi60 : ¬ (60 : Int) < (n : Int) := by omega
      have cF := fval_any V _ (ht.keep hg0) hV
      by_cases hcl : Es.clE false V.data.toList = 0
      · rw [decide_eq_true hcl] at cF
        have HB := Lib.hid (fun h => Ln.formed_ps (l := ⟨N.data.toList, ps, V.data.toList⟩) h)
        have HO := Lib.hid (fun h => Ln.formed_ok (l := ⟨N.data.toList, ps, V.data.toList⟩) hnm (by show ps.length ≤ 60; omega) hcl h)
        have HL := Lib.hid hlen
        generalize Ln.formed ⟨N.data.toList, ps, V.data.toList⟩ = E at *
        clear hnm hlen hcl
        go_enter Tryd.func50, Tryd.ntmps50
        go_wp2_with (first
          | (go_at_call 49; refine (cN _).mono ?_; rintro e w' ⟨rfl, rfl⟩)
          | (go_at_call 71; refine cF.mono ?_; rintro e w1 ⟨rfl, hg1⟩; have hx1 := hx0.gr hg1; obtain ⟨a0, a1, a2, a3, a4, a5⟩ := hx1))
        have hg2 := hg0.trans hg1
        go_loopg [24] n (fun g v wx => ∃ k : Nat, v = .int .i64 (k : Int) ∧ k + g = n ∧ Gr w1 wx ∧ Hid (Ln.psB (ps.take k) = true))
        case atStart => exact ⟨0, rfl, by omega, Gr.refl _, Lib.hid (by rw [List.take_zero]; decide)⟩
        case round =>
          obtain ⟨k, rfl, hkg, hg3, HN⟩ := hrel
          have HG := Lib.hid hkg
          clear hkg
          have hg4 := hg2.trans hg3
          by_cases hk : k < n
          · have hPr := hP.gr hg4
            obtain ⟨ad, hk', rfl, hbl, hc0, A', n', c', hc1, hS⟩ := hPr.at_ hk
            have hcm := hC k hk' HN.out
            have hvk := hvn _ (List.getElem_mem hk')
            have HST := Lib.hid (Ln.psB_at ps k hk')
            have hx3 := (hx0.gr hg1).gr hg3
            have hg5 : Gr wr (wr.alloc (.cells #[.string ⟨ps[k].1.toArray⟩, .slice A' n' c'] 79)) := (Gr.refl wr).allocO _
            have hx5 := hx3.gr hg5
            have hy5 := Bx2.new wr (.string ⟨ps[k].1.toArray⟩) (.slice A' n' c') 79
            have hPc := (hPr.cut k (by omega)).gr hg5
            have hS5 : Strs _ _ A' n' ps[k].2 := (hS.keep hg5.below).more hg5.lt
            have ht5 := (ht.keep hg4).keep hg5
            have e1 : (ByteArray.mk ps[k].1.toArray).data.toList = ps[k].1 := rfl
            have cP := fun w1 (t1 : Tab w1) (s1 : Strs w1 w1.heap.size A' n' ps[k].2) => fpar_any ⟨ps[k].1.toArray⟩ A' n' c' ps[k].2 w1 t1 s1 (fun h6 => hcm (by rw [hS.1]; exact h6)) (by rw [← hS.1]; exact hvk)
            have cI := fun w1 (p1 : Pars w1 w1.heap.size (some ad) k (ps.take k)) => index_val ⟨ps[k].1.toArray⟩ (some ad) k c (ps.take k) w1 p1 (by omega)
            have hix := (Ln.ixv_is (ps.take k) ps[k].1).neg
            rw [e1] at cP cI
            have e2 : (ps[k].1, ps[k].2) = ps[k] := rfl
            rw [e2] at cP
            have hkc : (k : Int) ≤ (c : Int) := by omega
            cases hpb : Ln.parB ps[k]
            · have HE : Hid (E = false) := Lib.hid (HB.out (Ln.psB_no ps (k + 1) (by rw [HST.out, hpb]; simp)))
              rw [hpb] at cP
              clear hpb e1 e2 hcm hvk HST hix
              generalize (ByteArray.mk ps[k].1.toArray) = nb at *
              go_wp2_with fail
              generalize wr.alloc (.cells #[.string nb, .slice A' n' c'] 79) = W at *
              have y0 := after_cell hy5.c0
              have y1 := after_cell hy5.c1
              have x1 := after_cell hx5.c1
              refine wp_region_after (by kernel_rfl) (by kernel_rfl) ?_
              repeat (go_big_quiet_step (first
                | (go_at_call 72; exact qafter (cP _ (ht5.keep (by exact (After.gr _))) ((hS5.keep (Gr.below (by exact (After.gr _)))).more (Gr.lt (by exact (After.gr _))))))
                | (go_at_call 73; exact qafter (cI _ (hPc.gr (by exact (After.gr _)))))))
              refine wpQuiet_nil ?_
              rintro _ ⟨⟨w6, hg6⟩, rfl⟩
              go_wp2
              go_ret
              exact ⟨ret_bool HE.out.symm, (hg4.trans hg5).trans hg6⟩
            · rw [hpb] at cP
              cases hct : ((ps.take k).map Prod.fst).contains ps[k].1
              · have HE : Hid (Ln.psB (ps.take (k + 1)) = true) := Lib.hid (by rw [HST.out, hpb, hct, HN.out]; rfl)
                rw [hct] at hix
                generalize Ln.ixv (ps.take k) ps[k].1 = v at *
                have hv0 : v < 0 := Int.not_le.1 (of_decide_eq_false hix)
                clear hpb e1 e2 hcm hvk HST hct hix
                generalize (ByteArray.mk ps[k].1.toArray) = nb at *
                go_wp2_with fail
                generalize wr.alloc (.cells #[.string nb, .slice A' n' c'] 79) = W at *
                have y0 := after_cell hy5.c0
                have y1 := after_cell hy5.c1
                have x1 := after_cell hx5.c1
                refine wp_region_after (by kernel_rfl) (by kernel_rfl) ?_
                repeat (go_big_quiet_step (first
                  | (go_at_call 72; exact qafter (cP _ (ht5.keep (by exact (After.gr _))) ((hS5.keep (Gr.below (by exact (After.gr _)))).more (Gr.lt (by exact (After.gr _))))))
                  | (go_at_call 73; exact qafter (cI _ (hPc.gr (by exact (After.gr _)))))))
                refine wpQuiet_nil ?_
                rintro _ ⟨⟨w6, hg6⟩, rfl⟩
                go_wp2
                go_roundg (n - (k + 1))
                case measure => have := HG.out; omega
                case rel => exact ⟨k + 1, by go_num, by omega, (hg3.trans hg5).trans hg6, HE⟩
              · have HE : Hid (E = false) := Lib.hid (HB.out (Ln.psB_no ps (k + 1) (by rw [HST.out, hct]; simp)))
                rw [hct] at hix
                generalize Ln.ixv (ps.take k) ps[k].1 = v at *
                have hv0 : 0 ≤ v := of_decide_eq_true hix
                clear hpb e1 e2 hcm hvk HST hct hix
                generalize (ByteArray.mk ps[k].1.toArray) = nb at *
                go_wp2_with fail
                generalize wr.alloc (.cells #[.string nb, .slice A' n' c'] 79) = W at *
                have y0 := after_cell hy5.c0
                have y1 := after_cell hy5.c1
                have x1 := after_cell hx5.c1
                refine wp_region_after (by kernel_rfl) (by kernel_rfl) ?_
                repeat (go_big_quiet_step (first
                  | (go_at_call 72; exact qafter (cP _ (ht5.keep (by exact (After.gr _))) ((hS5.keep (Gr.below (by exact (After.gr _)))).more (Gr.lt (by exact (After.gr _))))))
                  | (go_at_call 73; exact qafter (cI _ (hPc.gr (by exact (After.gr _)))))))
                refine wpQuiet_nil ?_
                rintro _ ⟨⟨w6, hg6⟩, rfl⟩
                go_wp2
                go_ret
                exact ⟨ret_bool HE.out.symm, (hg4.trans hg5).trans hg6⟩
          · obtain rfl : k = n := by have := HG.out; omega
            have he := HN.out
            rw [List.take_of_length_le (by rw [HL.out]; exact Nat.le_refl _)] at he
            have HE := Lib.hid (HO.out he)
            clear he
            go_wp2
            go_ret
            exact ⟨ret_bool HE.out.symm, hg4⟩
      · rw [Ln.formed_val (l := ⟨N.data.toList, ps, V.data.toList⟩) hcl]
        rw [decide_eq_false hcl] at cF
        clear hnm hcl
        go_enter Tryd.func50, Tryd.ntmps50
        go_wp2_with (first
          | (go_at_call 49; refine (cN _).mono ?_; rintro e w' ⟨rfl, rfl⟩)
          | (go_at_call 71; refine cF.mono ?_; rintro e w1 ⟨rfl, hg1⟩))
        go_ret
        exact ⟨rfl, hg0.trans hg1⟩
end Go.Proofs.YtbfngdpdgmgfpaaDoor
