/- strings.ContainsAny at a set of bytes of ASCII, whatever the text. -/
import Derived.Test.YtpcmhaflmpcicaaDoorFdAny
namespace Go.Proofs.YtpcmhaflmpcicaaDoor
open Go.RowKit

/- a set of bytes of ASCII -/
theorem isEmpty_size2 (s : ByteArray) : s.data.toList.isEmpty = decide (s.size = 0) := by
  have := Lib.size_eq s
  cases h : s.data.toList with
  | nil => rw [h] at this; simp at this; simp [this]
  | cons a b => rw [h] at this; simp at this; simp [this]
structure Asc (cs : ByteArray) : Prop where
  low : ∀ b ∈ cs.data.toList, b.toNat < 128
  two : 2 ≤ cs.size
  few : cs.size ≤ 8
theorem Asc.at_ {cs : ByteArray} (h : Asc cs) (i : Nat) (hi : i < cs.size) : cs[i].toNat < 128 :=
  h.low _ (by
    have : i < cs.data.toList.length := by rw [← Lib.size_eq]; exact hi
    exact List.getElem_mem this)
namespace Fd
theorem enc_last (r : Int) (h : 128 ≤ r) :
    (∃ a b : UInt8, Utf8.encode r = ⟨#[a, b]⟩ ∧ 128 ≤ b.toNat) ∨ (∃ a b c : UInt8, Utf8.encode r = ⟨#[a, b, c]⟩ ∧ 128 ≤ c.toNat) ∨ (∃ a b c d : UInt8, Utf8.encode r = ⟨#[a, b, c, d]⟩ ∧ 128 ≤ d.toNat) := by
  unfold Utf8.encode
  simp only
  have hc : 128 ≤ (if Utf8.valid r = true then r.toNat else Utf8.runeError) := by
    split
    · omega
    · unfold Utf8.runeError; omega
  generalize (if Utf8.valid r = true then r.toNat else Utf8.runeError) = c at *
  rw [if_neg (by omega)]
  split
  · exact .inl ⟨_, _, rfl, by simp only [UInt8.toNat_ofNat']; omega⟩
  · split
    · exact .inr (.inl ⟨_, _, _, rfl, by simp only [UInt8.toNat_ofNat']; omega⟩)
    · exact .inr (.inr ⟨_, _, _, _, rfl, by simp only [UInt8.toNat_ofNat']; omega⟩)
end Fd
theorem idx_hi (s : ByteArray) (c : UInt8) (w : World) (h : ∀ b ∈ s.data.toList, b.toNat < 128) (hc : 128 ≤ c.toNat) :
    Calls Tryd.prog 46 #[.string s, .int .u8 (c.toNat : Int)] w fun e w' => e = .returned (.int .i64 (-1)) ∧ w = w' := by
  refine (Tryd.strings_IndexByte s _ w).mono ?_
  rintro e w' ⟨rfl, rfl⟩
  rw [Fd.idx_out]
  · exact ⟨rfl, rfl⟩
  · intro hm
    have := h _ hm
    simp at this
    omega
theorem ext_low {cs : ByteArray} (h : Asc cs) (i j : Nat) : ∀ b ∈ (cs.extract i j).data.toList, b.toNat < 128 := by
  intro b hb
  refine h.low b ?_
  simp only [ByteArray.data_extract, Array.toList_extract, List.extract_eq_take_drop] at hb
  exact List.mem_of_mem_drop (List.mem_of_mem_take hb)
set_option maxHeartbeats 4000000 in
set_option maxRecDepth 100000 in
theorem irune_err (cs : ByteArray) (hc : Asc cs) (w : World) :
    Calls Tryd.prog 52 #[.string cs, .int .i32 65533] w fun e w' => e = .returned (.int .i64 (-1)) ∧ Gr w w' := by
  have hf := hc.few
  go_enter Tryd.func52, Tryd.ntmps52
  go_wp2
  go_loopg [5, 6] cs.size (fun g _ _ wx => ∃ i : Nat, wx = w.iter cs i ∧ i + g = cs.size)
  case atStart => exact ⟨0, rfl, by omega⟩
  case round =>
    obtain ⟨i, rfl, hg⟩ := hrel
    by_cases hi : i < cs.size
    · have n0 := fun ty => run_next_ascii (P := Tryd.prog) w cs i ty hi (hc.at_ i hi)
      have hl := hc.at_ i hi
      have hne : ((cs[i].toNat : Int) == 65533) = false := by simp; omega
      go_wp2
      go_roundg (cs.size - (i + 1))
      case measure => omega
      case rel => exact ⟨i + 1, rfl, by omega⟩
    · have n2 := fun ty => run_next_end (P := Tryd.prog) w cs i ty hi
      go_wp2
      go_ret
      exact ⟨rfl, (Gr.refl _).allocO _⟩
/- runes of 2, 3 and 4 bytes (mkany.py) -/
set_option maxHeartbeats 4000000 in
set_option maxRecDepth 100000 in
theorem irune_2 (cs : ByteArray) (hc : Asc cs) (r : Int) (w : World) (h : 128 ≤ r) (h2 : r ≤ 1114111) (h3 : r ≠ 65533) (a b : UInt8) (hE : Utf8.encode r = ⟨#[a, b]⟩) (hb : 128 ≤ b.toNat) :
    Calls Tryd.prog 52 #[.string cs, .int .i32 r] w fun e w' => e = .returned (.int .i64 (-1)) ∧ Gr w w' := by
  have hb3 : (r == 65533) = false := by simpa using h3
  have hf := hc.few
  have ht := hc.two
  obtain ⟨V, hV⟩ : ∃ V, Lib.validRune r = V := ⟨_, rfl⟩
  have HV := Lib.hid hV
  clear hV
  by_cases hk : 1 < cs.size
  · have hat := hc.at_ 1 hk
    have hn4 : ((cs[1].toNat : Int) != (((⟨#[a, b]⟩ : ByteArray)[1]'(show 1 < 2 by decide)).toNat : Int)) = true := by
      have e : (((⟨#[a, b]⟩ : ByteArray)[1]'(show 1 < 2 by decide)).toNat) = b.toNat := rfl
      rw [e]; simp; omega
    have cI := fun w => idx_hi (cs.extract 2 cs.size) b w (ext_low hc _ _) hb
    clear hat
    go_enter Tryd.func52, Tryd.ntmps52
    go_wp2_with fail
    refine (Tryd.utf8_ValidRune r _).mono ?_
    rintro e w' ⟨rfl, rfl⟩
    rw [HV.out]
    cases V
    · go_wp2
      go_ret
      exact ⟨rfl, Gr.refl _⟩
    · go_wp2
      refine wp_scope_straight ?_
      go_wp2
      refine wp_loop_rounds 1 ?_
      rw [rounds_succ]
      go_wp2
      refine wp_scope_straight ?_
      go_wp2
      go_region
      go_wp2
      have hgd := (Gr.refl w').drew
      generalize w'.drew = wq at hgd ⊢
      go_quiet (first | (go_at_call 46; exact qsame (cI _)))
      go_wp2
      simp only [Exit.noGoto_ret, Exit.inBlock, Exit.then]
      go_ret
      exact ⟨rfl, hgd.drewN _⟩
  · exfalso; omega
set_option maxHeartbeats 4000000 in
set_option maxRecDepth 100000 in
theorem irune_3 (cs : ByteArray) (hc : Asc cs) (r : Int) (w : World) (h : 128 ≤ r) (h2 : r ≤ 1114111) (h3 : r ≠ 65533) (a b c : UInt8) (hE : Utf8.encode r = ⟨#[a, b, c]⟩) (hb : 128 ≤ c.toNat) :
    Calls Tryd.prog 52 #[.string cs, .int .i32 r] w fun e w' => e = .returned (.int .i64 (-1)) ∧ Gr w w' := by
  have hb3 : (r == 65533) = false := by simpa using h3
  have hf := hc.few
  have ht := hc.two
  obtain ⟨V, hV⟩ : ∃ V, Lib.validRune r = V := ⟨_, rfl⟩
  have HV := Lib.hid hV
  clear hV
  by_cases hk : 2 < cs.size
  · have hat := hc.at_ 2 hk
    have hn4 : ((cs[2].toNat : Int) != (((⟨#[a, b, c]⟩ : ByteArray)[2]'(show 2 < 3 by decide)).toNat : Int)) = true := by
      have e : (((⟨#[a, b, c]⟩ : ByteArray)[2]'(show 2 < 3 by decide)).toNat) = c.toNat := rfl
      rw [e]; simp; omega
    have cI := fun w => idx_hi (cs.extract 3 cs.size) c w (ext_low hc _ _) hb
    clear hat
    go_enter Tryd.func52, Tryd.ntmps52
    go_wp2_with fail
    refine (Tryd.utf8_ValidRune r _).mono ?_
    rintro e w' ⟨rfl, rfl⟩
    rw [HV.out]
    cases V
    · go_wp2
      go_ret
      exact ⟨rfl, Gr.refl _⟩
    · go_wp2
      refine wp_scope_straight ?_
      go_wp2
      refine wp_loop_rounds 1 ?_
      rw [rounds_succ]
      go_wp2
      refine wp_scope_straight ?_
      go_wp2
      go_region
      go_wp2
      have hgd := (Gr.refl w').drew
      generalize w'.drew = wq at hgd ⊢
      go_quiet (first | (go_at_call 46; exact qsame (cI _)))
      go_wp2
      simp only [Exit.noGoto_ret, Exit.inBlock, Exit.then]
      go_ret
      exact ⟨rfl, hgd.drewN _⟩
  · go_enter Tryd.func52, Tryd.ntmps52
    go_wp2_with fail
    refine (Tryd.utf8_ValidRune r _).mono ?_
    rintro e w' ⟨rfl, rfl⟩
    rw [HV.out]
    cases V
    · go_wp2
      go_ret
      exact ⟨rfl, Gr.refl _⟩
    · go_wp2
      refine wp_scope_straight ?_
      go_wp2
      refine wp_loop_rounds 1 ?_
      rw [rounds_succ]
      go_wp2
      rw [Exit.noGoto_ret]
      go_ret
      exact ⟨rfl, Gr.refl _⟩
set_option maxHeartbeats 4000000 in
set_option maxRecDepth 100000 in
theorem irune_4 (cs : ByteArray) (hc : Asc cs) (r : Int) (w : World) (h : 128 ≤ r) (h2 : r ≤ 1114111) (h3 : r ≠ 65533) (a b c d : UInt8) (hE : Utf8.encode r = ⟨#[a, b, c, d]⟩) (hb : 128 ≤ d.toNat) :
    Calls Tryd.prog 52 #[.string cs, .int .i32 r] w fun e w' => e = .returned (.int .i64 (-1)) ∧ Gr w w' := by
  have hb3 : (r == 65533) = false := by simpa using h3
  have hf := hc.few
  have ht := hc.two
  obtain ⟨V, hV⟩ : ∃ V, Lib.validRune r = V := ⟨_, rfl⟩
  have HV := Lib.hid hV
  clear hV
  by_cases hk : 3 < cs.size
  · have hat := hc.at_ 3 hk
    have hn4 : ((cs[3].toNat : Int) != (((⟨#[a, b, c, d]⟩ : ByteArray)[3]'(show 3 < 4 by decide)).toNat : Int)) = true := by
      have e : (((⟨#[a, b, c, d]⟩ : ByteArray)[3]'(show 3 < 4 by decide)).toNat) = d.toNat := rfl
      rw [e]; simp; omega
    have cI := fun w => idx_hi (cs.extract 4 cs.size) d w (ext_low hc _ _) hb
    clear hat
    go_enter Tryd.func52, Tryd.ntmps52
    go_wp2_with fail
    refine (Tryd.utf8_ValidRune r _).mono ?_
    rintro e w' ⟨rfl, rfl⟩
    rw [HV.out]
    cases V
    · go_wp2
      go_ret
      exact ⟨rfl, Gr.refl _⟩
    · go_wp2
      refine wp_scope_straight ?_
      go_wp2
      refine wp_loop_rounds 1 ?_
      rw [rounds_succ]
      go_wp2
      refine wp_scope_straight ?_
      go_wp2
      go_region
      go_wp2
      have hgd := (Gr.refl w').drew
      generalize w'.drew = wq at hgd ⊢
      go_quiet (first | (go_at_call 46; exact qsame (cI _)))
      go_wp2
      simp only [Exit.noGoto_ret, Exit.inBlock, Exit.then]
      go_ret
      exact ⟨rfl, hgd.drewN _⟩
  · go_enter Tryd.func52, Tryd.ntmps52
    go_wp2_with fail
    refine (Tryd.utf8_ValidRune r _).mono ?_
    rintro e w' ⟨rfl, rfl⟩
    rw [HV.out]
    cases V
    · go_wp2
      go_ret
      exact ⟨rfl, Gr.refl _⟩
    · go_wp2
      refine wp_scope_straight ?_
      go_wp2
      refine wp_loop_rounds 1 ?_
      rw [rounds_succ]
      go_wp2
      rw [Exit.noGoto_ret]
      go_ret
      exact ⟨rfl, Gr.refl _⟩
/- any rune -/
theorem irune_any (cs : ByteArray) (hc : Asc cs) (r : Nat) (w : World) (h2 : r ≤ 1114111) :
    Calls Tryd.prog 52 #[.string cs, .int .i32 (r : Int)] w fun e w' => ∃ v : Int, e = .returned (.int .i64 v) ∧ (0 ≤ v ↔ (r < 128 ∧ r.toUInt8 ∈ cs.data.toList)) ∧ Gr w w' := by
  by_cases h : r < 128
  · refine (Tryd.strings_IndexRune_ascii cs r w (by omega) (by omega)).mono ?_
    rintro e w' ⟨rfl, rfl⟩
    refine ⟨_, rfl, ?_, Gr.refl _⟩
    rw [Int.toNat_natCast]
    have := Fd.idx_has r.toUInt8 cs.data.toList
    rw [List.contains_eq_mem, decide_eq_decide] at this
    rw [this]
    exact ⟨fun x => ⟨h, x⟩, fun x => x.2⟩
  · have key : Calls Tryd.prog 52 #[.string cs, .int .i32 (r : Int)] w fun e w' => e = .returned (.int .i64 (-1)) ∧ Gr w w' := by
      by_cases h3 : r = 65533
      · subst h3; exact irune_err cs hc w
      · rcases Fd.enc_last (r : Int) (by omega) with ⟨a, b, hE, hb⟩ | ⟨a, b, c, hE, hb⟩ | ⟨a, b, c, d, hE, hb⟩
        · exact irune_2 cs hc r w (by omega) (by omega) (by omega) a b hE hb
        · exact irune_3 cs hc r w (by omega) (by omega) (by omega) a b c hE hb
        · exact irune_4 cs hc r w (by omega) (by omega) (by omega) a b c d hE hb
    refine key.mono ?_
    rintro e w' ⟨rfl, hg⟩
    exact ⟨-1, rfl, ⟨fun x => absurd x (by decide), fun x => absurd x.1 h⟩, hg⟩
namespace Fd
open Go.Lib
/- no byte of the set ahead of a place -/
def NoC (cs l : List UInt8) (i : Nat) : Prop := ∀ j b, j < i → l[j]? = some b → b ∉ cs
theorem any_false {cs l : List UInt8} (h : NoC cs l l.length) : l.any (cs.contains ·) = false := by
  rw [List.any_eq_false]
  intro x hx
  obtain ⟨j, hj, rfl⟩ := List.getElem_of_mem hx
  have := h j l[j] hj (List.getElem?_eq_getElem hj)
  simpa using this
theorem any_true {cs l : List UInt8} {i : Nat} {b : UInt8} (h : l[i]? = some b) (hb : b ∈ cs) : l.any (cs.contains ·) = true := by
  rw [List.any_eq_true]
  exact ⟨b, List.mem_of_getElem? h, by simpa using hb⟩
theorem NoC.step {cs : List UInt8} (hcs : ∀ b ∈ cs, b.toNat < 128) {s : ByteArray} {i : Nat} (h : NoC cs s.data.toList i) (hi : i < s.size) (hb : ¬ ((Utf8.decode s i).1 < 128 ∧ (Utf8.decode s i).1.toUInt8 ∈ cs)) : NoC cs s.data.toList (i + (Utf8.decode s i).2) := by
  have hlt : ∀ k, (s.get! k).toNat < 256 := fun k => UInt8.toNat_lt _
  rw [decode_at] at hb ⊢
  intro j b hj e
  have hsz := size_eq s
  by_cases c : j < i
  · exact h j b c e
  · have hjs : j < s.size := by
      have := (List.getElem?_eq_some_iff.1 e).1
      omega
    rw [get_at s j hjs] at e
    obtain rfl := Option.some.inj e
    by_cases d : (s.get! i).toNat < 128
    · have e1 : decodeN (s.size - i) (s.get! i).toNat (s.get! (i + 1)).toNat (s.get! (i + 2)).toNat (s.get! (i + 3)).toNat = ((s.get! i).toNat, 1) := by unfold decodeN; rw [if_pos d]
      rw [e1] at hj hb
      have : j = i := by simp only at hj; omega
      subst this
      intro hm
      refine hb ⟨d, ?_⟩
      simpa using hm
    · have hh := decN_hi (s.size - i) (s.get! i).toNat (s.get! (i + 1)).toNat (s.get! (i + 2)).toNat (s.get! (i + 3)).toNat (hlt i) (by omega)
      have h4 := (decN_le (s.size - i) (s.get! i).toNat (s.get! (i + 1)).toNat (s.get! (i + 2)).toNat (s.get! (i + 3)).toNat (by omega)).2
      have big : 128 ≤ (s.get! j).toNat := by
        have : j = i ∨ j = i + 1 ∨ j = i + 2 ∨ j = i + 3 := by omega
        rcases this with rfl | rfl | rfl | rfl
        · omega
        · exact hh.2.1 (by omega)
        · exact hh.2.2.1 (by omega)
        · exact hh.2.2.2 (by omega)
      intro hm
      have := hcs _ hm
      omega
end Fd
set_option maxHeartbeats 4000000 in
set_option maxRecDepth 100000 in
theorem iany_short (cs : ByteArray) (hc : Asc cs) (s : ByteArray) (w : World) (h8 : s.size ≤ 8) :
    Calls Tryd.prog 47 #[.string s, .string cs] w fun e w' => ∃ r : Int, e = .returned (.int .i64 r) ∧ (0 ≤ r ↔ s.data.toList.any (cs.data.toList.contains ·) = true) ∧ Gr w w' := by
  have h8z : decide ((8 : Int) < (s.size : Int)) = false := decide_eq_false (by omega)
  have hc2 := hc.two
  have hc8 := hc.few
  have hc0 : ((cs.size : Int) == 0) = false := by rw [beq_eq_false_iff_ne]; omega
  have hc1 : ((cs.size : Int) == 1) = false := by rw [beq_eq_false_iff_ne]; omega
  have hem : cs.toList.isEmpty = false := by rw [Lib.toList_data, isEmpty_size2]; exact decide_eq_false (by omega)
  go_enter Tryd.func47, Tryd.ntmps47
  go_wp2_with (go_at_call 53; refine (Tryd.strings_shouldUseASCIISet _ _).mono ?_; rintro e w' ⟨rfl, hw⟩; rw [hw, h8z])
  go_loopg [9, 10] s.size (fun g _ _ wx => ∃ i : Nat, i + g = s.size ∧ wx.heap[w.heap.size]? = some (.stringIter s i) ∧ Gr w wx ∧ Fd.NoC cs.data.toList s.data.toList i)
  case atStart => exact ⟨0, by omega, World.iter_heap _ _ _, (Gr.refl _).allocO _, fun j b hj => by omega⟩
  case round =>
    obtain ⟨i, hig, hit, hg, hno⟩ := hrel
    have HN := Lib.hid hno
    clear hno
    by_cases hi : i < s.size
    · have hnx := fun ty => Lib.run_next_any_at (P := Tryd.prog) wr w.heap.size s i ty hit hi
      have hit2 := Lib.iterAt_heap wr w.heap.size s i (i + (Utf8.decode s i).2) hit
      have hg2 : Gr w (wr.iterAt w.heap.size s (i + (Utf8.decode s i).2)) := ⟨Lib.below_iterAt hg.below (Nat.le_refl _) _ _⟩
      generalize wr.iterAt w.heap.size s (i + (Utf8.decode s i).2) = wn at hnx hit2 hg2
      have hle := Lib.rune_le s i
      have hw1 := Lib.width_pos s i
      have hw2 : i + (Utf8.decode s i).2 ≤ s.size := by
        have := (Fd.decN_le (s.size - i) (s.get! i).toNat (s.get! (i + 1)).toNat (s.get! (i + 2)).toNat (s.get! (i + 3)).toNat (by omega)).1
        rw [← Lib.decode_at] at this
        omega
      have HS := Lib.hid (fun h => HN.out.step hc.low (s := s) hi h)
      have HT := Lib.hid (fun h => Fd.dec_low s i h)
      have HB := Lib.hid (Fd.get_at s i hi)
      generalize (Utf8.decode s i).1 = rr at *
      generalize (Utf8.decode s i).2 = kk at *
      have cR := irune_any cs hc rr wn hle
      clear hc hc2 hc8
      by_cases c : rr < 128 ∧ rr.toUInt8 ∈ cs.data.toList
      · have cR2 := cR.mono (R' := fun e w' => ∃ v : Int, e = .returned (.int .i64 v) ∧ 0 ≤ v ∧ Gr wn w') (fun e w' ⟨v, h1, h2, h3⟩ => ⟨v, h1, h2.2 c, h3⟩)
        have hyes : s.data.toList.any (cs.data.toList.contains ·) = true := by
          refine Fd.any_true HB.out ?_
          have e2 := c.2
          rw [HT.out c.1] at e2
          simpa using e2
        have HY := Lib.hid hyes
        clear cR c hyes
        go_wp2_with (go_at_call 52; refine cR2.mono ?_; rintro e w' ⟨v, rfl, hv, hgr⟩)
        go_ret
        exact ⟨_, rfl, by rw [HY.out]; simp, hg2.trans hgr⟩
      · have cR2 := cR.mono (R' := fun e w' => ∃ v : Int, e = .returned (.int .i64 v) ∧ v < 0 ∧ Gr wn w') (fun e w' ⟨v, h1, h2, h3⟩ => ⟨v, h1, Int.not_le.1 (fun x => c (h2.1 x)), h3⟩)
        have HC := Lib.hid c
        clear cR c
        go_wp2_with (go_at_call 52; refine cR2.mono ?_; rintro e w' ⟨v, rfl, hv, hgr⟩)
        go_roundg (s.size - (i + kk))
        case measure => omega
        case rel => exact ⟨i + kk, by omega, (hgr.below.block _ (Array.getElem?_eq_some_iff.1 hit2).1).trans hit2, hg2.trans hgr, HS.out HC.out⟩
    · have hnx := fun ty => Lib.run_next_end_at (P := Tryd.prog) wr w.heap.size s i ty hit hi
      obtain rfl : i = s.size := by omega
      go_wp2
      go_ret
      exact ⟨_, rfl, by rw [Fd.any_false (by rw [← Lib.size_eq]; exact HN.out)]; simp, hg⟩
theorem iany_any (cs : ByteArray) (hc : Asc cs) (s : ByteArray) (w : World) (hs : s.size < 4294967281) :
    Calls Tryd.prog 47 #[.string s, .string cs] w fun e w' => ∃ r : Int, e = .returned (.int .i64 r) ∧ (0 ≤ r ↔ s.data.toList.any (cs.data.toList.contains ·) = true) ∧ Gr w w' := by
  by_cases h8 : s.size ≤ 8
  · exact iany_short cs hc s w h8
  · have h2 := hc.two
    have h3 := hc.few
    refine (Tryd.strings_IndexAny_long zero59 s cs w h2 (by omega) hs (by omega) ?_).mono ?_
    · intro j b hb
      exact hc.low b (List.mem_of_getElem? hb)
    · rintro e w' ⟨rfl, rfl⟩
      exact ⟨_, rfl, Fd.idxAny _ _, ((Gr.refl _).allocO _).allocO _⟩
set_option maxHeartbeats 1000000 in
theorem cany_any (cs : ByteArray) (hc : Asc cs) (s : ByteArray) (w : World) (hs : s.size < 4294967281) :
    Calls Tryd.prog 36 #[.string s, .string cs] w fun e w' => e = .returned (.bool (s.data.toList.any (cs.data.toList.contains ·))) ∧ Gr w w' := by
  have cI := iany_any cs hc s w hs
  generalize s.data.toList.any (cs.data.toList.contains ·) = b at cI ⊢
  go_enter Tryd.func36, Tryd.ntmps36
  go_wp2_with fail
  refine cI.mono ?_
  rintro e w' ⟨r, rfl, hr, hg⟩
  go_wp2
  go_ret
  refine ⟨ret_bool ?_, hg⟩
  cases b <;> simp
end Go.Proofs.YtpcmhaflmpcicaaDoor
