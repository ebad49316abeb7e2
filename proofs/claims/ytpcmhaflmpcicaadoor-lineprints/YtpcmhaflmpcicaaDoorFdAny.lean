/- strings.ContainsAny at the two bytes CR and LF, whatever the text. -/
import Derived.Test.YtpcmhaflmpcicaaDoorFdLib
import Derived.WalkMore
import Derived.Lib.OthersKept
namespace Go.Proofs.YtpcmhaflmpcicaaDoor
open Go.RowKit

namespace Fd
open Go.Lib
theorem enc_len (r : Int) (h : 128 ≤ r) : 2 ≤ (Utf8.encode r).size := by
  unfold Utf8.encode
  simp only
  have hc : 128 ≤ (if Utf8.valid r = true then r.toNat else Utf8.runeError) := by
    split
    · omega
    · unfold Utf8.runeError; omega
  generalize (if Utf8.valid r = true then r.toNat else Utf8.runeError) = c at *
  rw [if_neg (by omega)]
  repeat' split
  all_goals simp [ByteArray.size]
theorem enc_le (r : Int) : (Utf8.encode r).size ≤ 4 := by
  unfold Utf8.encode
  simp only
  generalize (if Utf8.valid r = true then r.toNat else Utf8.runeError) = c
  repeat' split
  all_goals simp [ByteArray.size]
theorem enc_two (r : Int) (h : 128 ≤ r) (h2 : (Utf8.encode r).size = 2) : ∃ a b : UInt8, Utf8.encode r = ⟨#[a, b]⟩ ∧ 128 ≤ b.toNat := by
  unfold Utf8.encode at h2 ⊢
  simp only at h2 ⊢
  have hc : 128 ≤ (if Utf8.valid r = true then r.toNat else Utf8.runeError) := by
    split
    · omega
    · unfold Utf8.runeError; omega
  generalize (if Utf8.valid r = true then r.toNat else Utf8.runeError) = c at *
  rw [if_neg (by omega)] at h2 ⊢
  split at h2
  · rename_i d
    rw [if_pos d]
    refine ⟨_, _, rfl, ?_⟩
    simp only [UInt8.toNat_ofNat']
    omega
  · split at h2 <;> simp [ByteArray.size] at h2
end Fd

theorem idx_empty (s : ByteArray) (c : Int) (w : World) (h : s.data.toList = []) :
    Calls Tryd.prog 46 #[.string s, .int .u8 c] w fun e w' => e = .returned (.int .i64 (-1)) ∧ w = w' := by
  refine (Tryd.strings_IndexByte s c w).mono ?_
  rintro e w' ⟨rfl, rfl⟩
  rw [h]
  exact ⟨rfl, rfl⟩
set_option maxHeartbeats 4000000 in
set_option maxRecDepth 100000 in
theorem indexRune_hi (r : Int) (w : World) (h : 128 ≤ r) (h2 : r ≤ 1114111) :
    Calls Tryd.prog 52 #[.string ⟨#[13, 10]⟩, .int .i32 r] w fun e w' => e = .returned (.int .i64 (-1)) ∧ Gr w w' := by
  by_cases h3 : r = 65533
  · subst h3
    have n0 := fun ty => run_next_ascii (P := Tryd.prog) w ⟨#[13, 10]⟩ 0 ty (by decide) (by decide)
    have n1 := fun ty => run_next_ascii (P := Tryd.prog) w ⟨#[13, 10]⟩ 1 ty (by decide) (by decide)
    have n2 := fun ty => run_next_end (P := Tryd.prog) w ⟨#[13, 10]⟩ 2 ty (by decide)
    go_enter Tryd.func52, Tryd.ntmps52
    go_wp2
    go_loopg [5, 6] 2 (fun g _ _ wx => wx = w.iter ⟨#[13, 10]⟩ (2 - g) ∧ g ≤ 2)
    case atStart => exact ⟨rfl, by omega⟩
    case round =>
      obtain ⟨rfl, hg⟩ := hrel
      have : gk = 0 ∨ gk = 1 ∨ gk = 2 := by omega
      rcases this with rfl | rfl | rfl
      · go_wp2
        go_ret
        exact ⟨rfl, (Gr.refl _).allocO _⟩
      · go_wp2
        go_roundg 0
        case measure => omega
        case rel => exact ⟨rfl, by omega⟩
      · go_wp2
        go_roundg 1
        case measure => omega
        case rel => exact ⟨rfl, by omega⟩
  · have hb : (r == 65533) = false := by simpa using h3
    obtain ⟨V, hV⟩ : ∃ V, Lib.validRune r = V := ⟨_, rfl⟩
    have HV := Lib.hid hV
    clear hV
    have hz := Fd.enc_len r h
    have hz4 := Fd.enc_le r
    rcases Nat.lt_or_ge 2 (Utf8.encode r).size with h4 | h4
    · go_enter Tryd.func52, Tryd.ntmps52
      go_wp2_with fail
      refine (Tryd.utf8_ValidRune r _).mono ?_
      rintro e w' ⟨rfl, rfl⟩
      rw [HV.out]
      cases V
      · go_wp2
        go_ret
        exact ⟨rfl, Gr.refl _⟩
      · go_wp2
        refine wp_scope_straight ?_
        go_wp2
        refine wp_loop_rounds 1 ?_
        rw [rounds_succ]
        go_wp2
        rw [Exit.noGoto_ret]
        go_ret
        exact ⟨rfl, Gr.refl _⟩
    · obtain ⟨a, b, hE, hb2⟩ := Fd.enc_two r h (by omega)
      have hn1 : ¬ ((10 : Int) = (b.toNat : Int)) := by omega
      have hn3 : ((10 : Int) != (b.toNat : Int)) = true := by simpa using hn1
      have hn4 : ((((⟨#[13, 10]⟩ : ByteArray)[1]'(by decide)).toNat : Int) != (((⟨#[a, b]⟩ : ByteArray)[1]'(show 1 < 2 by decide)).toNat : Int)) = true := hn3
      clear hn1 hn3
      clear hz h4 hz4
      go_enter Tryd.func52, Tryd.ntmps52
      go_wp2_with fail
      refine (Tryd.utf8_ValidRune r _).mono ?_
      rintro e w' ⟨rfl, rfl⟩
      rw [HV.out]
      cases V
      · go_wp2
        go_ret
        exact ⟨rfl, Gr.refl _⟩
      · go_wp2
        refine wp_scope_straight ?_
        go_wp2
        refine wp_loop_rounds 1 ?_
        rw [rounds_succ]
        go_wp2
        refine wp_scope_straight ?_
        go_wp2
        go_region
        go_wp2
        have hgd := (Gr.refl w').drew
        generalize w'.drew = wq at hgd ⊢
        go_quiet (first | (go_at_call 46; exact qsame (idx_empty _ _ _ (by first | rfl | simp))))
        go_wp2
        simp only [Exit.noGoto_ret, Exit.inBlock, Exit.then]
        go_ret
        exact ⟨rfl, hgd.drewN _⟩

/- what the code points of a text of at most eight bytes are, for CR and LF -/
namespace Fd
open Go.Lib
def nl (l : List UInt8) : Bool := l.any ([13, 10].contains ·)
def NoNl (l : List UInt8) (i : Nat) : Prop := ∀ j b, j < i → l[j]? = some b → b ≠ 13 ∧ b ≠ 10
theorem nl_false {l : List UInt8} (h : NoNl l l.length) : nl l = false := by
  unfold nl
  rw [List.any_eq_false]
  intro x hx
  obtain ⟨j, hj, rfl⟩ := List.getElem_of_mem hx
  have := h j l[j] hj (List.getElem?_eq_getElem hj)
  simp [this]
theorem nl_true {l : List UInt8} {i : Nat} {b : UInt8} (h : l[i]? = some b) (hb : b = 13 ∨ b = 10) : nl l = true := by
  unfold nl
  rw [List.any_eq_true]
  exact ⟨b, List.mem_of_getElem? h, by rcases hb with rfl | rfl <;> decide⟩
theorem get_at (s : ByteArray) (i : Nat) (h : i < s.size) : s.data.toList[i]? = some (s.get! i) := by
  have h2 : i < s.data.size := h
  have : s.get! i = s.data[i] := getElem!_pos s.data i h2
  rw [this]; simp
theorem NoNl.step {s : ByteArray} {i : Nat} (h : NoNl s.data.toList i) (hi : i < s.size) (hb : ¬ ((Utf8.decode s i).1 = 13 ∨ (Utf8.decode s i).1 = 10)) : NoNl s.data.toList (i + (Utf8.decode s i).2) := by
  have hlt : ∀ k, (s.get! k).toNat < 256 := fun k => UInt8.toNat_lt _
  rw [decode_at] at hb ⊢
  intro j b hj e
  have hsz := size_eq s
  by_cases c : j < i
  · exact h j b c e
  · have hjs : j < s.size := by
      have := (List.getElem?_eq_some_iff.1 e).1
      omega
    rw [get_at s j hjs] at e
    obtain rfl := Option.some.inj e
    by_cases d : (s.get! i).toNat < 128
    · have e1 : decodeN (s.size - i) (s.get! i).toNat (s.get! (i + 1)).toNat (s.get! (i + 2)).toNat (s.get! (i + 3)).toNat = ((s.get! i).toNat, 1) := by unfold decodeN; rw [if_pos d]
      rw [e1] at hj hb
      have : j = i := by simp only at hj; omega
      subst this
      constructor
      · intro e2; rw [e2] at hb; exact hb (.inl rfl)
      · intro e2; rw [e2] at hb; exact hb (.inr rfl)
    · have hh := decN_hi (s.size - i) (s.get! i).toNat (s.get! (i + 1)).toNat (s.get! (i + 2)).toNat (s.get! (i + 3)).toNat (hlt i) (by omega)
      have h4 := (decN_le (s.size - i) (s.get! i).toNat (s.get! (i + 1)).toNat (s.get! (i + 2)).toNat (s.get! (i + 3)).toNat (by omega)).2
      have big : 128 ≤ (s.get! j).toNat := by
        have : j = i ∨ j = i + 1 ∨ j = i + 2 ∨ j = i + 3 := by omega
        rcases this with rfl | rfl | rfl | rfl
        · omega
        · exact hh.2.1 (by omega)
        · exact hh.2.2.1 (by omega)
        · exact hh.2.2.2 (by omega)
      constructor <;> (intro e2; rw [e2] at big; revert big; decide)
theorem dec_low (s : ByteArray) (i : Nat) (h : (Utf8.decode s i).1 < 128) : (Utf8.decode s i).1 = (s.get! i).toNat := by
  rw [decode_at] at h ⊢
  by_cases d : (s.get! i).toNat < 128
  · unfold decodeN; rw [if_pos d]
  · have hh := decN_hi (s.size - i) (s.get! i).toNat (s.get! (i + 1)).toNat (s.get! (i + 2)).toNat (s.get! (i + 3)).toNat (UInt8.toNat_lt _) (by omega)
    omega
end Fd
theorem indexRune_any (r : Nat) (w : World) (h2 : r ≤ 1114111) :
    Calls Tryd.prog 52 #[.string ⟨#[13, 10]⟩, .int .i32 (r : Int)] w fun e w' => e = .returned (.int .i64 (if r = 13 then 0 else if r = 10 then 1 else -1)) ∧ Gr w w' := by
  by_cases h : r < 128
  · refine (Tryd.strings_IndexRune_ascii ⟨#[13, 10]⟩ r w (by omega) (by omega)).mono ?_
    rintro e w' ⟨rfl, rfl⟩
    refine ⟨?_, Gr.refl _⟩
    have key : ∀ r : Nat, r < 128 → Lib.indexByte [13, 10] r.toUInt8 = if r = 13 then 0 else if r = 10 then 1 else -1 := by decide
    have := key r h
    rw [Int.toNat_natCast]
    exact congrArg (fun x => Ending.returned (Value.int IntKind.i64 x)) this
  · refine (indexRune_hi r w (by omega) (by omega)).mono ?_
    rintro e w' ⟨rfl, hg⟩
    rw [if_neg (by omega), if_neg (by omega)]
    exact ⟨rfl, hg⟩

set_option maxHeartbeats 4000000 in
set_option maxRecDepth 100000 in
theorem indexAny_short (s : ByteArray) (w : World) (h8 : s.size ≤ 8) :
    Calls Tryd.prog 47 #[.string s, .string ⟨#[13, 10]⟩] w fun e w' => ∃ r : Int, e = .returned (.int .i64 r) ∧ (0 ≤ r ↔ Fd.nl s.data.toList = true) ∧ Gr w w' := by
  have h8z : decide ((8 : Int) < (s.size : Int)) = false := decide_eq_false (by omega)
  go_enter Tryd.func47, Tryd.ntmps47
  go_wp2_with (go_at_call 53; refine (Tryd.strings_shouldUseASCIISet _ _).mono ?_; rintro e w' ⟨rfl, hw⟩; rw [hw, h8z])
  go_loopg [9, 10] s.size (fun g _ _ wx => ∃ i : Nat, i + g = s.size ∧ wx.heap[w.heap.size]? = some (.stringIter s i) ∧ Gr w wx ∧ Fd.NoNl s.data.toList i)
  case atStart => exact ⟨0, by omega, World.iter_heap _ _ _, (Gr.refl _).allocO _, fun j b hj => by omega⟩
  case round =>
    obtain ⟨i, hig, hit, hg, hno⟩ := hrel
    have HN := Lib.hid hno
    clear hno
    by_cases hi : i < s.size
    · have hnx := fun ty => Lib.run_next_any_at (P := Tryd.prog) wr w.heap.size s i ty hit hi
      have hit2 := Lib.iterAt_heap wr w.heap.size s i (i + (Utf8.decode s i).2) hit
      have hg2 : Gr w (wr.iterAt w.heap.size s (i + (Utf8.decode s i).2)) := ⟨Lib.below_iterAt hg.below (Nat.le_refl _) _ _⟩
      generalize wr.iterAt w.heap.size s (i + (Utf8.decode s i).2) = wn at hnx hit2 hg2
      have hle := Lib.rune_le s i
      have hw1 := Lib.width_pos s i
      have hw2 : i + (Utf8.decode s i).2 ≤ s.size := by
        have := (Fd.decN_le (s.size - i) (s.get! i).toNat (s.get! (i + 1)).toNat (s.get! (i + 2)).toNat (s.get! (i + 3)).toNat (by omega)).1
        rw [← Lib.decode_at] at this
        omega
      have HS := Lib.hid (fun h => HN.out.step (s := s) hi h)
      have HT := Lib.hid (fun h => Fd.dec_low s i h)
      have HB := Lib.hid (Fd.get_at s i hi)
      generalize (Utf8.decode s i).1 = rr at *
      generalize (Utf8.decode s i).2 = kk at *
      have cR := indexRune_any rr wn hle
      by_cases c : rr = 13 ∨ rr = 10
      · have hyes : Fd.nl s.data.toList = true := by
          have e1 := HT.out (by omega)
          refine Fd.nl_true HB.out ?_
          rcases c with c | c
          · left; rw [c] at e1; exact UInt8.toNat_inj.1 e1.symm
          · right; rw [c] at e1; exact UInt8.toNat_inj.1 e1.symm
        obtain ⟨v, hv, hv0⟩ : ∃ v : Int, (if rr = 13 then (0 : Int) else if rr = 10 then 1 else -1) = v ∧ 0 ≤ v := ⟨_, rfl, by
          rcases c with c | c
          · rw [if_pos c]; omega
          · rw [if_neg (by omega), if_pos c]; omega⟩
        rw [hv] at cR
        have HY := Lib.hid hyes
        clear hyes hv c
        go_wp2_with (go_at_call 52; refine cR.mono ?_; rintro e w' ⟨rfl, hgr⟩)
        go_ret
        exact ⟨_, rfl, by rw [HY.out]; simp, hg2.trans hgr⟩
      · rw [if_neg (by omega), if_neg (by omega)] at cR
        go_wp2_with (go_at_call 52; refine cR.mono ?_; rintro e w' ⟨rfl, hgr⟩)
        go_roundg (s.size - (i + kk))
        case measure => omega
        case rel => exact ⟨i + kk, by omega, (hgr.below.block _ (Array.getElem?_eq_some_iff.1 hit2).1).trans hit2, hg2.trans hgr, HS.out c⟩
    · have hnx := fun ty => Lib.run_next_end_at (P := Tryd.prog) wr w.heap.size s i ty hit hi
      obtain rfl : i = s.size := by omega
      go_wp2
      go_ret
      exact ⟨_, rfl, by rw [Fd.nl_false (by rw [← Lib.size_eq]; exact HN.out)]; simp, hg⟩
theorem zero59 : ∀ w, (zeroValue 87).run Tryd.prog w = .ok (.agg (Array.replicate 256 (.bool false))) w := fun w => by kernel_rfl
theorem indexAny_any (s : ByteArray) (w : World) (hs : s.size < 4294967281) :
    Calls Tryd.prog 47 #[.string s, .string ⟨#[13, 10]⟩] w fun e w' => ∃ r : Int, e = .returned (.int .i64 r) ∧ (0 ≤ r ↔ Fd.nl s.data.toList = true) ∧ Gr w w' := by
  by_cases h8 : s.size ≤ 8
  · exact indexAny_short s w h8
  · refine (Tryd.strings_IndexAny_long zero59 s ⟨#[13, 10]⟩ w (by decide) (by omega) hs (by decide) ?_).mono ?_
    · intro j b hb
      have := List.mem_of_getElem? hb
      simp at this
      rcases this with rfl | rfl <;> decide
    · rintro e w' ⟨rfl, rfl⟩
      exact ⟨_, rfl, Fd.idxAny _ _, ((Gr.refl _).allocO _).allocO _⟩
set_option maxHeartbeats 1000000 in
theorem containsAny_any (s : ByteArray) (w : World) (hs : s.size < 4294967281) :
    Calls Tryd.prog 36 #[.string s, .string ⟨#[13, 10]⟩] w fun e w' => e = .returned (.bool (Fd.nl s.data.toList)) ∧ Gr w w' := by
  go_enter Tryd.func36, Tryd.ntmps36
  go_wp2_with fail
  refine (indexAny_any s _ hs).mono ?_
  rintro e w' ⟨r, rfl, hr, hg⟩
  go_wp2
  go_ret
  refine ⟨ret_bool ?_, hg⟩
  cases h : Fd.nl s.data.toList
  · simp
  · simp
end Go.Proofs.YtpcmhaflmpcicaaDoor
