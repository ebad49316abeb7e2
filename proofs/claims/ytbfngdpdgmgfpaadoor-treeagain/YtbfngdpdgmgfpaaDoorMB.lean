/- The texts FdLib, FdAny, FdFn, FdMem, FdSame, LnLeaf, LnBox, LnMem, LnRow, FdJoin, TrMem, TrRow, TrUp, one behind the other. -/
import Derived.Test.YtbfngdpdgmgfpaaDoorChecked
import Derived.Test.YtbfngdpdgmgfpaaDoorShelf
import Derived.Test.YtbfngdpdgmgfpaaDoorMA
import Derived.Laws.RangeAny
import Derived.Lib.Strings
import Derived.Lib.IndexBytes
import Derived.Deep.LoopGhost
import Derived.WalkSpells
import Derived.WalkMore
import Derived.Lib.OthersKept
import Derived.Lib.AppendStr
import Derived.Lib.FrozenHead
import Derived.Laws.OwnMore
import Derived.OwnWalk
import Derived.BigQuiet
import Derived.Deep.AppendLies
import Derived.Maps.AppendAt
import Derived.Deep.AppendSrc
import Derived.Deep.MidRow
namespace Go.Proofs.YtbfngdpdgmgfpaaDoor
open Go.RowKit

theorem Gr.allocO {w w' : World} (h : Gr w w') (o : Obj) : Gr w (w'.alloc o) := ⟨h.below.alloc h.below.size _⟩
def Tab (w : World) : Prop := Lib.Utf8Tabs 0 1 w
theorem Tab.keep {w w' : World} (h : Tab w) (hg : Gr w w') : Tab w' :=
  ⟨fun c hc => hg.keeps (World.block_lt_of_cell? _ _ (h.1 c hc)) (h.1 c hc), fun i hi => ⟨hg.keeps (World.block_lt_of_cell? _ _ (h.2 i hi).1) (h.2 i hi).1, hg.keeps (World.block_lt_of_cell? _ _ (h.2 i hi).2) (h.2 i hi).2⟩⟩

theorem mk_data (s : ByteArray) : (⟨s.data.toList.toArray⟩ : ByteArray) = s := rfl
theorem str_data {s : ByteArray} {l : List UInt8} (h : s.data.toList = l) : s = ⟨l.toArray⟩ := by rw [← h]

theorem decode_any (s : ByteArray) (w : World) (ht : Tab w) (h : 0 < s.size) :
    Calls Tryd.prog 86 #[.string s] w fun e w' => ∃ r : Int, e = .returned (.tuple #[.int .i32 r, .int .i64 (Fd.wd s.data.toList : Int)]) ∧ Gr w w' := by
  refine (Tryd.utf8_DecodeRuneInString s w ht).mono ?_
  rintro e w' ⟨rfl, hb⟩
  refine ⟨(Lib.decodeGo s).1, ?_, ⟨hb⟩⟩
  unfold Fd.wd Lib.decodeL Lib.decodeGo
  rw [mk_data, if_neg (by omega)]
theorem valid_any (s : ByteArray) (w : World) (ht : Tab w) (h : s.size ≤ 9223372036854775807) :
    Calls Tryd.prog 56 #[.string s] w fun e w' => e = .returned (.bool (Lib.validD s.data.toList)) ∧ Gr w w' := by
  refine (Tryd.utf8_ValidString s w h ht).mono ?_
  rintro e w' ⟨rfl, hb⟩
  exact ⟨rfl, ⟨hb⟩⟩

namespace Fd
theorem idx_in (c : UInt8) : ∀ l : List UInt8, c ∈ l → Lib.indexByte l c = ((l.takeWhile (· != c)).length : Int)
  | [], h => by cases h
  | b :: l, h => by
    unfold Lib.indexByte
    by_cases e : b = c
    · subst e; simp
    · have h1 : c ∈ l := by rcases List.mem_cons.1 h with h | h; exact absurd h.symm e; exact h
      have i := idx_in c l h1
      rw [i]
      have : ((((l.takeWhile (· != c)).length : Int)) == -1) = false := by rw [beq_eq_false_iff_ne]; omega
      simp [e, this]
theorem idx_out (c : UInt8) : ∀ l : List UInt8, c ∉ l → Lib.indexByte l c = -1
  | [], _ => rfl
  | b :: l, h => by
    unfold Lib.indexByte
    simp only [List.mem_cons, not_or] at h
    rw [idx_out c l h.2]
    have : (b == c) = false := by rw [beq_eq_false_iff_ne]; exact fun e => h.1 e.symm
    simp [this]
theorem idx_has (c : UInt8) (l : List UInt8) : decide (0 ≤ Lib.indexByte l c) = l.contains c := by
  by_cases h : c ∈ l
  · rw [idx_in c l h]; simp [h]
  · rw [idx_out c l h]; simp [h]
theorem bl_in (l : List UInt8) (h : 10 ∈ l) : bl l = l.take (l.takeWhile (· != 10)).length ∧ (al l).tail = l.drop ((l.takeWhile (· != 10)).length + 1) ∧ al l ≠ [] ∧ (l.takeWhile (· != 10)).length < l.length := by
  have e := List.takeWhile_append_dropWhile (p := (· != (10 : UInt8))) (l := l)
  have hne : al l ≠ [] := by
    intro hn
    unfold al at hn
    rw [hn, List.append_nil] at e
    rw [← e] at h
    have := List.all_eq_true.1 List.all_takeWhile _ h
    simp at this
  refine ⟨?_, ?_, hne, ?_⟩
  · unfold bl; conv => rhs; rw [← e]
    rw [e]; conv => rhs; arg 2; rw [← e]
    rw [List.take_left]
  · unfold al
    rw [← List.drop_drop]
    conv => rhs; arg 2; arg 2; rw [← e]
    rw [List.drop_left, List.drop_one]
  · have h1 := congrArg List.length e
    rw [List.length_append] at h1
    have h2 := List.length_pos_iff.2 hne
    unfold al at h2
    omega
theorem bl_out (l : List UInt8) (h : 10 ∉ l) : bl l = l ∧ al l = [] := by
  have h1 : ∀ a ∈ l, (a != 10) = true := by
    intro a ha; simp only [bne_iff_ne, ne_eq]; intro e; subst e; exact h ha
  unfold bl al
  have e1 := List.takeWhile_append_of_pos (l₂ := []) h1
  have e2 := List.dropWhile_append_of_pos (l₂ := []) h1
  simp only [List.append_nil, List.takeWhile_nil, List.dropWhile_nil] at e1 e2
  exact ⟨e1, e2⟩
theorem trim_cr (l : List UInt8) : Lib.trimSuffix l [13] = tc l := by
  unfold Lib.trimSuffix Lib.hasSuffix tc
  rcases List.eq_nil_or_concat l with rfl | ⟨x, b, rfl⟩
  · simp
  · by_cases c : b = 13
    · subst c
      have : [13].isSuffixOf (x ++ [13]) = true := by rw [List.isSuffixOf_iff_suffix]; exact ⟨x, rfl⟩
      simp [this]
    · have : [13].isSuffixOf (x ++ [b]) = false := by
        rw [Bool.eq_false_iff]
        intro h
        rw [List.isSuffixOf_iff_suffix] at h
        obtain ⟨y, h⟩ := h
        have := congrArg List.getLast? h
        simp at this
        exact c this.symm
      simp [this, c]
end Fd

theorem extract_to (s : ByteArray) (n : Nat) : s.extract 0 n = ⟨(s.data.toList.take n).toArray⟩ := str_data (by simp [ByteArray.data_extract])
theorem extract_from (s : ByteArray) (n : Nat) : s.extract n s.size = ⟨(s.data.toList.drop n).toArray⟩ := str_data (by
  have : s.size = s.data.toList.length := Lib.size_eq s
  simp only [ByteArray.data_extract, Array.toList_extract, List.extract_eq_take_drop]
  exact List.take_of_length_le (by rw [List.length_drop]; omega))
set_option maxHeartbeats 1000000 in
theorem cutlite_any (s : ByteArray) (w : World) (hs : s.size ≤ 9223372036854775807) :
    Calls Tryd.prog 90 #[.string s, .string ⟨#[10]⟩] w fun e w' => e = .returned (.tuple #[.string ⟨(Fd.bl s.data.toList).toArray⟩, .string ⟨(Fd.al s.data.toList).tail.toArray⟩, .bool (!(Fd.al s.data.toList).isEmpty)]) ∧ Gr w w' := by
  have hsz := Lib.size_eq s
  by_cases h : 10 ∈ s.data.toList
  · obtain ⟨e1, e2, e3, e4⟩ := Fd.bl_in _ h
    have hi := Fd.idx_in 10 _ h
    have e5 : (Fd.al s.data.toList).isEmpty = false := by simpa using e3
    rw [e1, e2, e5]
    generalize hk : (s.data.toList.takeWhile (· != 10)).length = k at *
    have hkz : k < s.size := by omega
    have X1 := Lib.hid (extract_to s k)
    have X2 := Lib.hid (extract_from s (k + 1))
    have HI := Lib.hid hi
    clear hi e1 e2 e3 e5 hk hsz h e4
    go_enter Tryd.func90, Tryd.ntmps90
    go_wp2_with fail
    refine (Tryd.stringslite_Index_one s 10 _).mono ?_
    rintro e w' ⟨rfl, rfl⟩
    rw [HI.out]
    go_wp2
    go_region
    all_goals (try go_wp2)
    all_goals go_ret3
    all_goals (rw [← X1.out, ← X2.out]; exact ⟨rfl, (Gr.refl _).drew⟩)
  · obtain ⟨e1, e2⟩ := Fd.bl_out _ h
    have hi := Fd.idx_out 10 _ h
    rw [e1, e2, mk_data]
    have HI := Lib.hid hi
    clear hi
    go_enter Tryd.func90, Tryd.ntmps90
    go_wp2_with fail
    refine (Tryd.stringslite_Index_one s 10 _).mono ?_
    rintro e w' ⟨rfl, rfl⟩
    rw [HI.out]
    go_wp2
    go_ret3
    exact ⟨rfl, Gr.refl _⟩
set_option maxHeartbeats 1000000 in
theorem cut_any (s : ByteArray) (w : World) (hs : s.size ≤ 9223372036854775807) :
    Calls Tryd.prog 76 #[.string s, .string ⟨#[10]⟩] w fun e w' => e = .returned (.tuple #[.string ⟨(Fd.bl s.data.toList).toArray⟩, .string ⟨(Fd.al s.data.toList).tail.toArray⟩, .bool (!(Fd.al s.data.toList).isEmpty)]) ∧ Gr w w' := by
  go_enter Tryd.func76, Tryd.ntmps76
  go_wp2_with fail
  refine (cutlite_any s _ hs).mono ?_
  rintro e w' ⟨rfl, hg⟩
  go_wp2
  go_ret3
  exact ⟨rfl, hg⟩
theorem trim_any (s : ByteArray) (w : World) (hs : s.size ≤ 9223372036854775807) :
    Calls Tryd.prog 77 #[.string s, .string ⟨#[13]⟩] w fun e w' => e = .returned (.string ⟨(Fd.tc s.data.toList).toArray⟩) ∧ w = w' := by
  refine (Tryd.strings_TrimSuffix s ⟨#[13]⟩ w hs).mono ?_
  rintro e w' ⟨rfl, rfl⟩
  exact ⟨by rw [← Fd.trim_cr], rfl⟩
theorem has_any (s : ByteArray) (w : World) :
    Calls Tryd.prog 78 #[.string s, .string ⟨#[13]⟩] w fun e w' => e = .returned (.bool (s.data.toList.contains 13)) ∧ w = w' := by
  refine (Tryd.strings_Contains_one s 13 w).mono ?_
  rintro e w' ⟨rfl, rfl⟩
  exact ⟨by rw [Fd.idx_has], rfl⟩

namespace Fd
open Go.Lib in
theorem idxAny (l cs : List UInt8) : 0 ≤ indexAny l cs ↔ l.any (cs.contains ·) = true := by
  induction l with
  | nil => simp [indexAny]
  | cons b l ih =>
    have hg := indexAny_ge cs l
    have e : indexAny (b :: l) cs = if cs.contains b then 0 else if indexAny l cs == -1 then -1 else indexAny l cs + 1 := rfl
    rw [e, List.any_cons, Bool.or_eq_true, ← ih]
    by_cases c : cs.contains b = true
    · rw [if_pos c]; exact ⟨fun _ => .inl c, fun _ => by omega⟩
    · rw [if_neg c]
      by_cases d : indexAny l cs = -1
      · rw [d]; simp only [c]; simp
      · have d' : (indexAny l cs == -1) = false := by simpa using d
        rw [d']
        simp only [Bool.false_eq_true, if_false, c, false_or]
        omega
open Go.Lib in
theorem decN_hi (n b0 b1 b2 b3 : Nat) (h0 : b0 < 256) (h : 128 ≤ b0) : 128 ≤ (decodeN n b0 b1 b2 b3).1 ∧ (2 ≤ (decodeN n b0 b1 b2 b3).2 → 128 ≤ b1) ∧ (3 ≤ (decodeN n b0 b1 b2 b3).2 → 128 ≤ b2) ∧ (4 ≤ (decodeN n b0 b1 b2 b3).2 → 128 ≤ b3) := by
  unfold Lib.decodeN
  repeat' split
  all_goals (simp only; omega)
end Fd
end Go.Proofs.YtbfngdpdgmgfpaaDoor
namespace Go.Proofs.YtbfngdpdgmgfpaaDoor
open Go.RowKit

namespace Fd
open Go.Lib
theorem enc_len (r : Int) (h : 128 ≤ r) : 2 ≤ (Utf8.encode r).size := by
  unfold Utf8.encode
  simp only
  have hc : 128 ≤ (if Utf8.valid r = true then r.toNat else Utf8.runeError) := by
    split
    · omega
    · unfold Utf8.runeError; omega
  generalize (if Utf8.valid r = true then r.toNat else Utf8.runeError) = c at *
  rw [if_neg (by omega)]
  repeat' split
  all_goals simp [ByteArray.size]
theorem enc_le (r : Int) : (Utf8.encode r).size ≤ 4 := by
  unfold Utf8.encode
  simp only
  generalize (if Utf8.valid r = true then r.toNat else Utf8.runeError) = c
  repeat' split
  all_goals simp [ByteArray.size]
theorem enc_two (r : Int) (h : 128 ≤ r) (h2 : (Utf8.encode r).size = 2) : ∃ a b : UInt8, Utf8.encode r = ⟨#[a, b]⟩ ∧ 128 ≤ b.toNat := by
  unfold Utf8.encode at h2 ⊢
  simp only at h2 ⊢
  have hc : 128 ≤ (if Utf8.valid r = true then r.toNat else Utf8.runeError) := by
    split
    · omega
    · unfold Utf8.runeError; omega
  generalize (if Utf8.valid r = true then r.toNat else Utf8.runeError) = c at *
  rw [if_neg (by omega)] at h2 ⊢
  split at h2
  · rename_i d
    rw [if_pos d]
    refine ⟨_, _, rfl, ?_⟩
    simp only [UInt8.toNat_ofNat']
    omega
  · split at h2 <;> simp [ByteArray.size] at h2
end Fd

theorem idx_empty (s : ByteArray) (c : Int) (w : World) (h : s.data.toList = []) :
    Calls Tryd.prog 95 #[.string s, .int .u8 c] w fun e w' => e = .returned (.int .i64 (-1)) ∧ w = w' := by
  refine (Tryd.strings_IndexByte s c w).mono ?_
  rintro e w' ⟨rfl, rfl⟩
  rw [h]
  exact ⟨rfl, rfl⟩
set_option maxHeartbeats 4000000 in
set_option maxRecDepth 100000 in
theorem indexRune_hi (r : Int) (w : World) (h : 128 ≤ r) (h2 : r ≤ 1114111) :
    Calls Tryd.prog 96 #[.string ⟨#[13, 10]⟩, .int .i32 r] w fun e w' => e = .returned (.int .i64 (-1)) ∧ Gr w w' := by
  by_cases h3 : r = 65533
  · subst h3
    have n0 := fun ty => run_next_ascii (P := Tryd.prog) w ⟨#[13, 10]⟩ 0 ty (by decide) (by decide)
    have n1 := fun ty => run_next_ascii (P := Tryd.prog) w ⟨#[13, 10]⟩ 1 ty (by decide) (by decide)
    have n2 := fun ty => run_next_end (P := Tryd.prog) w ⟨#[13, 10]⟩ 2 ty (by decide)
    go_enter Tryd.func96, Tryd.ntmps96
    go_wp2
    go_loopg [5, 6] 2 (fun g _ _ wx => wx = w.iter ⟨#[13, 10]⟩ (2 - g) ∧ g ≤ 2)
    case atStart => exact ⟨rfl, by omega⟩
    case round =>
      obtain ⟨rfl, hg⟩ := hrel
      have : gk = 0 ∨ gk = 1 ∨ gk = 2 := by omega
      rcases this with rfl | rfl | rfl
      · go_wp2
        go_ret
        exact ⟨rfl, (Gr.refl _).allocO _⟩
      · go_wp2
        go_roundg 0
        case measure => omega
        case rel => exact ⟨rfl, by omega⟩
      · go_wp2
        go_roundg 1
        case measure => omega
        case rel => exact ⟨rfl, by omega⟩
  · have hb : (r == 65533) = false := by simpa using h3
    obtain ⟨V, hV⟩ : ∃ V, Lib.validRune r = V := ⟨_, rfl⟩
    have HV := Lib.hid hV
    clear hV
    have hz := Fd.enc_len r h
    have hz4 := Fd.enc_le r
    rcases Nat.lt_or_ge 2 (Utf8.encode r).size with h4 | h4
    · go_enter Tryd.func96, Tryd.ntmps96
      go_wp2_with fail
      refine (Tryd.utf8_ValidRune r _).mono ?_
      rintro e w' ⟨rfl, rfl⟩
      rw [HV.out]
      cases V
      · go_wp2
        go_ret
        exact ⟨rfl, Gr.refl _⟩
      · go_wp2
        refine wp_scope_straight ?_
        go_wp2
        refine wp_loop_rounds 1 ?_
        rw [rounds_succ]
        go_wp2
        rw [Exit.noGoto_ret]
        go_ret
        exact ⟨rfl, Gr.refl _⟩
    · obtain ⟨a, b, hE, hb2⟩ := Fd.enc_two r h (by omega)
      have hn1 : ¬ ((10 : Int) = (b.toNat : Int)) := by omega
      have hn3 : ((10 : Int) != (b.toNat : Int)) = true := by simpa using hn1
      have hn4 : ((((⟨#[13, 10]⟩ : ByteArray)[1]'(by decide)).toNat : Int) != (((⟨#[a, b]⟩ : ByteArray)[1]'(show 1 < 2 by decide)).toNat : Int)) = true := hn3
      clear hn1 hn3
      clear hz h4 hz4
      go_enter Tryd.func96, Tryd.ntmps96
      go_wp2_with fail
      refine (Tryd.utf8_ValidRune r _).mono ?_
      rintro e w' ⟨rfl, rfl⟩
      rw [HV.out]
      cases V
      · go_wp2
        go_ret
        exact ⟨rfl, Gr.refl _⟩
      · go_wp2
        refine wp_scope_straight ?_
        go_wp2
        refine wp_loop_rounds 1 ?_
        rw [rounds_succ]
        go_wp2
        refine wp_scope_straight ?_
        go_wp2
        go_region
        go_wp2
        have hgd := (Gr.refl w').drew
        generalize w'.drew = wq at hgd ⊢
        go_quiet (first | (go_at_call 95; exact qsame (idx_empty _ _ _ (by first | rfl | simp))))
        go_wp2
        simp only [Exit.noGoto_ret, Exit.inBlock, Exit.then]
        go_ret
        exact ⟨rfl, hgd.drewN _⟩

/- what the code points of a text of at most eight bytes are, for CR and LF -/
namespace Fd
open Go.Lib
def nl (l : List UInt8) : Bool := l.any ([13, 10].contains ·)
def NoNl (l : List UInt8) (i : Nat) : Prop := ∀ j b, j < i → l[j]? = some b → b ≠ 13 ∧ b ≠ 10
theorem nl_false {l : List UInt8} (h : NoNl l l.length) : nl l = false := by
  unfold nl
  rw [List.any_eq_false]
  intro x hx
  obtain ⟨j, hj, rfl⟩ := List.getElem_of_mem hx
  have := h j l[j] hj (List.getElem?_eq_getElem hj)
  simp [this]
theorem nl_true {l : List UInt8} {i : Nat} {b : UInt8} (h : l[i]? = some b) (hb : b = 13 ∨ b = 10) : nl l = true := by
  unfold nl
  rw [List.any_eq_true]
  exact ⟨b, List.mem_of_getElem? h, by rcases hb with rfl | rfl <;> decide⟩
theorem get_at (s : ByteArray) (i : Nat) (h : i < s.size) : s.data.toList[i]? = some (s.get! i) := by
  have h2 : i < s.data.size := h
  have : s.get! i = s.data[i] := getElem!_pos s.data i h2
  rw [this]; simp
theorem NoNl.step {s : ByteArray} {i : Nat} (h : NoNl s.data.toList i) (hi : i < s.size) (hb : ¬ ((Utf8.decode s i).1 = 13 ∨ (Utf8.decode s i).1 = 10)) : NoNl s.data.toList (i + (Utf8.decode s i).2) := by
  have hlt : ∀ k, (s.get! k).toNat < 256 := fun k => UInt8.toNat_lt _
  rw [decode_at] at hb ⊢
  intro j b hj e
  have hsz := size_eq s
  by_cases c : j < i
  · exact h j b c e
  · have hjs : j < s.size := by
      have := (List.getElem?_eq_some_iff.1 e).1
      omega
    rw [get_at s j hjs] at e
    obtain rfl := Option.some.inj e
    by_cases d : (s.get! i).toNat < 128
    · have e1 : decodeN (s.size - i) (s.get! i).toNat (s.get! (i + 1)).toNat (s.get! (i + 2)).toNat (s.get! (i + 3)).toNat = ((s.get! i).toNat, 1) := by unfold decodeN; rw [if_pos d]
      rw [e1] at hj hb
      have : j = i := by simp only at hj; omega
      subst this
      constructor
      · intro e2; rw [e2] at hb; exact hb (.inl rfl)
      · intro e2; rw [e2] at hb; exact hb (.inr rfl)
    · have hh := decN_hi (s.size - i) (s.get! i).toNat (s.get! (i + 1)).toNat (s.get! (i + 2)).toNat (s.get! (i + 3)).toNat (hlt i) (by omega)
      have h4 := (decN_le (s.size - i) (s.get! i).toNat (s.get! (i + 1)).toNat (s.get! (i + 2)).toNat (s.get! (i + 3)).toNat (by omega)).2
      have big : 128 ≤ (s.get! j).toNat := by
        have : j = i ∨ j = i + 1 ∨ j = i + 2 ∨ j = i + 3 := by omega
        rcases this with rfl | rfl | rfl | rfl
        · omega
        · exact hh.2.1 (by omega)
        · exact hh.2.2.1 (by omega)
        · exact hh.2.2.2 (by omega)
      constructor <;> (intro e2; rw [e2] at big; revert big; decide)
theorem dec_low (s : ByteArray) (i : Nat) (h : (Utf8.decode s i).1 < 128) : (Utf8.decode s i).1 = (s.get! i).toNat := by
  rw [decode_at] at h ⊢
  by_cases d : (s.get! i).toNat < 128
  · unfold decodeN; rw [if_pos d]
  · have hh := decN_hi (s.size - i) (s.get! i).toNat (s.get! (i + 1)).toNat (s.get! (i + 2)).toNat (s.get! (i + 3)).toNat (UInt8.toNat_lt _) (by omega)
    omega
end Fd
theorem indexRune_any (r : Nat) (w : World) (h2 : r ≤ 1114111) :
    Calls Tryd.prog 96 #[.string ⟨#[13, 10]⟩, .int .i32 (r : Int)] w fun e w' => e = .returned (.int .i64 (if r = 13 then 0 else if r = 10 then 1 else -1)) ∧ Gr w w' := by
  by_cases h : r < 128
  · refine (Tryd.strings_IndexRune_ascii ⟨#[13, 10]⟩ r w (by omega) (by omega)).mono ?_
    rintro e w' ⟨rfl, rfl⟩
    refine ⟨?_, Gr.refl _⟩
    have key : ∀ r : Nat, r < 128 → Lib.indexByte [13, 10] r.toUInt8 = if r = 13 then 0 else if r = 10 then 1 else -1 := by decide
    have := key r h
    rw [Int.toNat_natCast]
    exact congrArg (fun x => Ending.returned (Value.int IntKind.i64 x)) this
  · refine (indexRune_hi r w (by omega) (by omega)).mono ?_
    rintro e w' ⟨rfl, hg⟩
    rw [if_neg (by omega), if_neg (by omega)]
    exact ⟨rfl, hg⟩

set_option maxHeartbeats 4000000 in
set_option maxRecDepth 100000 in
theorem indexAny_short (s : ByteArray) (w : World) (h8 : s.size ≤ 8) :
    Calls Tryd.prog 85 #[.string s, .string ⟨#[13, 10]⟩] w fun e w' => ∃ r : Int, e = .returned (.int .i64 r) ∧ (0 ≤ r ↔ Fd.nl s.data.toList = true) ∧ Gr w w' := by
  have h8z : decide ((8 : Int) < (s.size : Int)) = false := decide_eq_false (by omega)
  go_enter Tryd.func85, Tryd.ntmps85
  go_wp2_with (go_at_call 97; refine (Tryd.strings_shouldUseASCIISet _ _).mono ?_; rintro e w' ⟨rfl, hw⟩; rw [hw, h8z])
  go_loopg [9, 10] s.size (fun g _ _ wx => ∃ i : Nat, i + g = s.size ∧ wx.heap[w.heap.size]? = some (.stringIter s i) ∧ Gr w wx ∧ Fd.NoNl s.data.toList i)
  case atStart => exact ⟨0, by omega, World.iter_heap _ _ _, (Gr.refl _).allocO _, fun j b hj => by omega⟩
  case round =>
    obtain ⟨i, hig, hit, hg, hno⟩ := hrel
    have HN := Lib.hid hno
    clear hno
    by_cases hi : i < s.size
    · have hnx := fun ty => Lib.run_next_any_at (P := Tryd.prog) wr w.heap.size s i ty hit hi
      have hit2 := Lib.iterAt_heap wr w.heap.size s i (i + (Utf8.decode s i).2) hit
      have hg2 : Gr w (wr.iterAt w.heap.size s (i + (Utf8.decode s i).2)) := ⟨Lib.below_iterAt hg.below (Nat.le_refl _) _ _⟩
      generalize wr.iterAt w.heap.size s (i + (Utf8.decode s i).2) = wn at hnx hit2 hg2
      have hle := Lib.rune_le s i
      have hw1 := Lib.width_pos s i
      have hw2 : i + (Utf8.decode s i).2 ≤ s.size := by
        have := (Fd.decN_le (s.size - i) (s.get! i).toNat (s.get! (i + 1)).toNat (s.get! (i + 2)).toNat (s.get! (i + 3)).toNat (by omega)).1
        rw [← Lib.decode_at] at this
        omega
      have HS := Lib.hid (fun h => HN.out.step (s := s) hi h)
      have HT := Lib.hid (fun h => Fd.dec_low s i h)
      have HB := Lib.hid (Fd.get_at s i hi)
      generalize (Utf8.decode s i).1 = rr at *
      generalize (Utf8.decode s i).2 = kk at *
      have cR := indexRune_any rr wn hle
      by_cases c : rr = 13 ∨ rr = 10
      · have hyes : Fd.nl s.data.toList = true := by
          have e1 := HT.out (by omega)
          refine Fd.nl_true HB.out ?_
          rcases c with c | c
          · left; rw [c] at e1; exact UInt8.toNat_inj.1 e1.symm
          · right; rw [c] at e1; exact UInt8.toNat_inj.1 e1.symm
        obtain ⟨v, hv, hv0⟩ : ∃ v : Int, (if rr = 13 then (0 : Int) else if rr = 10 then 1 else -1) = v ∧ 0 ≤ v := ⟨_, rfl, by
          rcases c with c | c
          · rw [if_pos c]; omega
          · rw [if_neg (by omega), if_pos c]; omega⟩
        rw [hv] at cR
        have HY := Lib.hid hyes
        clear hyes hv c
        go_wp2_with (go_at_call 96; refine cR.mono ?_; rintro e w' ⟨rfl, hgr⟩)
        go_ret
        exact ⟨_, rfl, by rw [HY.out]; simp, hg2.trans hgr⟩
      · rw [if_neg (by omega), if_neg (by omega)] at cR
        go_wp2_with (go_at_call 96; refine cR.mono ?_; rintro e w' ⟨rfl, hgr⟩)
        go_roundg (s.size - (i + kk))
        case measure => omega
        case rel => exact ⟨i + kk, by omega, (hgr.below.block _ (Array.getElem?_eq_some_iff.1 hit2).1).trans hit2, hg2.trans hgr, HS.out c⟩
    · have hnx := fun ty => Lib.run_next_end_at (P := Tryd.prog) wr w.heap.size s i ty hit hi
      obtain rfl : i = s.size := by omega
      go_wp2
      go_ret
      exact ⟨_, rfl, by rw [Fd.nl_false (by rw [← Lib.size_eq]; exact HN.out)]; simp, hg⟩
theorem zero59 : ∀ w, (zeroValue 136).run Tryd.prog w = .ok (.agg (Array.replicate 256 (.bool false))) w := fun w => by kernel_rfl
theorem indexAny_any (s : ByteArray) (w : World) (hs : s.size < 4294967281) :
    Calls Tryd.prog 85 #[.string s, .string ⟨#[13, 10]⟩] w fun e w' => ∃ r : Int, e = .returned (.int .i64 r) ∧ (0 ≤ r ↔ Fd.nl s.data.toList = true) ∧ Gr w w' := by
  by_cases h8 : s.size ≤ 8
  · exact indexAny_short s w h8
  · refine (Tryd.strings_IndexAny_long zero59 s ⟨#[13, 10]⟩ w (by decide) (by omega) hs (by decide) ?_).mono ?_
    · intro j b hb
      have := List.mem_of_getElem? hb
      simp at this
      rcases this with rfl | rfl <;> decide
    · rintro e w' ⟨rfl, rfl⟩
      exact ⟨_, rfl, Fd.idxAny _ _, ((Gr.refl _).allocO _).allocO _⟩
set_option maxHeartbeats 1000000 in
theorem containsAny_any (s : ByteArray) (w : World) (hs : s.size < 4294967281) :
    Calls Tryd.prog 66 #[.string s, .string ⟨#[13, 10]⟩] w fun e w' => e = .returned (.bool (Fd.nl s.data.toList)) ∧ Gr w w' := by
  go_enter Tryd.func66, Tryd.ntmps66
  go_wp2_with fail
  refine (indexAny_any s _ hs).mono ?_
  rintro e w' ⟨r, rfl, hr, hg⟩
  go_wp2
  go_ret
  refine ⟨ret_bool ?_, hg⟩
  cases h : Fd.nl s.data.toList
  · simp
  · simp
end Go.Proofs.YtbfngdpdgmgfpaaDoor
namespace Go.Proofs.YtbfngdpdgmgfpaaDoor
open Go.RowKit

theorem ct_head (s : ByteArray) (h : 0 < s.size) : Fd.ct s.data.toList = (((s[0].toNat : Int) == 32) || ((s[0].toNat : Int) == 9)) := by
  have h2 : s.data.toList.head? = some s[0] := by
    rw [List.head?_eq_getElem?]
    have : 0 < s.data.toList.length := by rw [← Lib.size_eq]; exact h
    rw [List.getElem?_eq_getElem this]; rfl
  unfold Fd.ct
  rw [h2]
  have e : ∀ (b : UInt8) (c : UInt8), (some b == some c) = ((b.toNat : Int) == (c.toNat : Int)) := by
    intro b c
    rw [Bool.eq_iff_iff]
    simp only [beq_iff_eq, Option.some.injEq, Int.natCast_inj]
    exact UInt8.toNat_inj.symm
  rw [e, e]; rfl
set_option maxHeartbeats 1000000 in
theorem continues_any (s : ByteArray) (w : World) (h : 0 < s.size) :
    Calls Tryd.prog 54 #[.string s] w fun e w' => e = .returned (.bool (Fd.ct s.data.toList)) ∧ w = w' := by
  rw [ct_head s h]
  cases h1 : ((s[0].toNat : Int) == 32)
  · cases h2 : ((s[0].toNat : Int) == 9)
    · go_enter Tryd.func54, Tryd.ntmps54
      go_wp2
      go_ret
      exact ⟨rfl, rfl⟩
    · go_enter Tryd.func54, Tryd.ntmps54
      go_wp2
      go_ret
      exact ⟨rfl, rfl⟩
  · go_enter Tryd.func54, Tryd.ntmps54
    go_wp2
    go_ret
    exact ⟨rfl, rfl⟩

theorem fine_eq (l : List UInt8) : Fd.fine l = (!l.isEmpty && !Fd.ct l && !Fd.nl l) := by
  unfold Fd.fine Fd.nl
  congr 1
  rw [List.not_any_eq_all_not]
  congr 1
  funext b
  by_cases h1 : b = 13
  · subst h1; rfl
  · by_cases h2 : b = 10
    · subst h2; rfl
    · simp [h1, h2]
theorem isEmpty_size (s : ByteArray) : s.data.toList.isEmpty = decide (s.size = 0) := by
  have := Lib.size_eq s
  cases h : s.data.toList with
  | nil => rw [h] at this; simp at this; simp [this]
  | cons a b => rw [h] at this; simp at this; simp [this]
set_option maxHeartbeats 1000000 in
theorem foldable_any (s : ByteArray) (w : World) (hs : s.size < 4294967281) :
    Calls Tryd.prog 45 #[.string s] w fun e w' => e = .returned (.bool (Fd.fine s.data.toList)) ∧ Gr w w' := by
  rw [fine_eq]
  by_cases h0 : s.size = 0
  · have hem : s.toList.isEmpty = true := by rw [Lib.toList_data, isEmpty_size]; simp [h0]
    have he2 : s.data.toList.isEmpty = true := by rw [isEmpty_size]; simp [h0]
    rw [he2]
    go_enter Tryd.func45, Tryd.ntmps45
    go_wp2
    go_ret
    exact ⟨rfl, Gr.refl _⟩
  · have hem : s.toList.isEmpty = false := by rw [Lib.toList_data, isEmpty_size]; simp [h0]
    have he2 : s.data.toList.isEmpty = false := by rw [isEmpty_size]; simp [h0]
    rw [he2]
    have cC := fun w => continues_any s w (by omega)
    have cA := fun w => containsAny_any s w hs
    generalize Fd.ct s.data.toList = c at *
    generalize Fd.nl s.data.toList = n at *
    cases c
    · go_enter Tryd.func45, Tryd.ntmps45
      go_wp2_with fail
      refine (cC _).mono ?_
      rintro e w' ⟨rfl, rfl⟩
      go_wp2_with fail
      refine (cA _).mono ?_
      rintro e w' ⟨rfl, hg⟩
      go_wp2
      go_ret
      exact ⟨rfl, hg⟩
    · go_enter Tryd.func45, Tryd.ntmps45
      go_wp2_with fail
      refine (cC _).mono ?_
      rintro e w' ⟨rfl, rfl⟩
      go_wp2
      go_ret
      exact ⟨rfl, Gr.refl _⟩

set_option maxHeartbeats 1000000 in
theorem fitting_any (s : ByteArray) (room : Nat) (w : World) (ht : Tab w) (hs : s.size ≤ 140737488355328) (hr : room ≤ 75) :
    Calls Tryd.prog 67 #[.string s, .int .i64 (room : Int)] w fun e w' => e = .returned (.int .i64 (Fd.fit room s.data.toList : Int)) ∧ Gr w w' := by
  have hsz := Lib.size_eq s
  go_enter Tryd.func67, Tryd.ntmps67
  go_wp2
  go_loopg [5] s.size (fun g v wx => ∃ n : Nat, v = .int .i64 (n : Int) ∧ n + g = s.size ∧ n ≤ room ∧ Gr w wx ∧ Tab wx ∧ n + Fd.fit (room - n) (s.data.toList.drop n) = Fd.fit room s.data.toList)
  case atStart => exact ⟨0, rfl, by omega, by omega, Gr.refl _, ht, by simp⟩
  case round =>
    obtain ⟨n, rfl, hng, hn, hg, ht2, he⟩ := hrel
    by_cases hlt : n < s.size
    · have ex := extract_from s n
      have hne : s.data.toList.drop n ≠ [] := by
        intro h
        have := congrArg List.length h
        rw [List.length_drop, List.length_nil] at this
        omega
      have h1 := Fd.wd_pos (s.data.toList.drop n)
      have h2 := Fd.wd_le _ hne
      have h4 := Fd.wd_le4 (s.data.toList.drop n)
      rw [List.length_drop, ← hsz] at h2
      have f1 := fun h => Fd.fit_small (room - n) (s.data.toList.drop n) h
      have f2 := fun h => Fd.fit_step (room - n) (s.data.toList.drop n) hne h
      rw [List.drop_drop] at f2
      have cD := decode_any ⟨(s.data.toList.drop n).toArray⟩ wr ht2 (by show 0 < (List.drop n s.data.toList).length; rw [List.length_drop]; omega)
      have e3 : (ByteArray.mk (s.data.toList.drop n).toArray).data.toList = s.data.toList.drop n := rfl
      rw [e3, ← ex] at cD
      generalize Fd.wd (s.data.toList.drop n) = k at *
      have HF := Lib.hid (And.intro f1 (And.intro f2 he))
      have HZ := Lib.hid hsz
      have HG := Lib.hid hng
      clear ex e3 f1 f2 he hne hsz hng
      by_cases hk : n + k ≤ room
      · go_wp2_with (go_at_call 86; refine cD.mono ?_; rintro e w' ⟨rr, rfl, hgr⟩)
        go_roundg (s.size - (n + k))
        case measure => have := HG.out; omega
        case rel =>
          obtain ⟨_, f2, he⟩ := HF.out
          refine ⟨n + k, by go_num, by have := HG.out; omega, by omega, hg.trans hgr, ht2.keep hgr, ?_⟩
          rw [f2 (by omega)] at he
          rw [← he, show room - (n + k) = room - n - k by omega]
          omega
      · go_wp2_with (go_at_call 86; refine cD.mono ?_; rintro e w' ⟨rr, rfl, hgr⟩)
        go_ret
        obtain ⟨f1, _, he⟩ := HF.out
        rw [f1 (by omega)] at he
        exact ⟨ret_int (by omega), hg.trans hgr⟩
    · have hdr : s.data.toList.drop n = [] := List.drop_eq_nil_of_le (by omega)
      rw [hdr, Fd.fit_nil] at he
      have HE := Lib.hid he
      obtain rfl : n = s.size := by omega
      clear he hdr hsz hng
      go_wp2
      go_ret
      exact ⟨ret_int (by have := HE.out; omega), hg⟩
end Go.Proofs.YtbfngdpdgmgfpaaDoor
namespace Go.Proofs.YtbfngdpdgmgfpaaDoor
open Go.RowKit

/- the slice (A, n, c) owns the cells xs, in a block from B on -/
def OwnV (w : World) (B : Nat) (e : TypeId) (A : Option Addr) (n c : Nat) (xs : List Value) : Prop := w.ownsRow B e 1 (.slice A n c) n xs
/- bytes and texts as cells -/
def bc (l : List UInt8) : List Value := l.map fun b => Value.int .u8 (b.toNat : Int)
def sc (ls : List (List UInt8)) : List Value := ls.map fun l => Value.string ⟨l.toArray⟩
theorem bc_append (a b : List UInt8) : bc (a ++ b) = bc a ++ bc b := by simp [bc]
theorem sc_append (a b : List (List UInt8)) : sc (a ++ b) = sc a ++ sc b := by simp [sc]

theorem size_mk (l : List UInt8) : (ByteArray.mk l.toArray).size = l.length := by simp [ByteArray.size]
theorem OwnV.nil (w : World) (B : Nat) (e : TypeId) : OwnV w B e none 0 0 [] := World.ownsRow_nil _ _ _ _
theorem OwnV.len {w : World} {B : Nat} {e : TypeId} {A : Option Addr} {n c : Nat} {xs : List Value} (h : OwnV w B e A n c xs) : xs.length = n := by simpa using h.1
theorem OwnV.gr {w w' : World} {B : Nat} {e : TypeId} {A : Option Addr} {n c : Nat} {xs : List Value} (h : OwnV w B e A n c xs) (hg : Gr w w') : OwnV w' B e A n c xs := by
  refine ⟨h.1, ?_⟩
  rcases h.2 with hn | ⟨g, cap, cur, hv, hb, hh, rest⟩
  · exact .inl hn
  · exact .inr ⟨g, cap, cur, hv, hb, (hg.below.block g (Array.getElem?_eq_some_iff.1 hh).1).trans hh, rest⟩
theorem OwnV.drew {w : World} {B : Nat} {e : TypeId} {A : Option Addr} {n c : Nat} {xs : List Value} (h : OwnV w B e A n c xs) : OwnV w.drew B e A n c xs := h
theorem OwnV.cap {w : World} {B : Nat} {e : TypeId} {A : Option Addr} {n c : Nat} {xs : List Value} (h : OwnV w B e A n c xs) : n ≤ c := by
  rcases h.2 with ⟨hn, rfl⟩ | ⟨g, cap, cur, hv, _, _, hc, _⟩
  · exact Nat.zero_le _
  · injection hv with _ _ h3; omega
theorem OwnV.cells {w : World} {B : Nat} {e : TypeId} {A : Option Addr} {n c : Nat} {xs : List Value} (h : OwnV w B e A n c xs) (hn : 0 < n) :
    ∃ g, A = some ⟨g, 0, none⟩ ∧ B ≤ g ∧ g < w.heap.size ∧ ∀ j u, xs[j]? = some u → w.cell? ((⟨g, 0, none⟩ : Addr).add j) = some u := by
  have hcell := fun g => World.ownsRow.cells (g := g) h
  rcases h.2 with ⟨_, rfl⟩ | ⟨g, cap, cur, hv, hb, hh, _⟩
  · omega
  · injection hv with h1
    subst h1
    exact ⟨g, rfl, hb, (Array.getElem?_eq_some_iff.1 hh).1, hcell g rfl⟩

/- growth of a row that the call owns, over Below -/
theorem below_of_grown {w w' : World} {B : Nat} {e : TypeId} {v : Value} {n : Nat} {xs : List Value} (h : w.ownsRow B e 1 v n xs) (hB : B ≤ w.heap.size) (hg : w.grownBy w' v.ownBlock) : Below B w w' :=
  (Below.refl B w).grown hg hB (fun k hk => (h.lt k hk).1)
theorem own_form {w : World} {B : Nat} {e : TypeId} {v : Value} {n : Nat} {xs : List Value} (h : w.ownsRow B e 1 v n xs) : ∃ A c, v = .slice A n c := by
  rcases h.2 with ⟨rfl, rfl⟩ | ⟨g, cap, cur, rfl, _⟩
  · exact ⟨_, _, rfl⟩
  · exact ⟨_, _, rfl⟩
theorem info_u8 : (Tryd.prog.info? 5).map (fun i => (i.zero, i.size, i.bytes)) = some (some (.int .u8 0), 1, 1) := by kernel_rfl
theorem info_str : (Tryd.prog.info? 9).map (fun i => (i.zero, i.size, i.bytes)) = some (some (.string ⟨#[]⟩), 1, 16) := by kernel_rfl
theorem info_int : (Tryd.prog.info? 3).map (fun i => (i.zero, i.size, i.bytes)) = some (some (.int .i64 0), 1, 8) := by kernel_rfl

/- append(out, text...) -/
theorem ap_text {ops : Array Oper} {rest : List Oper} {o : Oper} {a : Act} {Q : Exit → Act → World → Prop} (w : World) (hgd : o.guard = none) (sl x : Operand)
    (ho : o.op = .call { callee := .builtin .append, args := #[sl, x], argTypes := #[85, 9] })
    (B : Nat) (A : Option Addr) (n c : Nat) (l : List UInt8) (hs : a.eval sl = .slice A n c) (hown : OwnV w B 5 A n c (bc l)) (s : ByteArray) (hx : a.eval x = .string s)
    (hlen : n + s.size ≤ 1000000) (hB : B ≤ w.heap.size)
    (h : ∀ A' c' w', OwnV w' B 5 A' (n + s.size) c' (bc (l ++ s.data.toList)) → Below B w w' → wpList Tryd.prog ops Q rest (a.put o.dst (.slice A' (n + s.size) c')) w') : wpList Tryd.prog ops Q (o :: rest) a w := by
  obtain ⟨i0, hi, hz0, hz1, hz2⟩ := info_parts info_u8
  refine Lib.wpList_append_own_string w hgd sl x 85 9 ho B 5 i0 Tryd.underlying85 Tryd.underlying9 hi hz0 hz1 hz2 _ n (bc l) hs hown s hx (by unfold maxLen; omega) (by omega) hB ?_
  intro v' w' h1 h2 _
  obtain ⟨A', c', rfl⟩ := own_form h1
  refine h A' c' w' ?_ (below_of_grown hown hB h2)
  rw [bc_append]
  exact h1
/- append(out, elements..), the elements laid in a new block first -/
theorem ap_lit {ops : Array Oper} {rest : List Oper} {o : Oper} {a : Act} {Q : Exit → Act → World → Prop} (w : World) (hgd : o.guard = none) (sl x : Operand) (t e : TypeId) (z : Value) (bytes : Nat)
    (ht : Tryd.prog.underlying t = some (.slice e)) (hinfo : (Tryd.prog.info? e).map (fun i => (i.zero, i.size, i.bytes)) = some (some z, 1, bytes)) (hzs : z.cells.size = 1) (hby : bytes ≤ 16)
    (ho : o.op = .call { callee := .builtin .append, args := #[sl, x], argTypes := #[t, t] })
    (B : Nat) (A : Option Addr) (n c : Nat) (xs news : List Value) (hs : a.eval sl = .slice A n c) (hown : OwnV w B e A n c xs) (m c2 : Nat) (hx : a.eval x = .slice (some ⟨w.heap.size, 0, none⟩) m c2)
    (hm : news.length = m) (h1 : ∀ u ∈ news, u.oneCell' = true) (hlen : n + m ≤ 1000000) (hB : B ≤ w.heap.size)
    (h : ∀ A' c' w', OwnV w' B e A' (n + m) c' (xs ++ news) → Below B w w' → wpList Tryd.prog ops Q rest (a.put o.dst (.slice A' (n + m) c')) w') : wpList Tryd.prog ops Q (o :: rest) a (w.alloc (.cells news.toArray e)) := by
  obtain ⟨i0, hi, hz0, hz1, hz2⟩ := info_parts hinfo
  have hown2 : (w.alloc (.cells news.toArray e)).ownsRow B e 1 (.slice A n c) n xs := World.ownsRow.alloc hown _
  refine wpList_append_own _ hgd sl x t ho B e i0 z 1 bytes ht hi hz0 hz1 hz2 hzs (by omega) _ n xs hs hown2 ⟨w.heap.size, 0, none⟩ m c2 news hx (by omega) ?_ h1 (by unfold maxLen; omega) ?_ ?_ ?_
  · intro j u hu
    have hadd : (⟨w.heap.size, 0, none⟩ : Addr).add j = ⟨w.heap.size, j, none⟩ := by unfold Addr.add; split <;> simp_all
    rw [hadd, cell_of_row _ w.heap.size j news.toArray e (0, 0) (heap_alloc_new w _)]
    simpa using hu
  · have : (n + m) * bytes ≤ 1000000 * 16 := Nat.mul_le_mul hlen hby
    omega
  · have : (w.alloc (.cells news.toArray e)).heap.size = w.heap.size + 1 := by simp
    omega
  · intro v' w' g1 g2 _
    obtain ⟨A', c', rfl⟩ := own_form g1
    refine h A' c' w' g1 ?_
    have hb : Below B (w.alloc (.cells news.toArray e)) w' := below_of_grown hown2 (by have : (w.alloc (.cells news.toArray e)).heap.size = w.heap.size + 1 := by simp
                                                                                       omega) g2
    exact ((Below.refl B w).alloc hB _).trans hb

/- string(bytes) -/
theorem conv_back {w : World} {B : Nat} {A : Option Addr} {n c : Nat} {l : List UInt8} (h : OwnV w B 5 A n c (bc l)) : (convert 85 9 (.slice A n c)).run Tryd.prog w = .ok (.string ⟨l.toArray⟩) w := by
  have hl : l.length = n := by simpa [bc] using h.len
  rcases Nat.eq_zero_or_pos n with h0 | h0
  · subst h0
    have hl0 : l = [] := List.eq_nil_of_length_eq_zero hl
    subst hl0
    rcases A with _ | ad
    · rw [run_convert_bytes_string w 85 9 5 none 0 c Tryd.underlying85 Tryd.underlying5 Tryd.underlying9]
      rfl
    · exact run_convert_bytes_back w 85 9 5 ad c [] Tryd.underlying85 Tryd.underlying5 Tryd.underlying9 (fun j hj => by simp at hj)
  · obtain ⟨g, rfl, _, _, hc⟩ := h.cells h0
    subst hl
    refine run_convert_bytes_back w 85 9 5 ⟨g, 0, none⟩ c l Tryd.underlying85 Tryd.underlying5 Tryd.underlying9 (fun j hj => hc j _ ?_)
    unfold bc
    rw [List.getElem?_map, List.getElem?_eq_getElem hj]
    rfl

/- a list of texts that is read -/
def Strs (w : World) (B : Nat) (A : Option Addr) (n : Nat) (ls : List (List UInt8)) : Prop :=
  ls.length = n ∧ (0 < n → ∃ ad : Addr, A = some ad ∧ ad.block < B ∧ ∀ j u, ls[j]? = some u → w.cell? (ad.add j) = some (.string ⟨u.toArray⟩))
theorem add_block (a : Addr) (n : Nat) : (a.add n).block = a.block := by unfold Addr.add; split <;> rfl
theorem add_add (a : Addr) (i j : Nat) : (a.add i).add j = a.add (i + j) := by
  unfold Addr.add
  by_cases hi : i = 0 <;> by_cases hj : j = 0 <;> simp [hi, hj, Nat.add_assoc]
theorem Strs.keep {w w' : World} {B : Nat} {A : Option Addr} {n : Nat} {ls : List (List UInt8)} (h : Strs w B A n ls) (hb : Below B w w') : Strs w' B A n ls :=
  ⟨h.1, fun hn => by
    obtain ⟨ad, e, hbl, hc⟩ := h.2 hn
    exact ⟨ad, e, hbl, fun j u hu => (hb.cell (by rw [add_block]; exact hbl)).trans (hc j u hu)⟩⟩
theorem Strs.more {w : World} {B B' : Nat} {A : Option Addr} {n : Nat} {ls : List (List UInt8)} (h : Strs w B A n ls) (hB : B ≤ B') : Strs w B' A n ls :=
  ⟨h.1, fun hn => by
    obtain ⟨ad, e, hbl, hc⟩ := h.2 hn
    exact ⟨ad, e, by omega, hc⟩⟩
theorem Strs.of_own {w : World} {B : Nat} {A : Option Addr} {n c : Nat} {ls : List (List UInt8)} (h : OwnV w B 9 A n c (sc ls)) : Strs w w.heap.size A n ls := by
  have hl : ls.length = n := by simpa [sc] using h.len
  refine ⟨hl, fun hn => ?_⟩
  obtain ⟨g, rfl, _, hlt, hc⟩ := h.cells hn
  exact ⟨⟨g, 0, none⟩, rfl, hlt, fun j u hu => hc j _ (by unfold sc; rw [List.getElem?_map, hu]; rfl)⟩
theorem Strs.nil (w : World) (B : Nat) (A : Option Addr) : Strs w B A 0 [] := ⟨rfl, fun h => absurd h (by omega)⟩
theorem Strs.at_ {w : World} {B : Nat} {A : Option Addr} {n : Nat} {ls : List (List UInt8)} (h : Strs w B A n ls) {k : Nat} (hk : k < n) :
    ∃ ad : Addr, ∃ hk' : k < ls.length, A = some ad ∧ ad.block < B ∧ w.cell? (ad.add k) = some (.string ⟨ls[k].toArray⟩) := by
  obtain ⟨ad, e, hb, hc⟩ := h.2 (by omega)
  have hl : k < ls.length := by rw [h.1]; exact hk
  exact ⟨ad, hl, e, hb, hc k _ (List.getElem?_eq_getElem hl)⟩
/- Tab, kept below a block number -/
theorem Tab.low {w w' : World} {B : Nat} (h : Tab w) (hg : Below B w w') (h0 : 0 < B) (h1 : 1 < B) : Tab w' :=
  ⟨fun c hc => (hg.cell h0).trans (h.1 c hc), fun i hi => ⟨(hg.cell h1).trans (h.2 i hi).1, (hg.cell h1).trans (h.2 i hi).2⟩⟩
theorem Tab.lt {w : World} (h : Tab w) : 0 < w.heap.size ∧ 1 < w.heap.size :=
  ⟨World.block_lt_of_cell? _ _ (h.1 0 (by omega)), World.block_lt_of_cell? _ _ (h.2 0 (by omega)).1⟩
theorem Gr.low {w w' : World} {B : Nat} (h : Gr w w') (hB : B ≤ w.heap.size) : Below B w w' := h.below.mono hB
/- single bytes of a text -/
theorem at_toNat (s : ByteArray) (i : Nat) (h : i < s.size) : s.data.toList[i]? = some s[i] := by
  have h2 : i < s.data.toList.length := by rw [← Lib.size_eq]; exact h
  rw [List.getElem?_eq_getElem h2]; rfl
theorem byte_eq {b : UInt8} {n : Nat} (hn : n < 256) : ((b.toNat : Int) == (n : Int)) = true ↔ b = UInt8.ofNat n := by
  constructor
  · intro h
    have h2 : (b.toNat : Int) = n := by simpa only [beq_iff_eq] using h
    have : b.toNat = n := by omega
    apply UInt8.toNat_inj.1
    rw [this]
    simp; omega
  · rintro rfl
    simp; omega
/- two rows of different elements side by side -/
theorem cat_data (a b : ByteArray) : (a ++ b).data.toList = a.data.toList ++ b.data.toList := by rw [ByteArray.data_append, Array.toList_append]
theorem own_other {w w' : World} {B : Nat} {e e2 : TypeId} {v : Value} {n : Nat} {xs : List Value} {A2 : Option Addr} {n2 c2 : Nat} {ys : List Value} (h : w.ownsRow B e 1 v n xs) (h2 : OwnV w B e2 A2 n2 c2 ys) (hne : e2 ≠ e)
    (hg : w.grownBy w' v.ownBlock) : OwnV w' B e2 A2 n2 c2 ys := by
  refine World.ownsRow.kept h2 hg ?_
  rcases h2.2 with ⟨hn, _⟩ | ⟨g2, cap2, cur2, hv2, _, hh2, _⟩
  · left; injection hn with h1; subst h1; rfl
  · right
    intro e3
    rcases h.2 with ⟨rfl, _⟩ | ⟨g, cap, cur, rfl, _, hh, _⟩
    · rw [hv2] at e3; simp [Value.ownBlock] at e3
    · rw [hv2] at e3
      have : g2 = g := by simpa [Value.ownBlock] using e3
      subst this
      rw [hh] at hh2
      injection hh2 with h4
      injection h4 with _ h5
      exact hne h5.symm
/- append(out, elements..), beside a row of another kind -/
theorem ap_two {ops : Array Oper} {rest : List Oper} {o : Oper} {a : Act} {Q : Exit → Act → World → Prop} (w : World) (hgd : o.guard = none) (sl x : Operand) (t e : TypeId) (z : Value) (bytes : Nat)
    (ht : Tryd.prog.underlying t = some (.slice e)) (hinfo : (Tryd.prog.info? e).map (fun i => (i.zero, i.size, i.bytes)) = some (some z, 1, bytes)) (hzs : z.cells.size = 1) (hby : bytes ≤ 16)
    (ho : o.op = .call { callee := .builtin .append, args := #[sl, x], argTypes := #[t, t] })
    (B : Nat) (A : Option Addr) (n c : Nat) (xs news : List Value) (hs : a.eval sl = .slice A n c) (hown : OwnV w B e A n c xs) (m c2 : Nat) (hx : a.eval x = .slice (some ⟨w.heap.size, 0, none⟩) m c2)
    (hm : news.length = m) (h1 : ∀ u ∈ news, u.oneCell' = true) (hlen : n + m ≤ 1000000) (hB : B ≤ w.heap.size) (e2 : TypeId) (A2 : Option Addr) (n2 c3 : Nat) (ys : List Value) (h2 : OwnV w B e2 A2 n2 c3 ys) (hne : e2 ≠ e)
    (h : ∀ A' c' w', OwnV w' B e A' (n + m) c' (xs ++ news) → Below B w w' → OwnV w' B e2 A2 n2 c3 ys → wpList Tryd.prog ops Q rest (a.put o.dst (.slice A' (n + m) c')) w') : wpList Tryd.prog ops Q (o :: rest) a (w.alloc (.cells news.toArray e)) := by
  obtain ⟨i0, hi, hz0, hz1, hz2⟩ := info_parts hinfo
  have hown2 : (w.alloc (.cells news.toArray e)).ownsRow B e 1 (.slice A n c) n xs := World.ownsRow.alloc hown _
  have hother : OwnV (w.alloc (.cells news.toArray e)) B e2 A2 n2 c3 ys := World.ownsRow.alloc h2 _
  have hsz : (w.alloc (.cells news.toArray e)).heap.size = w.heap.size + 1 := by simp
  refine wpList_append_own _ hgd sl x t ho B e i0 z 1 bytes ht hi hz0 hz1 hz2 hzs (by omega) _ n xs hs hown2 ⟨w.heap.size, 0, none⟩ m c2 news hx (by omega) ?_ h1 (by unfold maxLen; omega) ?_ (by omega) ?_
  · intro j u hu
    have hadd : (⟨w.heap.size, 0, none⟩ : Addr).add j = ⟨w.heap.size, j, none⟩ := by unfold Addr.add; split <;> simp_all
    rw [hadd, cell_of_row _ w.heap.size j news.toArray e (0, 0) (heap_alloc_new w _)]
    simpa using hu
  · have : (n + m) * bytes ≤ 1000000 * 16 := Nat.mul_le_mul hlen hby
    omega
  · intro v' w' g1 g2 _
    obtain ⟨A', c', rfl⟩ := own_form g1
    exact h A' c' w' g1 (((Below.refl B w).alloc hB _).trans (below_of_grown hown2 (by omega) g2)) (own_other hown2 hother hne g2)
/- a store into a row that the call owns, beside a row of another kind -/
theorem own_store {w : World} {B : Nat} {e : TypeId} {g n c : Nat} {xs : List Value} (h : OwnV w B e (some ⟨g, 0, none⟩) n c xs) (j : Nat) (u : Value) : OwnV (w.setCell ⟨g, j, none⟩ u) B e (some ⟨g, 0, none⟩) n c (xs.set j u) := (World.ownsRow.stored h j u).1
theorem own_store_far {w : World} {B : Nat} {e e2 : TypeId} {g n c : Nat} {xs : List Value} {A2 : Option Addr} {n2 c2 : Nat} {ys : List Value} (h : OwnV w B e (some ⟨g, 0, none⟩) n c xs) (h2 : OwnV w B e2 A2 n2 c2 ys) (hne : e2 ≠ e) (j : Nat) (u : Value) : OwnV (w.setCell ⟨g, j, none⟩ u) B e2 A2 n2 c2 ys := by
  refine ⟨h2.1, ?_⟩
  rcases h2.2 with hn | ⟨g2, cap2, cur2, hv2, hb2, hh2, hrest⟩
  · exact .inl hn
  · refine .inr ⟨g2, cap2, cur2, hv2, hb2, ?_, hrest⟩
    rw [Below.heap_setCell w ⟨g, j, none⟩ u g2 (fun e3 => ?_)]
    · exact hh2
    · have e3' : g2 = g := e3
      subst e3'
      rcases h.2 with ⟨hh, _⟩ | ⟨g', cap, cur, hv, _, hh, _⟩
      · cases hh
      · injection hv with h1
        injection h1 with h1
        injection h1 with h1
        subst h1
        rw [hh] at hh2
        injection hh2 with h4
        injection h4 with _ h5
        exact hne h5.symm
theorem own_free {w : World} {B : Nat} {e : TypeId} {g n c : Nat} {xs : List Value} (h : OwnV w B e (some ⟨g, 0, none⟩) n c xs) (j : Nat) : w.frozen? ⟨g, j, none⟩ = false := World.ownsRow.frozenAt h j
theorem own_cell {w : World} {B : Nat} {e : TypeId} {g n c : Nat} {xs : List Value} (h : OwnV w B e (some ⟨g, 0, none⟩) n c xs) (j : Nat) (hj : j < n) : w.cell? ⟨g, j, none⟩ = xs[j]? := World.ownsRow.cellAt h j (by omega)
end Go.Proofs.YtbfngdpdgmgfpaaDoor
namespace Go.Proofs.YtbfngdpdgmgfpaaDoor
open Go.RowKit

set_option maxHeartbeats 1000000 in
theorem same_yes (A A2 : Option Addr) (n c n2 c2 : Nat) (ls ms : List (List UInt8)) (w : World) (hS : Strs w w.heap.size A n ls) (hS2 : Strs w w.heap.size A2 n2 ms) (he : ls = ms) (hn : n ≤ 140737488355328) :
    Calls Tryd.prog 42 #[.slice A n c, .slice A2 n2 c2] w fun e w' => e = .returned (.bool true) ∧ Gr w w' := by
  subst he
  have hl : ls.length = n := hS.1
  obtain rfl : n = n2 := hl.symm.trans hS2.1
  have HL := Lib.hid hl
  clear hl
  go_enter Tryd.func42, Tryd.ntmps42
  go_wp2
  go_loopg [13] n (fun g v wx => ∃ k : Nat, v = .int .i64 (k : Int) ∧ k + g = n ∧ ∃ d, wx = w.drewN d)
  case atStart => exact ⟨0, rfl, by omega, 0, rfl⟩
  case round =>
    obtain ⟨k, rfl, hkg, d, rfl⟩ := hrel
    have HG := Lib.hid hkg
    clear hkg
    by_cases hk : k < n
    · obtain ⟨ad, hk', rfl, hbl, hcell⟩ := hS.at_ hk
      obtain ⟨ad2, _, rfl, hbl2, hcell2⟩ := hS2.at_ hk
      generalize (ByteArray.mk ls[k].toArray) = s at *
      go_wp2
      go_region
      all_goals (try go_wp2)
      go_roundg (n - (k + 1))
      case measure => have := HG.out; omega
      case rel => exact ⟨k + 1, by go_num, by omega, d + 1, rfl⟩
    · obtain rfl : k = n := by have := HG.out; omega
      go_wp2
      go_ret
      exact ⟨rfl, (Gr.refl _).drewN _⟩
end Go.Proofs.YtbfngdpdgmgfpaaDoor
namespace Go.Proofs.YtbfngdpdgmgfpaaDoor
open Go.RowKit

theorem inN_int (b : UInt8) : Ln.inN b = ((decide ((65 : Int) ≤ (b.toNat : Int)) && decide ((b.toNat : Int) ≤ 90)) || (decide ((48 : Int) ≤ (b.toNat : Int)) && decide ((b.toNat : Int) ≤ 57)) || ((b.toNat : Int) == 45)) := by
  refine Es.byte_ind (P := fun b => Ln.inN b = ((decide ((65 : Int) ≤ (b.toNat : Int)) && decide ((b.toNat : Int) ≤ 90)) || (decide ((48 : Int) ≤ (b.toNat : Int)) && decide ((b.toNat : Int) ≤ 57)) || ((b.toNat : Int) == 45))) ?_ b
  decide +kernel
set_option maxHeartbeats 1000000 in
theorem inName_any (b : UInt8) (w : World) : Calls Tryd.prog 70 #[.int .u8 (b.toNat : Int)] w fun e w' => e = .returned (.bool (Ln.inN b)) ∧ w = w' := by
  have HB := Lib.hid (inN_int b)
  generalize Ln.inN b = B at *
  generalize (b.toNat : Int) = n at *
  go_enter Tryd.func70, Tryd.ntmps70
  go_wp2
  all_goals (go_ret; refine ⟨ret_bool ?_, rfl⟩; rw [HB.out, Bool.eq_iff_iff]; simp only [Bool.or_eq_true, Bool.and_eq_true, decide_eq_true_eq, beq_iff_eq, eq_self, true_iff]; first | done | omega)
set_option maxHeartbeats 1000000 in
theorem letter_any (b : UInt8) (w : World) : Calls Tryd.prog 74 #[.int .u8 (b.toNat : Int), .bool false] w fun e w' => e = .returned (.bool (Ln.inN b)) ∧ w = w' := by
  have HB := Lib.hid (inN_int b)
  generalize Ln.inN b = B at *
  generalize (b.toNat : Int) = n at *
  go_enter Tryd.func74, Tryd.ntmps74
  go_wp2
  all_goals (go_ret; refine ⟨ret_bool ?_, rfl⟩; rw [HB.out, Bool.eq_iff_iff]; simp only [Bool.or_eq_true, Bool.and_eq_true, decide_eq_true_eq, beq_iff_eq, eq_self, true_iff]; first | done | omega)
theorem up_int (b : UInt8) : ((Ln.up b).toNat : Int) = if 97 ≤ (b.toNat : Int) ∧ (b.toNat : Int) ≤ 122 then (b.toNat : Int) - 32 else (b.toNat : Int) := by
  refine Es.byte_ind (P := fun b => ((Ln.up b).toNat : Int) = if 97 ≤ (b.toNat : Int) ∧ (b.toNat : Int) ≤ 122 then (b.toNat : Int) - 32 else (b.toNat : Int)) ?_ b
  decide +kernel
set_option maxHeartbeats 1000000 in
theorem upper_any (b : UInt8) (w : World) : Calls Tryd.prog 93 #[.int .u8 (b.toNat : Int)] w fun e w' => e = .returned (.int .u8 ((Ln.up b).toNat : Int)) ∧ w = w' := by
  have HB := Lib.hid (up_int b)
  have hlt : (b.toNat : Int) < 256 := by have := UInt8.toNat_lt b; omega
  have hge : 0 ≤ (b.toNat : Int) := by omega
  generalize ((Ln.up b).toNat : Int) = B at *
  generalize (b.toNat : Int) = n at *
  by_cases h1 : 97 ≤ n
  · by_cases h2 : n ≤ 122
    · have HE := Lib.hid (HB.out.trans (if_pos ⟨h1, h2⟩))
      go_enter Tryd.func93, Tryd.ntmps93
      go_wp2
      go_ret
      exact ⟨ret_int (by rw [HE.out]; omega), rfl⟩
    · have HE := Lib.hid (HB.out.trans (if_neg (fun h => h2 h.2)))
      go_enter Tryd.func93, Tryd.ntmps93
      go_wp2
      go_ret
      exact ⟨ret_int (by rw [HE.out]), rfl⟩
  · have HE := Lib.hid (HB.out.trans (if_neg (fun h => h1 h.1)))
    go_enter Tryd.func93, Tryd.ntmps93
    go_wp2
    go_ret
    exact ⟨ret_int (by rw [HE.out]), rfl⟩
end Go.Proofs.YtbfngdpdgmgfpaaDoor
namespace Go.Proofs.YtbfngdpdgmgfpaaDoor
open Go.RowKit

/- the reader in block b reads the text s and has come to place i -/
structure RB (w : World) (b : Nat) (s : ByteArray) (i : Nat) : Prop where
  c0 : w.cell? ⟨b, 0, none⟩ = some (.string s)
  c1 : w.cell? ⟨b, 1, none⟩ = some (.int .i64 (i : Int))
  free : w.frozen? ⟨b, 1, none⟩ = false
theorem RB.lt {w : World} {b : Nat} {s : ByteArray} {i : Nat} (h : RB w b s i) : b < w.heap.size := World.block_lt_of_cell? _ _ h.c0
theorem RB.keep {w w' : World} {b : Nat} {s : ByteArray} {i : Nat} (h : RB w b s i) (hg : Gr w w') : RB w' b s i :=
  ⟨hg.keeps h.lt h.c0, hg.keeps h.lt h.c1, (hg.frozen h.lt).trans h.free⟩
theorem RB.drew {w : World} {b : Nat} {s : ByteArray} {i : Nat} (h : RB w b s i) (n : Nat) : RB (w.drewN n) b s i := h.keep ((Gr.refl w).drewN n)
theorem RB.set {w : World} {b : Nat} {s : ByteArray} {i : Nat} (h : RB w b s i) (j : Nat) : RB (w.setCell ⟨b, 1, none⟩ (.int .i64 (j : Int))) b s j :=
  ⟨by rw [World.cell?_setCell_other (h := by simp)]; exact h.c0, World.cell?_setCell_same _ _ _ h.c1, by rw [World.frozen?_setCell]; exact h.free⟩
/- all but block b is as it was -/
def Mv (b : Nat) (w w' : World) : Prop := w.grownBy w' (some b)
theorem Gr.mv {w w' : World} (h : Gr w w') (b : Nat) : Mv b w w' := ⟨h.below.os, h.below.tape, h.below.output, h.below.size, fun i hi _ => h.below.block i hi⟩
theorem Mv.refl (b : Nat) (w : World) : Mv b w w := (Gr.refl w).mv b
theorem Mv.trans {b : Nat} {w w1 w2 : World} (h : Mv b w w1) (k : Mv b w1 w2) : Mv b w w2 := World.grownBy.trans h k
theorem Mv.set (b : Nat) (w : World) (o : Nat) (v : Value) : Mv b w (w.setCell ⟨b, o, none⟩ v) :=
  ⟨rfl, rfl, rfl, by simp [World.setCell], fun i _ hne => Below.heap_setCell _ _ _ _ (fun e => hne (by rw [e]))⟩
theorem Mv.drewN {b : Nat} {w w' : World} (h : Mv b w w') (n : Nat) : Mv b w (w'.drewN n) := h.trans (((Gr.refl w').drewN n).mv b)
theorem Mv.low {b B : Nat} {w w' : World} (h : Mv b w w') (hb : B ≤ b) (hB : B ≤ w.heap.size) : Below B w w' := ⟨h.os, h.tape, h.output, h.size, fun k hk => h.block k (by omega) (fun e => by cases e; omega)⟩
theorem Mv.lt {b : Nat} {w w' : World} (h : Mv b w w') : w.heap.size ≤ w'.heap.size := h.size

set_option maxHeartbeats 1000000 in
theorem take_end_ (b : Nat) (s : ByteArray) (c : Int) (w : World) (h : RB w b s s.size) :
    Calls Tryd.prog 81 #[.pointer (some ⟨b, 0, none⟩), .int .u8 c] w fun e w' => e = .returned (.bool false) ∧ Gr w w' := by
  obtain ⟨h0, h1, h2⟩ := h
  go_enter Tryd.func81, Tryd.ntmps81
  go_wp2
  go_quiet (fail)
  go_wp2
  go_ret
  exact ⟨rfl, (Gr.refl _).drewN _⟩
set_option maxHeartbeats 1000000 in
theorem take_no (b : Nat) (s : ByteArray) (i : Nat) (c : Int) (w : World) (h : RB w b s i) (hi : i < s.size) (hc : ((s[i].toNat : Int) == c) = false) :
    Calls Tryd.prog 81 #[.pointer (some ⟨b, 0, none⟩), .int .u8 c] w fun e w' => e = .returned (.bool false) ∧ Gr w w' := by
  obtain ⟨h0, h1, h2⟩ := h
  have hg : ((i : Int) == (s.size : Int)) = false := by rw [beq_eq_false_iff_ne]; omega
  go_enter Tryd.func81, Tryd.ntmps81
  go_wp2
  go_quiet (fail)
  go_wp2
  go_ret
  exact ⟨rfl, (Gr.refl _).drewN _⟩
set_option maxHeartbeats 1000000 in
theorem take_yes (b : Nat) (s : ByteArray) (i : Nat) (c : Int) (w : World) (h : RB w b s i) (hi : i < s.size) (hs : s.size ≤ 400000) (hc : (s[i].toNat : Int) = c) :
    Calls Tryd.prog 81 #[.pointer (some ⟨b, 0, none⟩), .int .u8 c] w fun e w' => e = .returned (.bool true) ∧ Mv b w w' ∧ RB w' b s (i + 1) := by
  have hr := h
  obtain ⟨h0, h1, h2⟩ := h
  have hg : ((i : Int) == (s.size : Int)) = false := by rw [beq_eq_false_iff_ne]; omega
  have hc2 : ((s[i].toNat : Int) == c) = true := by rw [beq_iff_eq]; exact hc
  clear hc
  go_enter Tryd.func81, Tryd.ntmps81
  go_wp2
  go_quiet (fail)
  go_wp2
  go_ret
  exact ⟨rfl, ((Gr.refl _).drewN _).mv b |>.trans (Mv.set b _ 1 _), (hr.drew _).set (i + 1)⟩
theorem hd_at (s : ByteArray) (i : Nat) (h : i < s.size) : (s.data.toList.drop i).head? = some s[i] := by
  have h2 : i < s.data.toList.length := by rw [← Lib.size_eq]; exact h
  rw [List.drop_eq_getElem_cons h2]; rfl
theorem hd_lt {s : ByteArray} {i : Nat} {c : UInt8} (h : (s.data.toList.drop i).head? = some c) : i < s.size := by
  rcases Nat.lt_or_ge i s.size with h2 | h2
  · exact h2
  · rw [List.drop_eq_nil_of_le (by rw [← Lib.size_eq]; exact h2)] at h; cases h
/- by what is left of the text -/
theorem take_t (b : Nat) (s : ByteArray) (i : Nat) (c : UInt8) (n : Int) (hn : (c.toNat : Int) = n) (w : World) (h : RB w b s i) (hs : s.size ≤ 400000) (hc : (s.data.toList.drop i).head? = some c) :
    Calls Tryd.prog 81 #[.pointer (some ⟨b, 0, none⟩), .int .u8 n] w fun e w' => e = .returned (.bool true) ∧ Mv b w w' ∧ RB w' b s (i + 1) := by
  have hi := hd_lt hc
  rw [hd_at s i hi] at hc
  injection hc with hc
  exact take_yes b s i n w h hi hs (by rw [hc]; exact hn)
theorem take_f (b : Nat) (s : ByteArray) (i : Nat) (c : UInt8) (n : Int) (hn : (c.toNat : Int) = n) (w : World) (h : RB w b s i) (hi : i ≤ s.size) (hc : (s.data.toList.drop i).head? ≠ some c) :
    Calls Tryd.prog 81 #[.pointer (some ⟨b, 0, none⟩), .int .u8 n] w fun e w' => e = .returned (.bool false) ∧ Gr w w' := by
  rcases Nat.lt_or_ge i s.size with h2 | h2
  · refine take_no b s i n w h h2 ?_
    rw [beq_eq_false_iff_ne]
    intro e
    refine hc ?_
    rw [hd_at s i h2]
    congr 1
    exact UInt8.toNat_inj.1 (by omega)
  · obtain rfl : i = s.size := by omega
    exact take_end_ b s n w h
end Go.Proofs.YtbfngdpdgmgfpaaDoor
namespace Go.Proofs.YtbfngdpdgmgfpaaDoor
open Go.RowKit

/- a list of parameters that is read -/
def Pars (w : World) (B : Nat) (A : Option Addr) (n : Nat) (ps : List Ln.Par) : Prop :=
  ps.length = n ∧ (0 < n → ∃ ad : Addr, A = some ad ∧ ad.block < B ∧ ∀ j p, ps[j]? = some p → w.cell? (ad.add (j * 2)) = some (.string ⟨p.1.toArray⟩) ∧ ∃ A' n' c', w.cell? ⟨(ad.add (j * 2)).block, (ad.add (j * 2)).off + 1, none⟩ = some (.slice A' n' c') ∧ Strs w B A' n' p.2)
theorem Pars.at_ {w : World} {B : Nat} {A : Option Addr} {n : Nat} {ps : List Ln.Par} (h : Pars w B A n ps) {k : Nat} (hk : k < n) :
    ∃ ad : Addr, ∃ hk' : k < ps.length, A = some ad ∧ ad.block < B ∧ w.cell? (ad.add (k * 2)) = some (.string ⟨ps[k].1.toArray⟩) ∧ ∃ A' n' c', w.cell? ⟨(ad.add (k * 2)).block, (ad.add (k * 2)).off + 1, none⟩ = some (.slice A' n' c') ∧ Strs w B A' n' ps[k].2 := by
  obtain ⟨ad, e, hb, hc⟩ := h.2 (by omega)
  have hl : k < ps.length := by rw [h.1]; exact hk
  exact ⟨ad, hl, e, hb, hc k _ (List.getElem?_eq_getElem hl)⟩
theorem Pars.keep {w w' : World} {B : Nat} {A : Option Addr} {n : Nat} {ps : List Ln.Par} (h : Pars w B A n ps) (hb : Below B w w') : Pars w' B A n ps :=
  ⟨h.1, fun hn => by
    obtain ⟨ad, e, hbl, hc⟩ := h.2 hn
    refine ⟨ad, e, hbl, fun j p hp => ?_⟩
    obtain ⟨h1, A', n', c', h2, h3⟩ := hc j p hp
    exact ⟨(hb.cell (by rw [add_block]; exact hbl)).trans h1, A', n', c', (hb.cell (by show (ad.add (j * 2)).block < B; rw [add_block]; exact hbl)).trans h2, h3.keep hb⟩⟩
theorem Pars.more {w : World} {B B' : Nat} {A : Option Addr} {n : Nat} {ps : List Ln.Par} (h : Pars w B A n ps) (hB : B ≤ B') : Pars w B' A n ps :=
  ⟨h.1, fun hn => by
    obtain ⟨ad, e, hbl, hc⟩ := h.2 hn
    refine ⟨ad, e, by omega, fun j p hp => ?_⟩
    obtain ⟨h1, A', n', c', h2, h3⟩ := hc j p hp
    exact ⟨h1, A', n', c', h2, h3.more hB⟩⟩
theorem Pars.gr {w w' : World} {A : Option Addr} {n : Nat} {ps : List Ln.Par} (h : Pars w w.heap.size A n ps) (hg : Gr w w') : Pars w' w'.heap.size A n ps := (h.keep hg.below).more hg.lt
theorem Pars.cut {w : World} {B : Nat} {A : Option Addr} {n : Nat} {ps : List Ln.Par} (h : Pars w B A n ps) (k : Nat) (hk : k ≤ n) : Pars w B A k (ps.take k) :=
  ⟨by rw [List.length_take, h.1]; omega, fun hn => by
    obtain ⟨ad, e, hbl, hc⟩ := h.2 (by omega)
    refine ⟨ad, e, hbl, fun j p hp => hc j p ?_⟩
    rw [List.getElem?_take] at hp
    split at hp
    · exact hp
    · cases hp⟩
theorem str_eq {a b : ByteArray} {q : Bool} (h : q = true ↔ a.data.toList = b.data.toList) : (a.toList == b.toList) = q := by
  rw [Lib.toList_data, Lib.toList_data, Bool.eq_iff_iff, h, beq_iff_eq]
set_option maxHeartbeats 1000000 in
theorem idx1_any (bn : Nat) (name a : ByteArray) (V : Value) (w : World) (hN : w.cell? ⟨bn, 0, none⟩ = some (.string name)) (q : Bool) (hq : q = true ↔ a.data.toList = name.data.toList) :
    Calls Tryd.prog 88 #[.agg #[.string a, V], .pointer (some ⟨bn, 0, none⟩)] w fun e w' => e = .returned (.bool q) ∧ Gr w w' := by
  have HQ := Lib.hid hq
  clear hq
  have hbl := World.block_lt_of_cell? _ _ hN
  go_enter Tryd.func88, Tryd.ntmps88
  go_wp2
  go_ret
  exact ⟨ret_bool (str_eq HQ.out), (Gr.refl _).allocO _⟩
namespace Ln
/- at which place a name is, or -1 -/
def Ixp (ps : List Par) (nm : List UInt8) (v : Int) : Prop := (v = -1 ∧ nm ∉ ps.map Prod.fst) ∨ ∃ i, ∃ h : i < ps.length, v = (i : Int) ∧ ps[i].1 = nm ∧ nm ∉ (ps.take i).map Prod.fst
theorem Ixp.neg {ps : List Par} {nm : List UInt8} {v : Int} (h : Ixp ps nm v) : decide (0 ≤ v) = (ps.map Prod.fst).contains nm := by
  rcases h with ⟨rfl, h⟩ | ⟨i, hi, rfl, h, _⟩
  · simpa using h
  · have : nm ∈ ps.map Prod.fst := List.mem_map.2 ⟨ps[i], List.getElem_mem hi, h⟩
    rw [show (ps.map Prod.fst).contains nm = true by simpa using this]
    simp
end Ln
set_option maxHeartbeats 1000000 in
theorem idxf_any (bn : Nat) (name : ByteArray) (A : Option Addr) (n c : Nat) (ps : List Ln.Par) (w : World) (hN : w.cell? ⟨bn, 0, none⟩ = some (.string name)) (hP : Pars w w.heap.size A n ps) (hn : n ≤ 140737488355328) :
    Calls Tryd.prog 87 #[.slice A n c, .func (.func 88) #[] #[.pointer (some ⟨bn, 0, none⟩)]] w fun e w' => ∃ v : Int, e = .returned (.int .i64 v) ∧ Ln.Ixp ps name.data.toList v ∧ Gr w w' := by
  have HL := Lib.hid hP.1
  have hbn := World.block_lt_of_cell? _ _ hN
  go_enter Tryd.func87, Tryd.ntmps87
  go_wp2
  go_loopg [8] n (fun g v wx => ∃ k : Nat, v = .int .i64 (k : Int) ∧ k + g = n ∧ Gr w wx ∧ Hid (name.data.toList ∉ (ps.take k).map Prod.fst))
  case atStart => exact ⟨0, rfl, by omega, Gr.refl _, Lib.hid (by simp)⟩
  case round =>
    obtain ⟨k, rfl, hkg, hg, HN⟩ := hrel
    have HG := Lib.hid hkg
    clear hkg
    by_cases hk : k < n
    · obtain ⟨ad, hk', rfl, hbl, hc0, A', n', c', hc1, hS⟩ := hP.at_ hk
      have d0 := (hg.below.cell (p := ad.add (k * 2)) (by rw [add_block]; exact hbl)).trans hc0
      have d1 := (hg.below.cell (p := ⟨(ad.add (k * 2)).block, (ad.add (k * 2)).off + 1, none⟩) (by show (ad.add (k * 2)).block < _; rw [add_block]; exact hbl)).trans hc1
      have c1 := idx1_any bn name ⟨ps[k].1.toArray⟩ (.slice A' n' c') wr ((hg.below.cell hbn).trans hN)
      have HK := Lib.hid hk'
      have HT := Lib.hid (List.take_succ_eq_append_getElem hk')
      by_cases hq : ps[k].1 = name.data.toList
      · have c1 := c1 true ⟨fun _ => hq, fun _ => rfl⟩
        have HQ := Lib.hid hq
        clear hq hc0 hc1 hS hP
        generalize (ByteArray.mk ps[k].1.toArray) = a at *
        go_wp2_with (go_at_call 88; refine c1.mono ?_; rintro e w' ⟨rfl, hg2⟩)
        go_ret
        exact ⟨_, rfl, .inr ⟨k, HK.out, rfl, HQ.out, HN.out⟩, hg.trans hg2⟩
      · have c1 := c1 false ⟨fun h => (by cases h), fun h => absurd h hq⟩
        have HQ := Lib.hid hq
        clear hq hc0 hc1 hS hP
        generalize (ByteArray.mk ps[k].1.toArray) = a at *
        go_wp2_with (go_at_call 88; refine c1.mono ?_; rintro e w' ⟨rfl, hg2⟩)
        go_roundg (n - (k + 1))
        case measure => have := HG.out; omega
        case rel =>
          refine ⟨k + 1, by go_num, by omega, hg.trans hg2, Lib.hid ?_⟩
          rw [HT.out, List.map_append, List.mem_append]
          rintro (h | h)
          · exact HN.out h
          · have h2 : name.data.toList = ps[k].1 := List.mem_singleton.1 h
            exact HQ.out h2.symm
    · obtain rfl : k = n := by have := HG.out; omega
      have HA : Hid (name.data.toList ∉ ps.map Prod.fst) := Lib.hid (by
        have := HN.out
        rwa [List.take_of_length_le (by rw [HL.out]; exact Nat.le_refl _)] at this)
      go_wp2
      go_ret
      exact ⟨_, rfl, .inl ⟨rfl, HA.out⟩, hg⟩
set_option maxHeartbeats 1000000 in
theorem index_any (name : ByteArray) (A : Option Addr) (n c : Nat) (ps : List Ln.Par) (w : World) (hP : Pars w w.heap.size A n ps) (hn : n ≤ 140737488355328) :
    Calls Tryd.prog 73 #[.slice A n c, .string name] w fun e w' => ∃ v : Int, e = .returned (.int .i64 v) ∧ Ln.Ixp ps name.data.toList v ∧ Gr w w' := by
  have hg : Gr w (w.alloc (.cells #[.string name] 9)) := (Gr.refl w).allocO _
  have hP2 := hP.gr hg
  have cF := fun bn hN => idxf_any bn name A n c ps _ hN hP2 hn
  go_enter Tryd.func73, Tryd.ntmps73
  go_wp2_with (go_at_call 87; refine (cF w.heap.size (by simp)).mono ?_; rintro e w' ⟨v, rfl, hv, hg2⟩)
  go_ret
  exact ⟨v, rfl, hv, hg.trans hg2⟩
end Go.Proofs.YtbfngdpdgmgfpaaDoor
namespace Go.Proofs.YtbfngdpdgmgfpaaDoor
open Go.RowKit

theorem Strs.far {w w' : World} {row : Option Nat} {A : Option Addr} {n : Nat} {ls : List (List UInt8)} (h : Strs w w.heap.size A n ls) (hg : w.grownBy w' row) (hne : 0 < n → ∀ ad, A = some ad → some ad.block ≠ row) : Strs w' w'.heap.size A n ls :=
  ⟨h.1, fun hn => by
    obtain ⟨ad, e, hb, hc⟩ := h.2 hn
    exact ⟨ad, e, Nat.lt_of_lt_of_le hb hg.size, fun j u hu => (World.grownBy.cell_far hg (ad.add j) (by rw [add_block]; exact hb) (by rw [add_block]; exact hne hn ad e)).trans (hc j u hu)⟩⟩
/- what the cells xs say of the parameters ps -/
def Els (w : World) (P : Nat → Prop) (own : Option Nat) (xs : List Value) (ps : List Ln.Par) : Prop :=
  ∀ j p, ps[j]? = some p → xs[j * 2]? = some (.string ⟨p.1.toArray⟩) ∧ ∃ A' n' c', xs[j * 2 + 1]? = some (.slice A' n' c') ∧ Strs w w.heap.size A' n' p.2 ∧ (0 < n' → ∀ ad, A' = some ad → P ad.block ∧ own ≠ some ad.block)
def PRow (w : World) (B : Nat) (P : Nat → Prop) (e : TypeId) (A : Option Addr) (n c : Nat) (ps : List Ln.Par) : Prop :=
  ∃ xs, w.ownsRow B e 2 (.slice A n c) n xs ∧ ps.length = n ∧ Els w P (Value.slice A n c).ownBlock xs ps
theorem PRow.nil (w : World) (B : Nat) (P : Nat → Prop) (e : TypeId) : PRow w B P e none 0 0 [] := ⟨[], World.ownsRow_nil _ _ _ _, rfl, fun j p h => by simp at h⟩
theorem PRow.own {w : World} {B : Nat} {P : Nat → Prop} {e : TypeId} {A : Option Addr} {n c : Nat} {ps : List Ln.Par} (h : PRow w B P e A n c ps) : ∀ k, (Value.slice A n c).ownBlock = some k → B ≤ k ∧ k < w.heap.size := by
  obtain ⟨xs, h1, _⟩ := h
  exact fun k hk => h1.lt k hk
theorem PRow.kept {w w' : World} {row : Option Nat} {B : Nat} {P : Nat → Prop} {e : TypeId} {A : Option Addr} {n c : Nat} {ps : List Ln.Par} (h : PRow w B P e A n c ps) (hg : w.grownBy w' row) (hr : ∀ k, row = some k → k < B ∧ ∀ x, P x → x ≠ k) : PRow w' B P e A n c ps := by
  have ho := h.own
  obtain ⟨xs, h1, h2, h3⟩ := h
  refine ⟨xs, World.ownsRow.kept h1 hg ?_, h2, fun j p hp => ?_⟩
  · cases e1 : (Value.slice A n c).ownBlock with
    | none => exact .inl rfl
    | some k =>
      right
      intro e2
      have := (hr k e2.symm).1
      have := (ho k e1).1
      omega
  · obtain ⟨g1, A', n', c', g2, g3, g4⟩ := h3 j p hp
    exact ⟨g1, A', n', c', g2, g3.far hg (fun hn ad ha e2 => (hr _ e2.symm).2 _ (g4 hn ad ha).1 rfl), g4⟩
theorem PRow.gr {w w' : World} {B : Nat} {P : Nat → Prop} {e : TypeId} {A : Option Addr} {n c : Nat} {ps : List Ln.Par} (h : PRow w B P e A n c ps) (hg : Gr w w') : PRow w' B P e A n c ps :=
  h.kept (row := none) ⟨hg.below.os, hg.below.tape, hg.below.output, hg.below.size, fun i hi _ => hg.below.block i hi⟩ (fun k hk => by cases hk)
theorem add_zero_ (g j : Nat) : (⟨g, 0, none⟩ : Addr).add j = ⟨g, j, none⟩ := by unfold Addr.add; split <;> simp_all
theorem PRow.pars {w : World} {B : Nat} {P : Nat → Prop} {e : TypeId} {A : Option Addr} {n c : Nat} {ps : List Ln.Par} (h : PRow w B P e A n c ps) : Pars w w.heap.size A n ps := by
  obtain ⟨xs, h1, h2, h3⟩ := h
  refine ⟨h2, fun hn => ?_⟩
  obtain ⟨g, cap, hv, hb, hlt⟩ := h1.form hn
  injection hv with h4
  subst h4
  refine ⟨⟨g, 0, none⟩, rfl, hlt, fun j p hp => ?_⟩
  obtain ⟨g1, A', n', c', g2, g3, _⟩ := h3 j p hp
  have hc := World.ownsRow.cells (g := g) h1 rfl
  have e1 := hc _ _ g1
  have e2 := hc _ _ g2
  rw [add_zero_] at e1 e2
  rw [add_zero_]
  exact ⟨e1, A', n', c', e2, g3⟩
theorem prow_after {w W w' : World} {B : Nat} {P : Nat → Prop} {e : TypeId} {A : Option Addr} {n c : Nat} {ps : List Ln.Par} {xs : List Value} (hx : xs.length = n * 2) (hl : ps.length = n) (hE : Els w P (Value.slice A n c).ownBlock xs ps) (hlt : ∀ k, (Value.slice A n c).ownBlock = some k → k < w.heap.size)
    (p : Ln.Par) (Av : Option Addr) (nv cv : Nat) (hS : Strs w w.heap.size Av nv p.2) (hv : 0 < nv → ∀ ad, Av = some ad → P ad.block ∧ (Value.slice A n c).ownBlock ≠ some ad.block)
    (hgW : Gr w W) {g cap : Nat} (h1 : w'.ownsRow B e 2 (.slice (some ⟨g, 0, none⟩) (n + 1) cap) (n + 1) (xs ++ [.string ⟨p.1.toArray⟩, .slice Av nv cv]))
    (h2 : W.grownBy w' (Value.slice A n c).ownBlock) (h3 : (Value.slice A n c).ownBlock = some g ∨ g = w.heap.size + 1) : PRow w' B P e (some ⟨g, 0, none⟩) (n + 1) cap (ps ++ [p]) := by
  have key : ∀ (A' : Option Addr) (n' : Nat) (q : List (List UInt8)), Strs w w.heap.size A' n' q → (0 < n' → ∀ ad, A' = some ad → P ad.block ∧ (Value.slice A n c).ownBlock ≠ some ad.block) →
      Strs w' w'.heap.size A' n' q ∧ (0 < n' → ∀ ad, A' = some ad → P ad.block ∧ (Value.slice (some ⟨g, 0, none⟩) (n + 1) cap).ownBlock ≠ some ad.block) := by
    intro A' n' q hq hn
    have hqW : Strs W W.heap.size A' n' q := (hq.keep hgW.below).more hgW.lt
    refine ⟨hqW.far h2 (fun h0 ad ha e1 => (hn h0 ad ha).2 e1.symm), fun h0 ad ha => ⟨(hn h0 ad ha).1, ?_⟩⟩
    obtain ⟨ad', ha', hb', _⟩ := hq.2 h0
    rw [ha] at ha'
    injection ha' with ha'
    subst ha'
    rcases h3 with h3 | h3
    · have := (hn h0 ad ha).2
      rw [h3] at this
      exact this
    · intro e2
      have : g = ad.block := by simpa [Value.ownBlock] using e2
      omega
  refine ⟨_, h1, by rw [List.length_append, hl]; rfl, fun j q hq => ?_⟩
  rcases Nat.lt_or_ge j n with hj | hj
  · rw [List.getElem?_append_left (by omega)] at hq
    obtain ⟨g1, A', n', c', g2, g3, g4⟩ := hE j q hq
    obtain ⟨k1, k2⟩ := key A' n' q.2 g3 g4
    refine ⟨?_, A', n', c', ?_, k1, k2⟩
    · rw [List.getElem?_append_left (by omega)]; exact g1
    · rw [List.getElem?_append_left (by omega)]; exact g2
  · have hj2 : j = n := by
      have := (List.getElem?_eq_some_iff.1 hq).1
      rw [List.length_append, List.length_singleton] at this
      omega
    subst hj2
    rw [List.getElem?_append_right (by omega), hl, Nat.sub_self] at hq
    have : p = q := by simpa using hq
    subst this
    obtain ⟨k1, k2⟩ := key Av nv p.2 hS hv
    refine ⟨?_, Av, nv, cv, ?_, k1, k2⟩
    · rw [List.getElem?_append_right (by omega), hx, Nat.sub_self]; rfl
    · rw [List.getElem?_append_right (by omega), hx, Nat.add_sub_cancel_left]; rfl
theorem info_par : (Tryd.prog.info? 79).map (fun i => (i.zero, i.size, i.bytes)) = some (some (.agg #[.string ⟨#[]⟩, .slice none 0 0]), 2, 40) := by kernel_rfl
theorem info_parof : (Tryd.prog.info? 81).map (fun i => (i.zero, i.size, i.bytes)) = some (some (.agg #[.string ⟨#[]⟩, .slice none 0 0]), 2, 40) := by kernel_rfl
/- append(out, parameter), the parameter laid in a new block first -/
theorem ap_par {ops : Array Oper} {rest : List Oper} {o : Oper} {a : Act} {Q : Exit → Act → World → Prop} (w : World) (hgd : o.guard = none) (sl x : Operand)
    (ho : o.op = .call { callee := .builtin .append, args := #[sl, x], argTypes := #[46, 46] })
    (B : Nat) (P : Nat → Prop) (A : Option Addr) (n c : Nat) (ps : List Ln.Par) (hs : a.eval sl = .slice A n c) (hrow : PRow w B P 79 A n c ps) (p : Ln.Par) (Av : Option Addr) (nv cv : Nat) (hS : Strs w w.heap.size Av nv p.2) (hv : 0 < nv → ∀ ad, Av = some ad → P ad.block ∧ (Value.slice A n c).ownBlock ≠ some ad.block)
    (hx : a.eval x = .slice (some ⟨w.heap.size, 0, none⟩) 1 1) (hlen : n + 1 ≤ 1000000) (hB : B ≤ w.heap.size)
    (h : ∀ A' c' w', PRow w' B P 79 A' (n + 1) c' (ps ++ [p]) → Below B w w' → wpList Tryd.prog ops Q rest (a.put o.dst (.slice A' (n + 1) c')) w') :
    wpList Tryd.prog ops Q (o :: rest) a (w.alloc (.cells #[.string ⟨p.1.toArray⟩, .slice Av nv cv] 79)) := by
  obtain ⟨i0, hi, hz0, hz1, hz2⟩ := info_parts info_par
  have ho2 := hrow.own
  obtain ⟨xs, h1, h2, h3⟩ := hrow
  have hsz : (w.alloc (.cells #[.string ⟨p.1.toArray⟩, .slice Av nv cv] 79)).heap.size = w.heap.size + 1 := by simp
  have hown2 := World.ownsRow.alloc h1 (.cells #[.string ⟨p.1.toArray⟩, .slice Av nv cv] 79)
  refine wpList_append_lies _ hgd sl x 46 ho B 79 i0 _ 2 40 Tryd.underlying46 hi hz0 hz1 hz2 rfl (by omega) (.slice A n c) n xs hs hown2 ⟨w.heap.size, 0, none⟩ 1 1 [.string ⟨p.1.toArray⟩, .slice Av nv cv] hx rfl
    (World.news_of_block (cs := #[.string ⟨p.1.toArray⟩, .slice Av nv cv]) (t := 79) (fr := (0, 0)) (heap_alloc_new w _)) (by simp [Value.oneCell']) (by omega) (by unfold maxLen; omega) (by omega) (by omega) (w.heap.size + 1) (by simp) ?_
  intro g cap w' g1 g2 g3 _
  refine h _ _ w' (prow_after h1.1 h2 h3 (fun k hk => (ho2 k hk).2) p Av nv cv hS hv ((Gr.refl w).allocO _) g1 g2 g3) ?_
  exact ((Below.refl B w).alloc hB _).trans ((Below.refl B _).grown g2 (by omega) (fun k hk => (ho2 k hk).1))
/- the same inside a region that draws its order, over whichever of the two types of parameters -/
theorem st_par {ops : Array Oper} {o : Oper} {a : Act} {K : Act → World → Prop} {Q : Exit → Act → World → Prop} {E : Prop} (w : World) (hgd : o.guard = none) (sl x : Operand) (t e : TypeId)
    (ht : Tryd.prog.underlying t = some (.slice e)) (hinfo : (Tryd.prog.info? e).map (fun i => (i.zero, i.size, i.bytes)) = some (some (.agg #[.string ⟨#[]⟩, .slice none 0 0]), 2, 40))
    (ho : o.op = .call { callee := .builtin .append, args := #[sl, x], argTypes := #[t, t] })
    (B : Nat) (P : Nat → Prop) (A : Option Addr) (n c : Nat) (ps : List Ln.Par) (hs : a.eval sl = .slice A n c) (hrow : PRow w B P e A n c ps) (p : Ln.Par) (Av : Option Addr) (nv cv : Nat) (hS : Strs w w.heap.size Av nv p.2) (hv : 0 < nv → ∀ ad, Av = some ad → P ad.block ∧ (Value.slice A n c).ownBlock ≠ some ad.block)
    (hx : a.eval x = .slice (some ⟨w.heap.size, 0, none⟩) 1 1) (hlen : (n + 1) * 40 ≤ 140737488355328) (hB : B ≤ w.heap.size)
    (h : ∀ A' c' w', PRow w' B P e A' (n + 1) c' (ps ++ [p]) → Below B w w' → K (a.put o.dst (.slice A' (n + 1) c')) w') :
    if Region.wanted o (yielded ops a.tmps) = true then Oper.wp Tryd.prog o a (w.alloc (.cells #[.string ⟨p.1.toArray⟩, .slice Av nv cv] e)).drew K Q else E := by
  obtain ⟨i0, hi, hz0, hz1, hz2⟩ := info_parts hinfo
  have ho2 := hrow.own
  obtain ⟨xs, h1, h2, h3⟩ := hrow
  have hsz : (w.alloc (.cells #[.string ⟨p.1.toArray⟩, .slice Av nv cv] e)).drew.heap.size = w.heap.size + 1 := by simp
  have hown2 : (w.alloc (.cells #[.string ⟨p.1.toArray⟩, .slice Av nv cv] e)).drew.ownsRow B e 2 (.slice A n c) n xs := World.ownsRow.alloc h1 _
  refine step_append_lies _ hgd sl x t ho B e i0 _ 2 40 ht hi hz0 hz1 hz2 rfl (by omega) (.slice A n c) n xs hs hown2 ⟨w.heap.size, 0, none⟩ 1 1 [.string ⟨p.1.toArray⟩, .slice Av nv cv] hx rfl
    (World.news_of_block (cs := #[.string ⟨p.1.toArray⟩, .slice Av nv cv]) (t := e) (fr := (0, 0)) (heap_alloc_new w _)) (by simp [Value.oneCell']) (by omega) (by unfold maxLen; omega) (by omega) (by omega) (w.heap.size + 1) (by simp) ?_
  intro g cap w' g1 g2 g3 _
  refine h _ _ w' (prow_after h1.1 h2 h3 (fun k hk => (ho2 k hk).2) p Av nv cv hS hv ((Gr.refl w).allocO _).drew g1 g2 g3) ?_
  exact ((Below.refl B w).alloc hB _).drew.trans ((Below.refl B _).grown g2 (by omega) (fun k hk => (ho2 k hk).1))
/- the same where no draw stands behind the laying -/
theorem st_par0 {ops : Array Oper} {o : Oper} {a : Act} {K : Act → World → Prop} {Q : Exit → Act → World → Prop} {E : Prop} (w : World) (hgd : o.guard = none) (sl x : Operand) (t e : TypeId)
    (ht : Tryd.prog.underlying t = some (.slice e)) (hinfo : (Tryd.prog.info? e).map (fun i => (i.zero, i.size, i.bytes)) = some (some (.agg #[.string ⟨#[]⟩, .slice none 0 0]), 2, 40))
    (ho : o.op = .call { callee := .builtin .append, args := #[sl, x], argTypes := #[t, t] })
    (B : Nat) (P : Nat → Prop) (A : Option Addr) (n c : Nat) (ps : List Ln.Par) (hs : a.eval sl = .slice A n c) (hrow : PRow w B P e A n c ps) (p : Ln.Par) (Av : Option Addr) (nv cv : Nat) (hS : Strs w w.heap.size Av nv p.2) (hv : 0 < nv → ∀ ad, Av = some ad → P ad.block ∧ (Value.slice A n c).ownBlock ≠ some ad.block)
    (hx : a.eval x = .slice (some ⟨w.heap.size, 0, none⟩) 1 1) (hlen : (n + 1) * 40 ≤ 140737488355328) (hB : B ≤ w.heap.size)
    (h : ∀ A' c' w', PRow w' B P e A' (n + 1) c' (ps ++ [p]) → Below B w w' → K (a.put o.dst (.slice A' (n + 1) c')) w') :
    if Region.wanted o (yielded ops a.tmps) = true then Oper.wp Tryd.prog o a (w.alloc (.cells #[.string ⟨p.1.toArray⟩, .slice Av nv cv] e)) K Q else E := by
  obtain ⟨i0, hi, hz0, hz1, hz2⟩ := info_parts hinfo
  have ho2 := hrow.own
  obtain ⟨xs, h1, h2, h3⟩ := hrow
  have hsz : (w.alloc (.cells #[.string ⟨p.1.toArray⟩, .slice Av nv cv] e)).heap.size = w.heap.size + 1 := by simp
  have hown2 : (w.alloc (.cells #[.string ⟨p.1.toArray⟩, .slice Av nv cv] e)).ownsRow B e 2 (.slice A n c) n xs := World.ownsRow.alloc h1 _
  refine step_append_lies _ hgd sl x t ho B e i0 _ 2 40 ht hi hz0 hz1 hz2 rfl (by omega) (.slice A n c) n xs hs hown2 ⟨w.heap.size, 0, none⟩ 1 1 [.string ⟨p.1.toArray⟩, .slice Av nv cv] hx rfl
    (World.news_of_block (cs := #[.string ⟨p.1.toArray⟩, .slice Av nv cv]) (t := e) (fr := (0, 0)) (heap_alloc_new w _)) (by simp [Value.oneCell']) (by omega) (by unfold maxLen; omega) (by omega) (by omega) (w.heap.size + 1) (by simp) ?_
  intro g cap w' g1 g2 g3 _
  refine h _ _ w' (prow_after h1.1 h2 h3 (fun k hk => (ho2 k hk).2) p Av nv cv hS hv ((Gr.refl w).allocO _) g1 g2 g3) ?_
  exact ((Below.refl B w).alloc hB _).trans ((Below.refl B _).grown g2 (by omega) (fun k hk => (ho2 k hk).1))
end Go.Proofs.YtbfngdpdgmgfpaaDoor
namespace Go.Proofs.YtbfngdpdgmgfpaaDoor
open Go.RowKit

/- a row of bytes of the call's own, told by its cells -/
structure RowG (w : World) (B g n c : Nat) (l : List UInt8) : Prop where
  new : B ≤ g
  len : l.length = n
  le : n ≤ c
  max : c ≤ maxLen
  holds : ∀ j, j < n → w.cell? ⟨g, j, none⟩ = (bc l)[j]?
  there : ∀ j, j < c → (w.cell? ⟨g, j, none⟩).isSome = true ∧ w.frozen? ⟨g, j, none⟩ = false
theorem below_setCells {B g : Nat} {w : World} (hg : B ≤ g) : ∀ (vs : List Value) (o : Nat) (w' : World), Below B w w' → Below B w (w'.setCells g o vs)
  | [], _, _, h => h
  | v :: vs, o, _, h => below_setCells hg vs (o + 1) _ (h.setCell (p := ⟨g, o, none⟩) hg v)
theorem bc_len (l : List UInt8) : (bc l).length = l.length := by simp [bc]
theorem run_apG (w : World) (ty : TypeId) (B g n c : Nat) (l : List UInt8) (hr : RowG w B g n c l) (s : ByteArray) (hlen : n + s.size ≤ 1000000) (hB : B ≤ w.heap.size) :
    ∃ g' c' w', (Builtin.append_ #[85, 9] ty #[.slice (some ⟨g, 0, none⟩) n c, .string s]).run Tryd.prog w = .ok (.slice (some ⟨g', 0, none⟩) (n + s.size) c') w' ∧ RowG w' B g' (n + s.size) c' (l ++ s.data.toList) ∧ Below B w w' := by
  obtain ⟨i0, hi, hz0, hz1, hz2⟩ := info_parts info_u8
  have hs : Src Tryd.prog i0.size 9 (.string s) s.size (byteCells s) w := by rw [hz1]; exact Src.ofString w Tryd.underlying9 s
  have hbl : (byteCells s).length = s.size := byteCells_length s
  have hbc : byteCells s = bc s.data.toList := rfl
  have hll := bc_len l
  have hlen2 : (l ++ s.data.toList).length = n + s.size := by rw [List.length_append, hr.len, ← Lib.size_eq]
  by_cases hroom : n + s.size ≤ c
  · have hrun := run_append_room_src (P := Tryd.prog) w 85 9 ty 5 i0 Tryd.underlying85 hi g 0 n c (.string s) s.size (byteCells s) hs hroom
      (fun j hj => by rw [hz1, Nat.zero_add, Nat.mul_one]; exact (hr.there (n + j) (by omega)).1) (fun j hj => by rw [hz1, Nat.zero_add, Nat.mul_one]; exact (hr.there (n + j) (by omega)).2)
    rw [hz1, Nat.zero_add, Nat.mul_one] at hrun
    refine ⟨g, c, _, hrun, ⟨hr.new, hlen2, hroom, hr.max, fun j hj => ?_, fun j hj => ⟨?_, ?_⟩⟩, below_setCells hr.new _ _ _ (Below.refl _ _)⟩
    · rw [bc_append]
      by_cases hjn : j < n
      · rw [World.cell?_setCells_out g (byteCells s) n w ⟨g, j, none⟩ (fun _ _ => .inl hjn), hr.holds j hjn, List.getElem?_append_left (by rw [hll, hr.len]; exact hjn)]
      · have hin := World.cell?_setCells_in g (byteCells s) n w (fun j hj => (hr.there (n + j) (by omega)).1) (j - n) (by omega)
        rw [show n + (j - n) = j by omega] at hin
        rw [hin, List.getElem?_append_right (by rw [hll, hr.len]; omega), hll, hr.len, ← hbc, List.getElem?_eq_getElem (by omega)]
    · exact World.isSome_setCells g (byteCells s) n w _ (hr.there j hj).1
    · rw [World.frozen?_setCells]; exact (hr.there j hj).2
  · have hold : (Builtin.firstCells i0.size n (.slice (some ⟨g, 0, none⟩) n c)).run Tryd.prog w.drew = .ok (bc l).toArray w.drew := by
      refine run_firstCells_some (P := Tryd.prog) w.drew i0.size n ⟨g, 0, none⟩ n c (bc l) (by rw [hz1, hll, hr.len]; omega) (fun j v hv => ?_)
      have hj : j < n := by
        have := (List.getElem?_eq_some_iff.1 hv).1
        rw [hll, hr.len] at this; exact this
      have hadd : (⟨g, 0, none⟩ : Addr).add j = ⟨g, j, none⟩ := by unfold Addr.add; split <;> simp_all
      rw [hadd]
      exact (hr.holds j hj).trans hv
    have hrun := run_append_grow_src (P := Tryd.prog) w 85 9 ty 5 i0 (.int .u8 0) Tryd.underlying85 hi hz0 (some ⟨g, 0, none⟩) n c (bc l) hold (.string s) s.size (byteCells s) hs (by omega) (by omega)
      (by rw [hz2]; exact growslice_fits (by omega) (by omega))
    have hge := grownCap_ge w (n + s.size) c 5
    have hcm := grownCap_le_maxLen w (n + s.size) c 5 (by unfold maxLen; omega)
    have hcell := fun j => World.cell?_alloc_new w.drew ((bc l ++ byteCells s).toArray ++ Builtin.zeroCells (Value.int .u8 0).cells (grownCap w (n + s.size) c 5 - (n + s.size))) 5 j
    have hsz : ((bc l ++ byteCells s).toArray ++ Builtin.zeroCells (Value.int .u8 0).cells (grownCap w (n + s.size) c 5 - (n + s.size))).size = grownCap w (n + s.size) c 5 := by
      have hz1' : (Value.int IntKind.u8 0).cells.size = 1 := rfl
      simp only [Array.size_append, List.size_toArray, List.length_append, size_zeroCells, hz1', hll, hr.len, hbl]
      omega
    refine ⟨w.heap.size, _, _, hrun, ⟨hB, hlen2, hge, hcm, fun j hj => ?_, fun j hj => ⟨?_, ?_⟩⟩, (Below.refl B w).drew.alloc hB _⟩
    · rw [show (w.drew.heap.size) = w.heap.size from rfl] at hcell
      rw [hcell j, Array.getElem?_append_left (by simp only [List.size_toArray, List.length_append, hll, hr.len, hbl]; exact hj), List.getElem?_toArray, bc_append, hbc]
    · rw [show (w.drew.heap.size) = w.heap.size from rfl] at hcell
      rw [hcell j, Array.getElem?_eq_getElem (by rw [hsz]; exact hj)]; rfl
    · have hb : (w.drew.alloc (.cells ((bc l ++ byteCells s).toArray ++ Builtin.zeroCells (Value.int .u8 0).cells (grownCap w (n + s.size) c 5 - (n + s.size))) 5)).heap[w.heap.size]? = some (.cells ((bc l ++ byteCells s).toArray ++ Builtin.zeroCells (Value.int .u8 0).cells (grownCap w (n + s.size) c 5 - (n + s.size))) 5) := heap_alloc_new w.drew _
      unfold World.frozen?
      rw [hb]
      simp
theorem ap_textG {ops : Array Oper} {rest : List Oper} {o : Oper} {a : Act} {Q : Exit → Act → World → Prop} (w : World) (hgd : o.guard = none) (sl x : Operand)
    (ho : o.op = .call { callee := .builtin .append, args := #[sl, x], argTypes := #[85, 9] })
    (B g n c : Nat) (l : List UInt8) (hs : a.eval sl = .slice (some ⟨g, 0, none⟩) n c) (hr : RowG w B g n c l) (s : ByteArray) (hx : a.eval x = .string s)
    (hlen : n + s.size ≤ 1000000) (hB : B ≤ w.heap.size)
    (h : ∀ g' c' w', RowG w' B g' (n + s.size) c' (l ++ s.data.toList) → Below B w w' → wpList Tryd.prog ops Q rest (a.put o.dst (.slice (some ⟨g', 0, none⟩) (n + s.size) c')) w') : wpList Tryd.prog ops Q (o :: rest) a w := by
  refine wpList_plain hgd fun K hK => ?_
  obtain ⟨g', c', w', hrun, h2, h3⟩ := run_apG w o.type B g n c l hr s hlen hB
  unfold Oper.wp execOp
  simp only [ho, resolve, invoke, builtin, Sem.run_bind, Sem.run_pure, Result.andThen_ok, List.map_toArray, List.map_cons, List.map_nil, hs, hx, hrun]
  exact hK _ _ (h g' c' w' h2 h3)
/- []byte(text) -/
theorem conv_row (w : World) (s : ByteArray) (hs : s.size ≤ 1000000) :
    ∃ c w', (convert 9 85 (.string s)).run Tryd.prog w = .ok (.slice (some ⟨w.heap.size, 0, none⟩) s.size c) w' ∧ RowG w' w.heap.size w.heap.size s.size c s.data.toList ∧ Gr w w' := by
  have hrun := run_bytes_of_string (P := Tryd.prog) w 9 85 5 s Tryd.underlying9 Tryd.underlying85 Tryd.underlying5
  have hge := grownCap_ge w s.size 0 5
  have hcm := grownCap_le_maxLen w s.size 0 5 (by unfold maxLen; omega)
  generalize grownCap w s.size 0 5 = cap at *
  have hsz : (bytesRow s cap).size = cap := by
    have : s.data.size = s.size := rfl
    simp only [bytesRow, Array.size_append, Array.size_map, Array.size_replicate]; omega
  rw [hsz] at hrun
  have hb : (w.drew.alloc (.cells (bytesRow s cap) 5 (cap, cap + 1))).heap[w.heap.size]? = some (.cells (bytesRow s cap) 5 (cap, cap + 1)) := heap_alloc_new w.drew _
  have hcell := fun j => cell_of_row _ w.heap.size j (bytesRow s cap) 5 (cap, cap + 1) hb
  refine ⟨cap, _, hrun, ⟨Nat.le_refl _, (Lib.size_eq s).symm, hge, hcm, fun j hj => ?_, fun j hj => ⟨?_, ?_⟩⟩, ((Gr.refl w).drew).allocO _⟩
  · have hjd : j < s.data.size := hj
    rw [hcell j]
    unfold bytesRow bc
    rw [Array.getElem?_append_left (by simpa using hjd), Array.getElem?_map, List.getElem?_map, ← Array.getElem?_toList]
  · rw [hcell j, Array.getElem?_eq_getElem (by rw [hsz]; exact hj)]; rfl
  · simp only [World.frozen?, hb, Bool.and_eq_false_iff, decide_eq_false_iff_not]
    left; omega
/- string(bytes) -/
theorem conv_backG {w : World} {B g n c : Nat} {l : List UInt8} (h : RowG w B g n c l) : (convert 85 9 (.slice (some ⟨g, 0, none⟩) n c)).run Tryd.prog w = .ok (.string ⟨l.toArray⟩) w := by
  have hl := h.len
  subst hl
  refine run_convert_bytes_back w 85 9 5 ⟨g, 0, none⟩ c l Tryd.underlying85 Tryd.underlying5 Tryd.underlying9 (fun j hj => ?_)
  have hadd : (⟨g, 0, none⟩ : Addr).add j = ⟨g, j, none⟩ := by unfold Addr.add; split <;> simp_all
  rw [hadd, h.holds j hj]
  unfold bc
  rw [List.getElem?_map, List.getElem?_eq_getElem hj]
  rfl

set_option maxHeartbeats 2000000 in
set_option maxRecDepth 100000 in
theorem join_any (ad : Addr) (n c : Nat) (p : List UInt8) (cs : List (List UInt8)) (w : World) (hS : Strs w w.heap.size (some ad) n (p :: cs)) (hc : n ≤ c) (hne : ∀ q ∈ cs, q ≠ []) (hn : n ≤ 100000)
    (hlen : ∀ k, k ≤ cs.length → p.length + ((cs.take k).flatMap List.tail).length ≤ 200000) :
    Calls Tryd.prog 55 #[.slice (some ad) n c] w fun e w' => e = .returned (.string ⟨(p ++ cs.flatMap List.tail).toArray⟩) ∧ Gr w w' := by
  have hl : cs.length + 1 = n := by have := hS.1; simpa using this
  obtain ⟨ad', e0, hbl, hcells⟩ := hS.2 (by omega)
  obtain rfl : ad = ad' := Option.some.inj e0
  have h0 := hcells 0 p rfl
  have hadd0 : ad.add 0 = ad := by unfold Addr.add; simp
  have h0' := h0
  rw [hadd0] at h0'
  have hp0 := hlen 0 (by omega)
  have hpz : (ByteArray.mk p.toArray).size = p.length := size_mk _
  obtain ⟨cp, w1, hcv, hrow, hg1⟩ := conv_row w ⟨p.toArray⟩ (by rw [hpz]; simp at hp0; omega)
  have ed : (ByteArray.mk p.toArray).data.toList = p := rfl
  rw [ed, hpz] at hrow
  rw [hpz] at hcv
  have HX := Lib.hid (And.intro hcells hl)
  have hnp : 1 ≤ n := by omega
  clear e0 hadd0 hl hcells hpz ed hp0
  generalize (ByteArray.mk p.toArray) = s at *
  have hcnp : 1 ≤ c := by omega
  by_cases hc1 : c = 1
  · have hn1 : n = 1 := by omega
    subst hc1 hn1
    have hcs : cs = [] := List.eq_nil_of_length_eq_zero (by have := HX.out.2; omega)
    subst hcs
    have hbk := conv_backG hrow
    go_enter Tryd.func55, Tryd.ntmps55
    go_wp2
    refine wp_loop_rounds 1 ?_
    rw [rounds_succ]
    go_wp2
    go_ret
    exact ⟨by simp, hg1⟩
  · go_enter Tryd.func55, Tryd.ntmps55
    go_wp2
    go_loopg [3, 13] (n - 1) (fun g v3 v wx => ∃ gb nb cb, ∃ k : Nat, v3 = .slice (some ⟨gb, 0, none⟩) nb cb ∧ v = .int .i64 (k : Int) ∧ k + g = n - 1 ∧ Below w.heap.size w wx ∧ w.heap.size ≤ wx.heap.size ∧ RowG wx w.heap.size gb nb cb (p ++ (cs.take k).flatMap List.tail))
    case atStart => exact ⟨_, _, _, 0, rfl, rfl, by omega, hg1.below, hg1.lt, by simpa using hrow⟩
    case round =>
      obtain ⟨gb, nb, cb, k, rfl, rfl, hkg, hb2, hsz2, hrow2⟩ := hrel
      have HG := Lib.hid hkg
      have hnb := hrow2.len
      rw [List.length_append] at hnb
      clear hkg
      by_cases hk : k < n - 1
      · have hk' : k < cs.length := by have := HX.out.2; omega
        have hcell := HX.out.1 (k + 1) cs[k] (by simp [hk'])
        have hcell2 : wr.cell? ⟨ad.block, ad.off + 1 + k, none⟩ = some (.string ⟨cs[k].toArray⟩) := by
          have e : ad.add (k + 1) = ⟨ad.block, ad.off + 1 + k, none⟩ := by
            unfold Addr.add
            rw [if_neg (by omega), show ad.off + (k + 1) = ad.off + 1 + k by omega]
          rw [← e, hb2.cell (by rw [add_block]; exact hbl)]; exact hcell
        have hq := hne _ (List.getElem_mem hk')
        have hql := List.length_pos_iff.2 hq
        have hz : (ByteArray.mk cs[k].toArray).size = cs[k].length := size_mk _
        have hlk := hlen (k + 1) (by omega)
        have hfm : (cs.take (k + 1)).flatMap List.tail = (cs.take k).flatMap List.tail ++ cs[k].tail := by rw [List.take_succ_eq_append_getElem hk', List.flatMap_append]; simp only [List.flatMap_cons, List.flatMap_nil, List.append_nil]
        rw [hfm, List.length_append] at hlk
        obtain ⟨u, hu⟩ : ∃ u, (ByteArray.mk cs[k].toArray).extract 1 (ByteArray.mk cs[k].toArray).size = u := ⟨_, rfl⟩
        have hud : u.data.toList = cs[k].tail := by
          rw [← hu, extract_from]
          show List.drop 1 cs[k] = _
          rw [List.drop_one]
        have hus : u.size = cs[k].tail.length := by rw [Lib.size_eq, hud]
        have hbound : nb + u.size ≤ 1000000 := by omega
        have hpos : 1 ≤ (ByteArray.mk cs[k].toArray).size := by omega
        have HY := Lib.hid (And.intro hud hfm)
        clear hcell hq hql hz hlk hfm hud hus hnb
        generalize (ByteArray.mk cs[k].toArray) = s2 at *
        go_wp2_with (at_builtin; refine ap_textG wr rfl (.tmp 17) (.tmp 19) rfl w.heap.size gb nb cb _ rfl hrow2 u (by first | rfl | (show Value.string (s2.extract 1 s2.size) = _; rw [hu])) hbound hsz2 ?_; intro g3 c3 w3 hrow3 hb3)
        go_roundg (n - 1 - (k + 1))
        case measure => have := HG.out; omega
        case rel =>
          refine ⟨g3, _, c3, k + 1, rfl, by go_num, by omega, hb2.trans hb3, by have := hb3.size; omega, ?_⟩
          rw [HY.out.2, ← HY.out.1, ← List.append_assoc]
          exact hrow3
      · obtain rfl : k = n - 1 := by have := HG.out; omega
        have e1 : cs.take (n - 1) = cs := List.take_of_length_le (by have := HX.out.2; omega)
        rw [e1] at hrow2
        have hbk := conv_backG hrow2
        clear e1 hnb
        go_wp2
        go_ret
        exact ⟨rfl, ⟨hb2⟩⟩
end Go.Proofs.YtbfngdpdgmgfpaaDoor
namespace Go.Proofs.YtbfngdpdgmgfpaaDoor
open Go.RowKit

/- the blocks that F names are in w' as they are in w -/
def Agree (F : Nat → Prop) (w w' : World) : Prop := w.heap.size ≤ w'.heap.size ∧ ∀ a : Addr, F a.block → a.block < w.heap.size → w'.cell? a = w.cell? a
theorem Agree.refl (F : Nat → Prop) (w : World) : Agree F w w := ⟨Nat.le_refl _, fun _ _ _ => rfl⟩
theorem Agree.trans {F : Nat → Prop} {w w1 w2 : World} (h : Agree F w w1) (k : Agree F w1 w2) : Agree F w w2 :=
  ⟨Nat.le_trans h.1 k.1, fun a hf hl => (k.2 a hf (Nat.lt_of_lt_of_le hl h.1)).trans (h.2 a hf hl)⟩
theorem Agree.weak {F G : Nat → Prop} {w w' : World} (h : Agree F w w') (hs : ∀ x, x < w.heap.size → G x → F x) : Agree G w w' :=
  ⟨h.1, fun a hg hl => h.2 a (hs _ hl hg) hl⟩
theorem Gr.agree {w w' : World} (h : Gr w w') (F : Nat → Prop) : Agree F w w' := ⟨h.lt, fun _ _ hl => h.below.cell hl⟩
theorem Below.agree {B : Nat} {w w' : World} (h : Below B w w') {F : Nat → Prop} (hF : ∀ x, F x → x < B) : Agree F w w' := ⟨h.size, fun _ hf _ => h.cell (hF _ hf)⟩
theorem agree_grown {row : Option Nat} {w w' : World} (h : w.grownBy w' row) {F : Nat → Prop} (hF : ∀ x, F x → some x ≠ row) : Agree F w w' :=
  ⟨h.size, fun a hf hl => World.grownBy.cell_far h a hl (hF _ hf)⟩
theorem Mv.agree {b : Nat} {w w' : World} (h : Mv b w w') {F : Nat → Prop} (hF : ∀ x, F x → x ≠ b) : Agree F w w' := agree_grown h (fun x hx e => hF x hx (by injection e))
/- what holds as long as the blocks that F names stay -/
def Fp (F : Nat → Prop) (w : World) (K : World → Prop) : Prop := ∀ w', Agree F w w' → K w'
theorem Fp.now {F : Nat → Prop} {w : World} {K : World → Prop} (h : Fp F w K) : K w := h w (Agree.refl _ _)
theorem Fp.agree {F : Nat → Prop} {w w1 : World} {K : World → Prop} (h : Fp F w K) (k : Agree F w w1) : Fp F w1 K := fun w' h' => h w' (k.trans h')
theorem Fp.weak {F G : Nat → Prop} {w : World} {K : World → Prop} (h : Fp F w K) (hs : ∀ x, x < w.heap.size → F x → G x) : Fp G w K := fun w' h' => h w' (h'.weak hs)
theorem Fp.gr {F : Nat → Prop} {w w1 : World} {K : World → Prop} (h : Fp F w K) (hg : Gr w w1) : Fp F w1 K := h.agree (hg.agree F)

/- lines, in blocks below B -/
def Lns (w : World) (B : Nat) (A : Option Addr) (n : Nat) (ls : List Ln.Li) : Prop :=
  ls.length = n ∧ (0 < n → ∃ ad : Addr, A = some ad ∧ ad.block < B ∧ ∀ j l, ls[j]? = some l → ∃ A' n' c', w.cell? (ad.add (j * 3)) = some (.string ⟨l.name.toArray⟩) ∧
    w.cell? ⟨(ad.add (j * 3)).block, (ad.add (j * 3)).off + 1, none⟩ = some (.slice A' n' c') ∧ w.cell? ⟨(ad.add (j * 3)).block, (ad.add (j * 3)).off + 2, none⟩ = some (.string ⟨l.value.toArray⟩) ∧ Pars w B A' n' l.ps ∧ n' ≤ c')
theorem Lns.nil (w : World) (B : Nat) (A : Option Addr) : Lns w B A 0 [] := ⟨rfl, fun h => absurd h (by omega)⟩
theorem Lns.at_ {w : World} {B : Nat} {A : Option Addr} {n : Nat} {ls : List Ln.Li} (h : Lns w B A n ls) {k : Nat} (hk : k < n) :
    ∃ ad : Addr, ∃ hk' : k < ls.length, ∃ A' n' c', A = some ad ∧ ad.block < B ∧ w.cell? (ad.add (k * 3)) = some (.string ⟨ls[k].name.toArray⟩) ∧ w.cell? ⟨(ad.add (k * 3)).block, (ad.add (k * 3)).off + 1, none⟩ = some (.slice A' n' c') ∧
      w.cell? ⟨(ad.add (k * 3)).block, (ad.add (k * 3)).off + 2, none⟩ = some (.string ⟨ls[k].value.toArray⟩) ∧ Pars w B A' n' ls[k].ps ∧ n' ≤ c' := by
  obtain ⟨ad, e, hb, hc⟩ := h.2 (by omega)
  have hl : k < ls.length := by rw [h.1]; exact hk
  obtain ⟨A', n', c', h1, h2, h3, h4, h5⟩ := hc k _ (List.getElem?_eq_getElem hl)
  exact ⟨ad, hl, A', n', c', e, hb, h1, h2, h3, h4, h5⟩
theorem Lns.keep {w w' : World} {B : Nat} {A : Option Addr} {n : Nat} {ls : List Ln.Li} (h : Lns w B A n ls) (hg : Below B w w') : Lns w' B A n ls :=
  ⟨h.1, fun hn => by
    obtain ⟨ad, e, hb, hc⟩ := h.2 hn
    refine ⟨ad, e, hb, fun j l hl => ?_⟩
    obtain ⟨A', n', c', h1, h2, h3, h4, h5⟩ := hc j l hl
    exact ⟨A', n', c', (hg.cell (by rw [add_block]; exact hb)).trans h1, (hg.cell (by show (ad.add (j * 3)).block < _; rw [add_block]; exact hb)).trans h2, (hg.cell (by show (ad.add (j * 3)).block < _; rw [add_block]; exact hb)).trans h3, h4.keep hg, h5⟩⟩
theorem Lns.more {w : World} {B B' : Nat} {A : Option Addr} {n : Nat} {ls : List Ln.Li} (h : Lns w B A n ls) (hB : B ≤ B') : Lns w B' A n ls :=
  ⟨h.1, fun hn => by
    obtain ⟨ad, e, hb, hc⟩ := h.2 hn
    refine ⟨ad, e, by omega, fun j l hl => ?_⟩
    obtain ⟨A', n', c', h1, h2, h3, h4, h5⟩ := hc j l hl
    exact ⟨A', n', c', h1, h2, h3, h4.more hB, h5⟩⟩
theorem Lns.gr {w w' : World} {A : Option Addr} {n : Nat} {ls : List Ln.Li} (h : Lns w w.heap.size A n ls) (hg : Gr w w') : Lns w' w'.heap.size A n ls := (h.keep hg.below).more hg.lt
/- components, nested at most d deep, in blocks below B -/
def Kds : Nat → World → Nat → Option Addr → Nat → List Ln.Tr → Prop
  | 0, _, _, _, n, ts => ts.length = n ∧ n = 0
  | d + 1, w, B, A, n, ts => ts.length = n ∧ (0 < n → ∃ ad : Addr, A = some ad ∧ ad.block < B ∧ ∀ j t, ts[j]? = some t → ∃ A1 n1 c1 A2 n2 c2, w.cell? (ad.add (j * 3)) = some (.string ⟨t.name.toArray⟩) ∧
    w.cell? ⟨(ad.add (j * 3)).block, (ad.add (j * 3)).off + 1, none⟩ = some (.slice A1 n1 c1) ∧ w.cell? ⟨(ad.add (j * 3)).block, (ad.add (j * 3)).off + 2, none⟩ = some (.slice A2 n2 c2) ∧ Lns w B A1 n1 t.lines ∧ Kds d w B A2 n2 t.kids)
theorem Kds.len {d : Nat} {w : World} {B : Nat} {A : Option Addr} {n : Nat} {ts : List Ln.Tr} (h : Kds d w B A n ts) : ts.length = n := by cases d <;> exact h.1
theorem Kds.nil (d : Nat) (w : World) (B : Nat) (A : Option Addr) : Kds d w B A 0 [] := by
  cases d with
  | zero => exact ⟨rfl, rfl⟩
  | succ d => exact ⟨rfl, fun h => absurd h (by omega)⟩
theorem Kds.at_ {d : Nat} {w : World} {B : Nat} {A : Option Addr} {n : Nat} {ts : List Ln.Tr} (h : Kds d w B A n ts) {k : Nat} (hk : k < n) :
    ∃ d' : Nat, d' < d ∧ ∃ ad : Addr, ∃ hk' : k < ts.length, ∃ A1 n1 c1 A2 n2 c2, A = some ad ∧ ad.block < B ∧ w.cell? (ad.add (k * 3)) = some (.string ⟨ts[k].name.toArray⟩) ∧ w.cell? ⟨(ad.add (k * 3)).block, (ad.add (k * 3)).off + 1, none⟩ = some (.slice A1 n1 c1) ∧
      w.cell? ⟨(ad.add (k * 3)).block, (ad.add (k * 3)).off + 2, none⟩ = some (.slice A2 n2 c2) ∧ Lns w B A1 n1 ts[k].lines ∧ Kds d' w B A2 n2 ts[k].kids := by
  cases d with
  | zero => have := h.2; omega
  | succ d =>
    obtain ⟨ad, e, hb, hc⟩ := h.2 (by omega)
    have hl : k < ts.length := by rw [h.1]; exact hk
    obtain ⟨A1, n1, c1, A2, n2, c2, h1, h2, h3, h4, h5⟩ := hc k _ (List.getElem?_eq_getElem hl)
    exact ⟨d, by omega, ad, hl, A1, n1, c1, A2, n2, c2, e, hb, h1, h2, h3, h4, h5⟩
theorem Kds.keep {w w' : World} {B : Nat} (hg : Below B w w') : ∀ {d : Nat} {A : Option Addr} {n : Nat} {ts : List Ln.Tr}, Kds d w B A n ts → Kds d w' B A n ts := by
  intro d
  induction d with
  | zero => exact fun h => h
  | succ d ih =>
    intro A n ts h
    refine ⟨h.1, fun hn => ?_⟩
    obtain ⟨ad, e, hb, hc⟩ := h.2 hn
    refine ⟨ad, e, hb, fun j t ht => ?_⟩
    obtain ⟨A1, n1, c1, A2, n2, c2, h1, h2, h3, h4, h5⟩ := hc j t ht
    exact ⟨A1, n1, c1, A2, n2, c2, (hg.cell (by rw [add_block]; exact hb)).trans h1, (hg.cell (by show (ad.add (j * 3)).block < _; rw [add_block]; exact hb)).trans h2, (hg.cell (by show (ad.add (j * 3)).block < _; rw [add_block]; exact hb)).trans h3, h4.keep hg, ih h5⟩
theorem Kds.more {w : World} {B B' : Nat} (hB : B ≤ B') : ∀ {d d' : Nat} {A : Option Addr} {n : Nat} {ts : List Ln.Tr}, Kds d w B A n ts → d ≤ d' → Kds d' w B' A n ts := by
  intro d
  induction d with
  | zero =>
    intro d' A n ts h hd
    obtain ⟨h1, h2⟩ := h
    subst h2
    rw [List.eq_nil_of_length_eq_zero h1]
    exact Kds.nil _ _ _ _
  | succ d ih =>
    intro d' A n ts h hd
    obtain ⟨d', rfl⟩ : ∃ e, d' = e + 1 := ⟨d' - 1, by omega⟩
    refine ⟨h.1, fun hn => ?_⟩
    obtain ⟨ad, e, hb, hc⟩ := h.2 hn
    refine ⟨ad, e, by omega, fun j t ht => ?_⟩
    obtain ⟨A1, n1, c1, A2, n2, c2, h1, h2, h3, h4, h5⟩ := hc j t ht
    exact ⟨A1, n1, c1, A2, n2, c2, h1, h2, h3, h4.more hB, ih h5 (by omega)⟩
theorem Kds.gr {d : Nat} {w w' : World} {A : Option Addr} {n : Nat} {ts : List Ln.Tr} (h : Kds d w w.heap.size A n ts) (hg : Gr w w') : Kds d w' w'.heap.size A n ts := (h.keep hg.below).more hg.lt (Nat.le_refl _)
/- rows that a call owns -/
theorem own_fp {w w' : World} {B : Nat} {e : TypeId} {sz n : Nat} {A : Option Addr} {c : Nat} {xs : List Value} {F : Nat → Prop} (h : w.ownsRow B e sz (.slice A n c) n xs) (hF : ∀ k, (Value.slice A n c).ownBlock = some k → F k) (hg : Agree F w w') (hn : 0 < n) :
    ∃ g, A = some ⟨g, 0, none⟩ ∧ g < w'.heap.size ∧ ∀ j x, xs[j]? = some x → w'.cell? ⟨g, j, none⟩ = some x := by
  obtain ⟨g, cap, hv, hb, hlt⟩ := h.form hn
  injection hv with h4
  subst h4
  refine ⟨g, rfl, Nat.lt_of_lt_of_le hlt hg.1, fun j x hx => ?_⟩
  have hc := World.ownsRow.cells (g := g) h rfl j x hx
  rw [add_zero_] at hc
  exact (hg.2 _ (hF g rfl) hlt).trans hc
theorem PRow.fp {w : World} {B : Nat} {P F : Nat → Prop} {e : TypeId} {A : Option Addr} {n c : Nat} {ps : List Ln.Par} (h : PRow w B P e A n c ps) (hP : ∀ x, P x → F x) (hF : ∀ k, B ≤ k → F k) : Fp F w (fun v => Pars v v.heap.size A n ps) := by
  intro w' hg
  have ho := h.own
  obtain ⟨xs, h1, h2, h3⟩ := h
  refine ⟨h2, fun hn => ?_⟩
  obtain ⟨g, rfl, hlt, hc⟩ := own_fp h1 (fun k hk => hF k (ho k hk).1) hg hn
  refine ⟨⟨g, 0, none⟩, rfl, hlt, fun j p hp => ?_⟩
  obtain ⟨g1, A', n', c', g2, g3, g4⟩ := h3 j p hp
  rw [add_zero_]
  refine ⟨hc _ _ g1, A', n', c', hc _ _ g2, g3.1, fun hn' => ?_⟩
  obtain ⟨ad, e1, hb, hcc⟩ := g3.2 hn'
  refine ⟨ad, e1, Nat.lt_of_lt_of_le hb hg.1, fun j u hu => (hg.2 _ (by rw [add_block]; exact hP _ (g4 hn' ad e1).1) (by rw [add_block]; exact hb)).trans (hcc j u hu)⟩
end Go.Proofs.YtbfngdpdgmgfpaaDoor
namespace Go.Proofs.YtbfngdpdgmgfpaaDoor
open Go.RowKit

/- what the cells v say of a in the world w -/
abbrev Mean (α : Type) := α → List Value → World → Prop
def Ml : Mean Ln.Li := fun l v w => ∃ A n c, v = [.string ⟨l.name.toArray⟩, .slice A n c, .string ⟨l.value.toArray⟩] ∧ Pars w w.heap.size A n l.ps ∧ n ≤ c
def Mt (d : Nat) : Mean Ln.Tr := fun t v w => ∃ A n c A2 n2 c2, v = [.string ⟨t.name.toArray⟩, .slice A n c, .slice A2 n2 c2] ∧ Lns w w.heap.size A n t.lines ∧ Kds d w w.heap.size A2 n2 t.kids
def EEls {α : Type} (w : World) (F : Nat → Prop) (M : Mean α) (own : Option Nat) (xs : List Value) (us : List α) : Prop :=
  ∀ j a, us[j]? = some a → ∃ v, v.length = 3 ∧ (∀ i, i < 3 → xs[j * 3 + i]? = v[i]?) ∧ Fp (fun x => F x ∧ own ≠ some x) w (M a v)
def ERow {α : Type} (w : World) (B : Nat) (e : TypeId) (F : Nat → Prop) (M : Mean α) (A : Option Addr) (n c : Nat) (us : List α) : Prop :=
  ∃ xs, w.ownsRow B e 3 (.slice A n c) n xs ∧ us.length = n ∧ EEls w F M (Value.slice A n c).ownBlock xs us
section
variable {α : Type} {M : Mean α}
theorem ERow.nil (w : World) (B : Nat) (e : TypeId) (F : Nat → Prop) (M : Mean α) : ERow w B e F M none 0 0 [] := ⟨[], World.ownsRow_nil _ _ _ _, rfl, fun j p h => by simp at h⟩
theorem ERow.own {w : World} {B : Nat} {e : TypeId} {F : Nat → Prop} {A : Option Addr} {n c : Nat} {us : List α} (h : ERow w B e F M A n c us) : ∀ k, (Value.slice A n c).ownBlock = some k → B ≤ k ∧ k < w.heap.size := by
  obtain ⟨xs, h1, _⟩ := h
  exact fun k hk => h1.lt k hk
theorem ERow.cap {w : World} {B : Nat} {e : TypeId} {F : Nat → Prop} {A : Option Addr} {n c : Nat} {us : List α} (h : ERow w B e F M A n c us) : n ≤ c := by
  obtain ⟨xs, h1, _⟩ := h
  rcases h1.2 with ⟨hn, rfl⟩ | ⟨g, cap, cur, hv, _, _, hc, _⟩
  · exact Nat.zero_le _
  · injection hv with _ _ h3; omega
/- a change of a block that is not this row and that nothing of its meaning lies in -/
theorem ERow.kept {w w' : World} {row : Option Nat} {B : Nat} {e : TypeId} {F : Nat → Prop} {A : Option Addr} {n c : Nat} {us : List α} (h : ERow w B e F M A n c us) (hg : w.grownBy w' row) (hr : ∀ k, row = some k → (Value.slice A n c).ownBlock ≠ some k ∧ ¬ F k) : ERow w' B e F M A n c us := by
  obtain ⟨xs, h1, h2, h3⟩ := h
  refine ⟨xs, World.ownsRow.kept h1 hg ?_, h2, fun j a ha => ?_⟩
  · cases e1 : (Value.slice A n c).ownBlock with
    | none => exact .inl rfl
    | some k => exact .inr fun e2 => (hr k e2.symm).1 e1
  · obtain ⟨v, g1, g2, g3⟩ := h3 j a ha
    exact ⟨v, g1, g2, g3.agree (agree_grown hg (fun x hx e2 => (hr x e2.symm).2 hx.1))⟩
theorem ERow.gr {w w' : World} {B : Nat} {e : TypeId} {F : Nat → Prop} {A : Option Addr} {n c : Nat} {us : List α} (h : ERow w B e F M A n c us) (hg : Gr w w') : ERow w' B e F M A n c us :=
  h.kept (row := none) ⟨hg.below.os, hg.below.tape, hg.below.output, hg.below.size, fun i hi _ => hg.below.block i hi⟩ (fun k hk => by cases hk)
theorem ERow.mv {w w' : World} {b B : Nat} {e : TypeId} {F : Nat → Prop} {A : Option Addr} {n c : Nat} {us : List α} (h : ERow w B e F M A n c us) (hg : Mv b w w') (hb : b < B) (hF : ¬ F b) : ERow w' B e F M A n c us :=
  h.kept hg (fun k hk => by injection hk with hk; subst hk; exact ⟨fun e1 => by have := (h.own _ e1).1; omega, hF⟩)
/- fewer blocks may be named, us long us none of them is in use -/
theorem ERow.weak {w : World} {B : Nat} {e : TypeId} {F G : Nat → Prop} {A : Option Addr} {n c : Nat} {us : List α} (h : ERow w B e F M A n c us) (hs : ∀ x, x < w.heap.size → F x → G x) : ERow w B e G M A n c us := by
  obtain ⟨xs, h1, h2, h3⟩ := h
  refine ⟨xs, h1, h2, fun j a ha => ?_⟩
  obtain ⟨v, g1, g2, g3⟩ := h3 j a ha
  exact ⟨v, g1, g2, g3.weak (fun x hx hf => ⟨hs x hx hf.1, hf.2⟩)⟩
/- what the row moved or grew: all else stays -/
theorem fp_after {w w' : World} {F : Nat → Prop} {own : Option Nat} {g : Nat} {K : World → Prop} (hK : Fp (fun x => F x ∧ own ≠ some x) w K) (h2 : w.grownBy w' own) (h3 : own = some g ∨ w.heap.size ≤ g) : Fp (fun x => F x ∧ some g ≠ some x) w' K := by
  have hw : Fp (fun x => F x ∧ some g ≠ some x ∧ own ≠ some x) w K := hK.weak (fun x hx hf => ⟨hf.1, fun e2 => by
    have e3 : g = x := by simpa using e2
    rcases h3 with h3 | h3
    · exact hf.2 (by rw [h3, e3])
    · omega, hf.2⟩)
  exact (hw.agree (agree_grown h2 (fun x hx e2 => hx.2.2 e2.symm))).weak (fun x _ hf => ⟨hf.1, hf.2.1⟩)
theorem erow_after {w W w' : World} {B : Nat} {e : TypeId} {F : Nat → Prop} {A : Option Addr} {n c : Nat} {us : List α} {xs : List Value} (hx : xs.length = n * 3) (hl : us.length = n) (hE : EEls w F M (Value.slice A n c).ownBlock xs us)
    (a : α) (x0 x1 x2 : Value) (hM : Fp (fun x => F x ∧ (Value.slice A n c).ownBlock ≠ some x) w (M a [x0, x1, x2]))
    (hgW : Gr w W) (hsz : W.heap.size = w.heap.size + 1) {g cap : Nat} (h1 : w'.ownsRow B e 3 (.slice (some ⟨g, 0, none⟩) (n + 1) cap) (n + 1) (xs ++ [x0, x1, x2]))
    (h2 : W.grownBy w' (Value.slice A n c).ownBlock) (h3 : (Value.slice A n c).ownBlock = some g ∨ g = w.heap.size + 1) : ERow w' B e F M (some ⟨g, 0, none⟩) (n + 1) cap (us ++ [a]) := by
  have key : ∀ K : World → Prop, Fp (fun x => F x ∧ (Value.slice A n c).ownBlock ≠ some x) w K → Fp (fun x => F x ∧ (Value.slice (some ⟨g, 0, none⟩) (n + 1) cap).ownBlock ≠ some x) w' K := by
    intro K hK
    have h4 := fp_after (g := g) (hK.gr hgW) h2 (by
      rcases h3 with h3 | h3
      · exact .inl h3
      · exact .inr (by rw [h3, hsz]; exact Nat.le_refl _))
    exact h4
  refine ⟨_, h1, by rw [List.length_append, hl]; rfl, fun j b hb => ?_⟩
  rcases Nat.lt_or_ge j n with hj | hj
  · rw [List.getElem?_append_left (by omega)] at hb
    obtain ⟨v, g1, g2, g3⟩ := hE j b hb
    refine ⟨v, g1, fun i hi => ?_, key _ g3⟩
    rw [List.getElem?_append_left (by omega)]; exact g2 i hi
  · have hj2 : j = n := by
      have := (List.getElem?_eq_some_iff.1 hb).1
      rw [List.length_append, List.length_singleton] at this
      omega
    subst hj2
    rw [List.getElem?_append_right (by omega), hl, Nat.sub_self] at hb
    have : a = b := by simpa using hb
    subst this
    refine ⟨[x0, x1, x2], rfl, fun i hi => ?_, key _ hM⟩
    rw [List.getElem?_append_right (by omega), hx, Nat.add_sub_cancel_left]
/- append(out, element), the element laid in a new block first; in a region, where a step may be all that is left -/
theorem st_row {ops : Array Oper} {o : Oper} {a : Act} {K : Act → World → Prop} {Q : Exit → Act → World → Prop} {E : Prop} (w : World) (hgd : o.guard = none) (sl x : Operand) (t e : TypeId) (z : Value) (bytes : Nat)
    (ht : Tryd.prog.underlying t = some (.slice e)) (hinfo : (Tryd.prog.info? e).map (fun i => (i.zero, i.size, i.bytes)) = some (some z, 3, bytes)) (hz : z.cells.size = 3)
    (ho : o.op = .call { callee := .builtin .append, args := #[sl, x], argTypes := #[t, t] })
    (B : Nat) (F : Nat → Prop) (A : Option Addr) (n c : Nat) (us : List α) (hs : a.eval sl = .slice A n c) (hrow : ERow w B e F M A n c us) (b : α) (x0 x1 x2 : Value) (h0 : x0.oneCell' = true) (h1' : x1.oneCell' = true) (h2' : x2.oneCell' = true) (hM : Fp (fun x => F x ∧ (Value.slice A n c).ownBlock ≠ some x) w (M b [x0, x1, x2]))
    (hx : a.eval x = .slice (some ⟨w.heap.size, 0, none⟩) 1 1) (hlen : (n + 1) * bytes ≤ 140737488355328) (hn : n + 1 ≤ 140737488355328) (hB : B ≤ w.heap.size)
    (h : ∀ g c' w', ERow w' B e F M (some ⟨g, 0, none⟩) (n + 1) c' (us ++ [b]) → ((Value.slice A n c).ownBlock = some g ∨ w.heap.size ≤ g) → w.grownBy w' (Value.slice A n c).ownBlock → K (a.put o.dst (.slice (some ⟨g, 0, none⟩) (n + 1) c')) w') :
    if Region.wanted o (yielded ops a.tmps) = true then Oper.wp Tryd.prog o a (w.alloc (.cells #[x0, x1, x2] e)) K Q else E := by
  obtain ⟨i0, hi, hz0, hz1, hz2⟩ := info_parts hinfo
  obtain ⟨xs, h1, h2, h3⟩ := hrow
  have hsz : (w.alloc (.cells #[x0, x1, x2] e)).heap.size = w.heap.size + 1 := by simp
  have hown2 : (w.alloc (.cells #[x0, x1, x2] e)).ownsRow B e 3 (.slice A n c) n xs := World.ownsRow.alloc h1 _
  refine step_append_lies _ hgd sl x t ho B e i0 _ 3 bytes ht hi hz0 hz1 hz2 hz (by omega) (.slice A n c) n xs hs hown2 ⟨w.heap.size, 0, none⟩ 1 1 [x0, x1, x2] hx rfl
    (World.news_of_block (cs := #[x0, x1, x2]) (t := e) (fr := (0, 0)) (heap_alloc_new w _)) (by simp [h0, h1', h2']) (by omega) (by unfold maxLen; omega) (by omega) (by omega) (w.heap.size + 1) (by simp) ?_
  intro g cap w' g1 g2 g3 _
  have hgr : Gr w (w.alloc (.cells #[x0, x1, x2] e)) := (Gr.refl w).allocO _
  refine h g cap w' (erow_after h1.1 h2 h3 b x0 x1 x2 hM hgr hsz g1 g2 g3) (by rcases g3 with g3 | g3; exact .inl g3; exact .inr (by omega)) ?_
  exact World.grownBy.trans ⟨hgr.below.os, hgr.below.tape, hgr.below.output, hgr.below.size, fun i hi _ => hgr.below.block i hi⟩ g2
end
theorem lns_of_row {w : World} {B : Nat} {e : TypeId} {F G : Nat → Prop} {A : Option Addr} {n c : Nat} {ls : List Ln.Li} (h : ERow w B e F Ml A n c ls) (hF : ∀ x, F x → G x) (hG : ∀ k, (Value.slice A n c).ownBlock = some k → G k) : Fp G w (fun v => Lns v v.heap.size A n ls) := by
  intro w' hg
  obtain ⟨xs, h1, h2, h3⟩ := h
  refine ⟨h2, fun hn => ?_⟩
  obtain ⟨g, rfl, hlt, hc⟩ := own_fp h1 hG hg hn
  refine ⟨⟨g, 0, none⟩, rfl, hlt, fun j l hl => ?_⟩
  obtain ⟨v, g1, g2, g3⟩ := h3 j l hl
  obtain ⟨A', n', c', rfl, g4, g5⟩ := g3 w' (hg.weak (fun x _ hx => hF x hx.1))
  rw [add_zero_]
  exact ⟨A', n', c', hc _ _ (g2 0 (by omega)), hc _ _ (g2 1 (by omega)), hc _ _ (g2 2 (by omega)), g4, g5⟩
theorem kds_of_row {d : Nat} {w : World} {B : Nat} {e : TypeId} {F G : Nat → Prop} {A : Option Addr} {n c : Nat} {ts : List Ln.Tr} (h : ERow w B e F (Mt d) A n c ts) (hF : ∀ x, F x → G x) (hG : ∀ k, (Value.slice A n c).ownBlock = some k → G k) : Fp G w (fun v => Kds (d + 1) v v.heap.size A n ts) := by
  intro w' hg
  obtain ⟨xs, h1, h2, h3⟩ := h
  refine ⟨h2, fun hn => ?_⟩
  obtain ⟨g, rfl, hlt, hc⟩ := own_fp h1 hG hg hn
  refine ⟨⟨g, 0, none⟩, rfl, hlt, fun j l hl => ?_⟩
  obtain ⟨v, g1, g2, g3⟩ := h3 j l hl
  obtain ⟨A', n', c', A2, n2, c2, rfl, g4, g5⟩ := g3 w' (hg.weak (fun x _ hx => hF x hx.1))
  rw [add_zero_]
  exact ⟨A', n', c', A2, n2, c2, hc _ _ (g2 0 (by omega)), hc _ _ (g2 1 (by omega)), hc _ _ (g2 2 (by omega)), g4, g5⟩
theorem info_line : (Tryd.prog.info? 48).map (fun i => (i.zero, i.size, i.bytes)) = some (some (.agg #[.string ⟨#[]⟩, .slice none 0 0, .string ⟨#[]⟩]), 3, 56) := by kernel_rfl
theorem info_refline : (Tryd.prog.info? 53).map (fun i => (i.zero, i.size, i.bytes)) = some (some (.agg #[.string ⟨#[]⟩, .slice none 0 0, .string ⟨#[]⟩]), 3, 56) := by kernel_rfl
theorem info_tree : (Tryd.prog.info? 31).map (fun i => (i.zero, i.size, i.bytes)) = some (some (.agg #[.string ⟨#[]⟩, .slice none 0 0, .slice none 0 0]), 3, 64) := by kernel_rfl
theorem info_reftree : (Tryd.prog.info? 25).map (fun i => (i.zero, i.size, i.bytes)) = some (some (.agg #[.string ⟨#[]⟩, .slice none 0 0, .slice none 0 0]), 3, 64) := by kernel_rfl
end Go.Proofs.YtbfngdpdgmgfpaaDoor
namespace Go.Proofs.YtbfngdpdgmgfpaaDoor
open Go.RowKit

theorem RowG.put {w : World} {B g n c : Nat} {l : List UInt8} (h : RowG w B g n c l) (j : Nat) (b : UInt8) : RowG (w.setCell ⟨g, j, none⟩ (.int .u8 (b.toNat : Int))) B g n c (l.set j b) := by
  refine ⟨h.new, by rw [List.length_set]; exact h.len, h.le, h.max, fun i hi => ?_, fun i hi => ?_⟩
  · by_cases e : j = i
    · subst e
      obtain ⟨v, hv⟩ := Option.isSome_iff_exists.1 (h.there j (by have := h.le; omega)).1
      rw [World.cell?_setCell_same _ _ _ hv]
      unfold bc
      rw [List.getElem?_map, List.getElem?_set_self (by rw [h.len]; exact hi)]
      rfl
    · rw [World.cell?_setCell_other (h := fun e2 => e (congrArg Addr.off e2)), h.holds i hi]
      unfold bc
      rw [List.getElem?_map, List.getElem?_map, List.getElem?_set_ne e]
  · obtain ⟨h1, h2⟩ := h.there i hi
    refine ⟨?_, by rw [World.frozen?_setCell]; exact h2⟩
    by_cases e : j = i
    · subst e
      obtain ⟨v, hv⟩ := Option.isSome_iff_exists.1 h1
      rw [World.cell?_setCell_same _ _ _ hv]; rfl
    · rw [World.cell?_setCell_other (h := fun e2 => e (congrArg Addr.off e2))]; exact h1
theorem up_hi {b : UInt8} (h : (97 : Int) ≤ (b.toNat : Int)) (h2 : (b.toNat : Int) ≤ 122) : ((Ln.up b).toNat : Int) = (b.toNat : Int) - 32 := by rw [up_int, if_pos ⟨h, h2⟩]
theorem up_lo {b : UInt8} (h : ¬ ((97 : Int) ≤ (b.toNat : Int) ∧ (b.toNat : Int) ≤ 122)) : Ln.up b = b := by
  apply UInt8.toNat_inj.1
  have := up_int b
  rw [if_neg h] at this
  omega
set_option maxHeartbeats 4000000 in
set_option maxRecDepth 100000 in
theorem tupper_any (s : ByteArray) (w : World) (hs : s.size ≤ 1000000) :
    Calls Tryd.prog 59 #[.string s] w fun e w' => e = .returned (.string ⟨(Ln.upp s.data.toList).toArray⟩) ∧ Gr w w' := by
  obtain ⟨c, w1, hcv, hrow, hg1⟩ := conv_row w s hs
  have HSZ := Lib.hid (Lib.size_eq s)
  go_enter Tryd.func59, Tryd.ntmps59
  go_wp2
  go_loopg [10] s.size (fun g v wx => ∃ k : Nat, v = .int .i64 (k : Int) ∧ k + g = s.size ∧ RowG wx w.heap.size w.heap.size s.size c ((s.data.toList.take k).map Ln.up ++ s.data.toList.drop k) ∧ Below w.heap.size w wx)
  case atStart => exact ⟨0, rfl, by omega, by simpa using hrow, hg1.below⟩
  case round =>
    obtain ⟨k, rfl, hkg, hr, hbx⟩ := hrel
    have HG := Lib.hid hkg
    clear hkg hcv hrow
    by_cases hk : k < s.size
    · have hk' : k < s.data.toList.length := by rw [← HSZ.out]; exact hk
      have hbk : s.data.toList[k]? = some s[k] := at_toNat s k hk
      have hbk2 : s.data.toList[k] = s[k] := by rw [List.getElem?_eq_getElem hk'] at hbk; exact Option.some.inj hbk
      have hdr : s.data.toList.drop k = s[k] :: s.data.toList.drop (k + 1) := by rw [List.drop_eq_getElem_cons hk', hbk2]
      have hml : ((s.data.toList.take k).map Ln.up).length = k := by rw [List.length_map, List.length_take]; omega
      have hce0 := hr.holds k hk
      have hfz := (hr.there k (by have := hr.le; omega)).2
      unfold bc at hce0
      rw [List.getElem?_map, hdr, List.getElem?_append_right (by omega), hml, Nat.sub_self] at hce0
      have hce : wr.cell? ⟨w.heap.size, k, none⟩ = some (.int .u8 (s[k].toNat : Int)) := hce0
      clear hce0
      have hkc : (k : Int) < (s.size : Int) := by omega
      have hTK : (s.data.toList.take (k + 1)).map Ln.up = (s.data.toList.take k).map Ln.up ++ [Ln.up s[k]] := by rw [List.take_succ_eq_append_getElem hk', List.map_append, hbk2]; rfl
      have hput := hr.put k (Ln.up s[k])
      have hset : ((s.data.toList.take k).map Ln.up ++ s.data.toList.drop k).set k (Ln.up s[k]) = (s.data.toList.take (k + 1)).map Ln.up ++ s.data.toList.drop (k + 1) := by
        rw [hdr, hTK, List.set_append, if_neg (by omega), hml, Nat.sub_self]
        simp
      rw [hset] at hput
      have HUP := Lib.hid (@up_hi s[k])
      have HLO := Lib.hid (@up_lo s[k])
      have HDT := Lib.hid (And.intro hdr hTK)
      have hb0 : (0 : Int) ≤ (s[k].toNat : Int) := by omega
      have hb1 : (s[k].toNat : Int) ≤ 255 := by have := s[k].toNat_lt; omega
      clear hset hml hdr hTK hbk hbk2
      generalize s[k] = b at *
      by_cases h1 : (97 : Int) ≤ (b.toNat : Int)
      · by_cases h2 : (b.toNat : Int) ≤ 122
        · have hup := HUP.out h1 h2
          have hval : (b.toNat : Int) - 97 + 65 = ((Ln.up b).toNat : Int) := by omega
          clear HUP HLO hup
          go_wp2
          go_roundg (s.size - (k + 1))
          case measure => have := HG.out; omega
          case rel =>
            refine ⟨k + 1, by go_num, by omega, ?_, ?_⟩
            · simpa [hval] using hput
            · exact hbx.setCell (p := ⟨w.heap.size, k, none⟩) (Nat.le_refl _) _
        · have hlo := HLO.out (fun h => h2 h.2)
          have HR2 : Hid ((s.data.toList.take (k + 1)).map Ln.up ++ s.data.toList.drop (k + 1) = (s.data.toList.take k).map Ln.up ++ s.data.toList.drop k) := Lib.hid (by rw [HDT.out.1, HDT.out.2, hlo]; simp)
          clear HUP HLO hlo hput
          go_wp2
          go_roundg (s.size - (k + 1))
          case measure => have := HG.out; omega
          case rel => exact ⟨k + 1, by go_num, by omega, by rw [HR2.out]; exact hr, hbx⟩
      · have hlo := HLO.out (fun h => h1 h.1)
        have HR2 : Hid ((s.data.toList.take (k + 1)).map Ln.up ++ s.data.toList.drop (k + 1) = (s.data.toList.take k).map Ln.up ++ s.data.toList.drop k) := Lib.hid (by rw [HDT.out.1, HDT.out.2, hlo]; simp)
        clear HUP HLO hlo hput
        go_wp2
        go_roundg (s.size - (k + 1))
        case measure => have := HG.out; omega
        case rel => exact ⟨k + 1, by go_num, by omega, by rw [HR2.out]; exact hr, hbx⟩
    · obtain rfl : k = s.size := by have := HG.out; omega
      rw [List.take_of_length_le (by rw [HSZ.out]; exact Nat.le_refl _), List.drop_eq_nil_of_le (by rw [HSZ.out]; exact Nat.le_refl _), List.append_nil] at hr
      have hcb := conv_backG hr
      go_wp2
      go_ret
      exact ⟨rfl, ⟨hbx⟩⟩
end Go.Proofs.YtbfngdpdgmgfpaaDoor
