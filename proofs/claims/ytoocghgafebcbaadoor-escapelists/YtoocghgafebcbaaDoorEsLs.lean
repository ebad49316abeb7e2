/- What escape.List returns. -/
import Derived.Test.YtoocghgafebcbaaDoorEsTx
namespace Go.Proofs.YtoocghgafebcbaaDoor
open Go.RowKit

namespace Es
def lsE (l : List (List UInt8)) : Int := if l = [] ∨ l = [[]] then 7 else lsB l
def lsT (l : List (List UInt8)) : List UInt8 := if lsE l = 0 then ls l else []
theorem lsE_no {l : List (List UInt8)} (h : l = [] ∨ l = [[]]) : lsE l = 7 ∧ lsT l = [] := by
  have : lsE l = 7 := by unfold lsE; rw [if_pos h]
  exact ⟨this, by unfold lsT; rw [this]; rfl⟩
theorem lsE_some {l : List (List UInt8)} (h : ¬ (l = [] ∨ l = [[]])) : lsE l = lsB l := by unfold lsE; rw [if_neg h]
theorem lsT_ok {l : List (List UInt8)} (h : lsE l = 0) : lsT l = ls l := by unfold lsT; rw [if_pos h]
theorem lsT_no {l : List (List UInt8)} (h : lsE l ≠ 0) : lsT l = [] := by unfold lsT; rw [if_neg h]
end Es
/- the row of written texts, k of them written -/
def wr1 (l : List UInt8) : Value := .string ⟨(Es.tx l).toArray⟩
def row (ls : List (List UInt8)) (k : Nat) : List Value := (ls.take k).map wr1 ++ List.replicate (ls.length - k) (.string ⟨#[]⟩)
theorem row_zero (ls : List (List UInt8)) : row ls 0 = List.replicate ls.length (.string ⟨#[]⟩) := by simp [row]
theorem row_end (ls : List (List UInt8)) : row ls ls.length = ls.map wr1 := by simp [row]
theorem row_at (ls : List (List UInt8)) (k : Nat) (h : k < ls.length) : (row ls k)[k]? = some (.string ⟨#[]⟩) := by
  unfold row
  rw [List.getElem?_append_right (by simp; omega), List.getElem?_replicate, if_pos]
  rw [List.length_map, List.length_take]; omega
theorem row_set (ls : List (List UInt8)) (k : Nat) (h : k < ls.length) : row ls (k + 1) = (row ls k).set k (.string ⟨(Es.tx ls[k]).toArray⟩) := by
  unfold row
  rw [List.set_append_right _ _ (by simp; omega), List.take_succ_eq_append_getElem h, List.map_append, List.append_assoc]
  congr 1
  have e : ls.length - k = (ls.length - (k + 1)) + 1 := by omega
  have e2 : k - ((ls.take k).map wr1).length = 0 := by simp; omega
  rw [e2, e, List.replicate_succ, List.set_cons_zero]
  simp [wr1]
theorem made_row (n : Nat) : (madeCells (Value.string ⟨#[]⟩).cells n).toList = List.replicate n (.string ⟨#[]⟩) := by
  have e : (Value.string ⟨#[]⟩).cells = #[.string ⟨#[]⟩] := rfl
  rw [e]
  apply List.ext_getElem?
  intro i
  unfold madeCells
  by_cases h : i < n
  · simp [h, Nat.mod_one]
  · simp [h]
theorem join_row (ls : List (List UInt8)) (w : World) (g n : Nat) {B : Nat} (hown : OwnV w B 9 (some ⟨g, 0, none⟩) n n (row ls n)) (hn : n ≤ 1000) (hpos : 0 < n) (hlen : ∀ l ∈ ls, l.length ≤ 100000) (hl : ls.length = n) :
    Calls Tryd.prog 28 #[.slice (some ⟨g, 0, none⟩) n n, .string ⟨#[44]⟩] w fun e w' => e = .returned (.string ⟨(Es.ls ls).toArray⟩) ∧ Gr w w' := by
  have hg : g < w.heap.size := by
    obtain ⟨g2, e, _, hlt, _⟩ := hown.cells hpos
    injection e with e
    injection e with e
    rw [e]; exact hlt
  subst hl
  have hx : (ls.map fun l => (⟨(Es.tx l).toArray⟩ : ByteArray)).length = ls.length := by simp
  have hd : (ls.map fun l => (⟨(Es.tx l).toArray⟩ : ByteArray)).map (·.data.toList) = ls.map Es.tx := by rw [List.map_map]; rfl
  have hll := Es.ls_len ls 100000 hlen
  have hJ := Tryd.strings_Join g 0 ls.length (ls.map fun l => (⟨(Es.tx l).toArray⟩ : ByteArray)) ⟨#[44]⟩ w (fun j x hj => by
    rw [Nat.zero_add]
    have hjl : j < ls.length := by have := (List.getElem?_eq_some_iff.1 hj).1; simpa using this
    rw [own_cell hown j hjl, row_end, List.getElem?_map]
    rw [List.getElem?_map] at hj
    cases e : ls[j]? with
    | none => rw [e] at hj; cases hj
    | some l =>
      rw [e] at hj
      injection hj with hj
      subst hj
      rfl) hg (by rw [hx]; omega) (by rw [hx]; exact Nat.le_refl _) (by
      rw [hd]
      show (Es.ls ls).length ≤ _
      have : ls.length * (2 * 100000 + 1) ≤ 1000 * (2 * 100000 + 1) := Nat.mul_le_mul_right _ hn
      omega)
  rw [hx, hd] at hJ
  refine hJ.mono ?_
  rintro e w' ⟨rfl, hb⟩
  exact ⟨rfl, ⟨hb⟩⟩
set_option maxHeartbeats 4000000 in
set_option maxRecDepth 100000 in
theorem list_any (A : Option Addr) (n c : Nat) (ls : List (List UInt8)) (w : World) (ht : Tab w) (hS : Strs w w.heap.size A n ls) (hn : n ≤ 1000) (hlen : ∀ l ∈ ls, l.length ≤ 100000) :
    Calls Tryd.prog 19 #[.slice A n c] w fun e w' => e = .returned (.tuple #[.string ⟨(Es.lsT ls).toArray⟩, .int .i64 (Es.lsE ls)]) ∧ Gr w w' := by
  have hl : ls.length = n := hS.1
  have hlt0 := ht.lt
  obtain ⟨i0, hi0, hz0, hz1, hz2⟩ := info_parts info_str
  by_cases h0 : n = 0
  · subst h0
    obtain ⟨e1, e2⟩ := Es.lsE_no (l := ls) (.inl (List.eq_nil_of_length_eq_zero hl))
    rw [e1, e2]
    clear e1 e2
    go_enter Tryd.func19, Tryd.ntmps19
    go_wp2
    go_ret2
    exact ⟨rfl, Gr.refl _⟩
  · obtain ⟨ad0, hk0, rfl, hbl0, hcell0⟩ := hS.at_ (k := 0) (by omega)
    have hadd0 : ad0.add 0 = ad0 := by unfold Addr.add; simp
    rw [hadd0] at hcell0
    have hnp : 0 < n := by omega
    have hn0 : ((n : Int) == 0) = false := by rw [beq_eq_false_iff_ne]; omega
    by_cases h1 : ls = [[]]
    · obtain ⟨e1, e2⟩ := Es.lsE_no (l := ls) (.inr h1)
      rw [e1, e2]
      subst h1
      have hn1 : n = 1 := hl.symm
      subst hn1
      obtain ⟨s0, hem, hcell1⟩ : ∃ s0 : ByteArray, s0.toList.isEmpty = true ∧ w.cell? ad0 = some (.string s0) := ⟨⟨([] : List UInt8).toArray⟩, emp_t _ rfl, hcell0⟩
      clear e1 e2 hcell0 hk0
      go_enter Tryd.func19, Tryd.ntmps19
      go_wp2
      go_ret2
      exact ⟨rfl, Gr.refl _⟩
    · have hno : ¬ (ls = [] ∨ ls = [[]]) := by
        rintro (h | h)
        · rw [h, List.length_nil] at hl; exact h0 hl.symm
        · exact h1 h
      have hE := Es.lsE_some hno
      have HR := Lib.hid (And.intro hE (fun h : Es.lsB ls ≠ 0 => Es.lsT_no (l := ls) (by rw [hE]; exact h)))
      have HQ := Lib.hid (fun h => Es.lsT_ok (l := ls) h)
      have HL := Lib.hid hl
      generalize Es.lsE ls = LE at *
      generalize Es.lsT ls = LT at *
      by_cases h2 : n = 1
      · have hn1 : ((n : Int) == 1) = true := by rw [beq_iff_eq]; omega
        have hpos : 0 < (ByteArray.mk ls[0].toArray).size := by
          rw [size_mk]
          refine List.length_pos_iff.2 (fun e => h1 ?_)
          rcases ls with _ | ⟨x, _ | ⟨y, r⟩⟩
          · simp at hk0
          · have : x = [] := e
            rw [this]
          · simp at hl; omega
        have hem := emp_f _ hpos
        clear hno hE hl h1 hpos h0 h2
        generalize hs0 : (ByteArray.mk ls[0].toArray) = s0 at hem hcell0
        clear hs0
        go_enter Tryd.func19, Tryd.ntmps19
        go_wp2_with (at_make; refine wpList_make_full w rfl (.tmp 24) (.tmp 24) 27 rfl w.heap.size 9 i0 (.string ⟨#[]⟩) 1 Tryd.underlying27 hi0 hz0 hz1 .i64 .i64 (n : Int) (n : Int) n rfl rfl rfl rfl (by rw [hz2]; omega) (by unfold maxLen; omega) (Nat.le_refl _) ?_; intro w1 hown1 hgr1)
        go_loopg [28] n (fun g v wx => ∃ k : Nat, v = .int .i64 (k : Int) ∧ k + g = n ∧ Below w.heap.size w wx ∧ w.heap.size ≤ wx.heap.size ∧ Tab wx ∧ OwnV wx w.heap.size 9 (some ⟨w.heap.size, 0, none⟩) n n (row ls k) ∧ Hid (Es.lsB (ls.take k) = 0))
        case atStart =>
          have hb1 : Below w.heap.size w w1 := (Below.refl _ w).grown hgr1 (Nat.le_refl _) (fun k hk => by cases hk)
          refine ⟨0, rfl, by omega, hb1, hb1.size, ht.low hb1 hlt0.1 hlt0.2, ?_, Lib.hid rfl⟩
          rw [row_zero ls, HL.out]
          have e1 : (madeCells (Value.string ⟨#[]⟩).cells (n * 1)).toList = List.replicate n (.string ⟨#[]⟩) := by rw [Nat.mul_one]; exact made_row n
          rw [e1] at hown1
          exact hown1
        case round =>
          obtain ⟨k, rfl, hkg, hb2, hsz2, ht2, hown2, HB⟩ := hrel
          have HG := Lib.hid hkg
          clear hkg
          by_cases hk : k < n
          · obtain ⟨ad, hk', e0, hbl, hcell⟩ := (hS.keep hb2).at_ hk
            obtain rfl := Option.some.inj e0
            have hle := hlen _ (List.getElem_mem hk')
            have cT := text_any ⟨ls[k].toArray⟩ wr ht2 (by rw [size_mk]; omega)
            have ed : (ByteArray.mk ls[k].toArray).data.toList = ls[k] := rfl
            rw [ed] at cT
            have HBA := Lib.hid (Es.lsB_at ls k hk' HB.out)
            by_cases hE : Es.clE true ls[k] = 0
            · rw [hE, Es.txT_ok hE] at cT
              have hst := row_set ls k hk'
              have HN : Hid (Es.lsB (ls.take (k + 1)) = 0) := Lib.hid (by rw [HBA.out, hE])
              have HST := Lib.hid hst
              clear hst hE ed hle e0
              generalize (ByteArray.mk ls[k].toArray) = s at *
              generalize (ByteArray.mk (Es.tx ls[k]).toArray) = tt at *
              go_wp2_with (go_at_call 8; refine cT.mono ?_; rintro e w3 ⟨rfl, hg3⟩; have hown3 := hown2.gr hg3; have hc3 := (own_cell hown3 k hk).trans (row_at ls k hk'); have hf3 := own_free hown3 k)
              go_roundg (n - (k + 1))
              case measure => have := HG.out; omega
              case rel =>
                have hb3 : Below w.heap.size w (w3.setCell ⟨w.heap.size, k, none⟩ (.string tt)) := (hb2.trans (hg3.low hsz2)).setCell (Nat.le_refl _) _
                refine ⟨k + 1, by go_num, by omega, hb3, hb3.size, ht.low hb3 hlt0.1 hlt0.2, ?_, HN⟩
                rw [HST.out]
                exact own_store hown3 k _
            · rw [Es.txT_no hE] at cT
              have hEn : ((Es.clE true ls[k] : Int) != 0) = true := by simpa using hE
              have hlb : Es.lsB ls = Es.clE true ls[k] := by rw [Es.lsB_more ls (k + 1) (by rw [HBA.out]; exact hE), HBA.out]
              have HT := Lib.hid (HR.out.2 (by rw [hlb]; exact hE))
              have HX := Lib.hid (HR.out.1.trans hlb)
              clear hlb ed hle e0 hE
              generalize (ByteArray.mk ls[k].toArray) = s at *
              generalize Es.clE true ls[k] = E at *
              go_wp2_with (go_at_call 8; refine cT.mono ?_; rintro e w3 ⟨rfl, hg3⟩)
              go_ret2
              rw [HX.out, HT.out]
              exact ⟨rfl, ⟨hb2.trans (hg3.low hsz2)⟩⟩
          · obtain rfl : k = n := by have := HG.out; omega
            have e1 : ls.take k = ls := List.take_of_length_le (by rw [HL.out]; omega)
            rw [e1] at HB
            have cJ := join_row ls wr w.heap.size k hown2 (by omega) hnp hlen HL.out
            have HT := Lib.hid (HR.out.1.trans HB.out)
            have HX : Hid ((⟨LT.toArray⟩ : ByteArray) = ⟨(Es.ls ls).toArray⟩) := Lib.hid (by rw [HQ.out HT.out])
            clear e1
            generalize (ByteArray.mk (Es.ls ls).toArray) = J at *
            go_wp2_with (go_at_call 28; refine cJ.mono ?_; rintro e w3 ⟨rfl, hg3⟩)
            go_ret2
            rw [HT.out, HX.out]
            exact ⟨rfl, ⟨hb2.trans (hg3.low hsz2)⟩⟩
      · have hn1 : ((n : Int) == 1) = false := by rw [beq_eq_false_iff_ne]; omega
        clear hno hE hl h1 h0 h2 hcell0
        go_enter Tryd.func19, Tryd.ntmps19
        go_wp2_with (at_make; refine wpList_make_full w rfl (.tmp 24) (.tmp 24) 27 rfl w.heap.size 9 i0 (.string ⟨#[]⟩) 1 Tryd.underlying27 hi0 hz0 hz1 .i64 .i64 (n : Int) (n : Int) n rfl rfl rfl rfl (by rw [hz2]; omega) (by unfold maxLen; omega) (Nat.le_refl _) ?_; intro w1 hown1 hgr1)
        go_loopg [28] n (fun g v wx => ∃ k : Nat, v = .int .i64 (k : Int) ∧ k + g = n ∧ Below w.heap.size w wx ∧ w.heap.size ≤ wx.heap.size ∧ Tab wx ∧ OwnV wx w.heap.size 9 (some ⟨w.heap.size, 0, none⟩) n n (row ls k) ∧ Hid (Es.lsB (ls.take k) = 0))
        case atStart =>
          have hb1 : Below w.heap.size w w1 := (Below.refl _ w).grown hgr1 (Nat.le_refl _) (fun k hk => by cases hk)
          refine ⟨0, rfl, by omega, hb1, hb1.size, ht.low hb1 hlt0.1 hlt0.2, ?_, Lib.hid rfl⟩
          rw [row_zero ls, HL.out]
          have e1 : (madeCells (Value.string ⟨#[]⟩).cells (n * 1)).toList = List.replicate n (.string ⟨#[]⟩) := by rw [Nat.mul_one]; exact made_row n
          rw [e1] at hown1
          exact hown1
        case round =>
          obtain ⟨k, rfl, hkg, hb2, hsz2, ht2, hown2, HB⟩ := hrel
          have HG := Lib.hid hkg
          clear hkg
          by_cases hk : k < n
          · obtain ⟨ad, hk', e0, hbl, hcell⟩ := (hS.keep hb2).at_ hk
            obtain rfl := Option.some.inj e0
            have hle := hlen _ (List.getElem_mem hk')
            have cT := text_any ⟨ls[k].toArray⟩ wr ht2 (by rw [size_mk]; omega)
            have ed : (ByteArray.mk ls[k].toArray).data.toList = ls[k] := rfl
            rw [ed] at cT
            have HBA := Lib.hid (Es.lsB_at ls k hk' HB.out)
            by_cases hE : Es.clE true ls[k] = 0
            · rw [hE, Es.txT_ok hE] at cT
              have hst := row_set ls k hk'
              have HN : Hid (Es.lsB (ls.take (k + 1)) = 0) := Lib.hid (by rw [HBA.out, hE])
              have HST := Lib.hid hst
              clear hst hE ed hle e0
              generalize (ByteArray.mk ls[k].toArray) = s at *
              generalize (ByteArray.mk (Es.tx ls[k]).toArray) = tt at *
              go_wp2_with (go_at_call 8; refine cT.mono ?_; rintro e w3 ⟨rfl, hg3⟩; have hown3 := hown2.gr hg3; have hc3 := (own_cell hown3 k hk).trans (row_at ls k hk'); have hf3 := own_free hown3 k)
              go_roundg (n - (k + 1))
              case measure => have := HG.out; omega
              case rel =>
                have hb3 : Below w.heap.size w (w3.setCell ⟨w.heap.size, k, none⟩ (.string tt)) := (hb2.trans (hg3.low hsz2)).setCell (Nat.le_refl _) _
                refine ⟨k + 1, by go_num, by omega, hb3, hb3.size, ht.low hb3 hlt0.1 hlt0.2, ?_, HN⟩
                rw [HST.out]
                exact own_store hown3 k _
            · rw [Es.txT_no hE] at cT
              have hEn : ((Es.clE true ls[k] : Int) != 0) = true := by simpa using hE
              have hlb : Es.lsB ls = Es.clE true ls[k] := by rw [Es.lsB_more ls (k + 1) (by rw [HBA.out]; exact hE), HBA.out]
              have HT := Lib.hid (HR.out.2 (by rw [hlb]; exact hE))
              have HX := Lib.hid (HR.out.1.trans hlb)
              clear hlb ed hle e0 hE
              generalize (ByteArray.mk ls[k].toArray) = s at *
              generalize Es.clE true ls[k] = E at *
              go_wp2_with (go_at_call 8; refine cT.mono ?_; rintro e w3 ⟨rfl, hg3⟩)
              go_ret2
              rw [HX.out, HT.out]
              exact ⟨rfl, ⟨hb2.trans (hg3.low hsz2)⟩⟩
          · obtain rfl : k = n := by have := HG.out; omega
            have e1 : ls.take k = ls := List.take_of_length_le (by rw [HL.out]; omega)
            rw [e1] at HB
            have cJ := join_row ls wr w.heap.size k hown2 (by omega) hnp hlen HL.out
            have HT := Lib.hid (HR.out.1.trans HB.out)
            have HX : Hid ((⟨LT.toArray⟩ : ByteArray) = ⟨(Es.ls ls).toArray⟩) := Lib.hid (by rw [HQ.out HT.out])
            clear e1
            generalize (ByteArray.mk (Es.ls ls).toArray) = J at *
            go_wp2_with (go_at_call 28; refine cJ.mono ?_; rintro e w3 ⟨rfl, hg3⟩)
            go_ret2
            rw [HT.out, HX.out]
            exact ⟨rfl, ⟨hb2.trans (hg3.low hsz2)⟩⟩
end Go.Proofs.YtoocghgafebcbaaDoor
