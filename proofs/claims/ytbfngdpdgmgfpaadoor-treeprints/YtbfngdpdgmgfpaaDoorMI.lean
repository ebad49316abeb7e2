/- The texts TrRef, TrRefP, one behind the other. -/
import Derived.Test.YtbfngdpdgmgfpaaDoorMD
import Derived.Test.YtbfngdpdgmgfpaaDoorMF
import Derived.Test.YtbfngdpdgmgfpaaDoorMG
namespace Go.Proofs.YtbfngdpdgmgfpaaDoor
open Go.RowKit

namespace Ln
def rg (t : Tr) (D : Nat) : Bool := pf t && decide (D + dep t ≤ 5)
def rgs (ks : List Tr) (D : Nat) : Bool := pfs ks && decide (D + deps ks ≤ 5)
theorem rg_deep {t : Tr} {D : Nat} (h : 4 < D) : rg t D = false := by
  have := dep_pos t
  unfold rg; rw [decide_eq_false (by omega)]; simp
theorem rg_eq {t : Tr} {D : Nat} : rg t D = (nameB t.name && (t.lines.all lnB && rgs t.kids (D + 1))) := by
  unfold rg rgs
  rw [pf_eq, dep_eq, show D + (1 + deps t.kids) = D + 1 + deps t.kids by omega, Bool.and_assoc, Bool.and_assoc]
theorem rgs_nil {D : Nat} (h : D ≤ 5) : rgs [] D = true := by unfold rgs; simp only [pfs, deps, Nat.add_zero, Bool.true_and]; exact decide_eq_true h
theorem rgs_take (ks : List Tr) (k D : Nat) (hk : k < ks.length) : rgs (ks.take (k + 1)) D = (rgs (ks.take k) D && rg ks[k] D) := by
  unfold rgs rg
  rw [pfs_take ks k hk, deps_take ks k hk]
  have : decide (D + max (deps (ks.take k)) (dep ks[k]) ≤ 5) = (decide (D + deps (ks.take k) ≤ 5) && decide (D + dep ks[k] ≤ 5)) := by
    rw [Bool.eq_iff_iff]; simp; omega
  rw [this]
  cases pfs (ks.take k) <;> cases pf ks[k] <;> simp
theorem rgs_no (ks : List Tr) (k D : Nat) (h : rgs (ks.take k) D = false) : rgs ks D = false := by
  have h1 := deps_le ks k
  cases h2 : rgs ks D with
  | false => rfl
  | true =>
    unfold rgs at h h2
    simp only [Bool.and_eq_true, decide_eq_true_eq] at h2
    rw [decide_eq_true (by omega), Bool.and_true] at h
    rw [pfs_le ks k h] at h2
    cases h2.1
theorem rg_name {t : Tr} {D : Nat} (h : nameB t.name = false) : rg t D = false := by rw [rg_eq, h]; rfl
theorem rg_lines {t : Tr} {D : Nat} (h : t.lines.all lnB = false) : rg t D = false := by rw [rg_eq, h]; simp
theorem rg_kids {t : Tr} {D : Nat} (h : rgs t.kids (D + 1) = false) : rg t D = false := by rw [rg_eq, h]; simp
theorem rg_ok {t : Tr} {D : Nat} (h1 : nameB t.name = true) (h2 : t.lines.all lnB = true) (h3 : rgs t.kids (D + 1) = true) : rg t D = true := by rw [rg_eq, h1, h2, h3]; rfl
end Ln
set_option maxHeartbeats 4000000 in
set_option maxRecDepth 100000 in
theorem right_any (d : Nat) : ∀ (t : Ln.Tr) (A A2 : Option Addr) (n c n2 c2 D : Nat) (w : World), Lns w w.heap.size A n t.lines → Kds d w w.heap.size A2 n2 t.kids → Ln.RwT t → D ≤ 100 →
    Calls Tryd.prog 32 #[.agg #[.string ⟨t.name.toArray⟩, .slice A n c, .slice A2 n2 c2], .int .i64 (D : Int)] w fun e w' => e = .returned (.bool (Ln.rg t D)) ∧ Gr w w' := by
  induction d using Nat.strongRecOn with
  | _ d ih =>
  intro t A A2 n c n2 c2 D w hLs hK hF hD
  have HL1 := Lib.hid hLs.1
  have HL2 := Lib.hid hK.len
  obtain ⟨hz0, hz1, hz2⟩ := hF.q
  rw [hLs.1] at hz1
  rw [hK.len] at hz2
  have hn2 : n2 ≤ 140737488355328 := by omega
  have hn1 : n ≤ 140737488355328 := by omega
  have hg0 : Gr w (w.alloc (.cells #[.string ⟨t.name.toArray⟩, .slice A n c, .slice A2 n2 c2] 25)) := (Gr.refl w).allocO _
  have hx0 := Bx3.new w (.string ⟨t.name.toArray⟩) (.slice A n c) (.slice A2 n2 c2) 25
  by_cases hd4 : 4 < D
  · rw [Ln.rg_deep hd4]
    have hi4 : (4 : Int) < (D : Int) := by omega
    clear ih hF hK hLs
    generalize (ByteArray.mk t.name.toArray) = nb at *
    go_enter Tryd.func32, Tryd.ntmps32
    go_wp2
    go_ret
    exact ⟨rfl, hg0⟩
  have hi4 : ¬ (4 : Int) < (D : Int) := by omega
  have cN := fun w => refname_any ⟨t.name.toArray⟩ w (by rw [size_mk]; exact hz0)
  have e0 : (ByteArray.mk t.name.toArray).data.toList = t.name := rfl
  rw [e0] at cN
  have HBL := Lib.hid (fun h => Ln.rg_lines (t := t) (D := D) h)
  have HBK := Lib.hid (fun h => Ln.rg_kids (t := t) (D := D) h)
  have hFl := hF.l
  have hFk := hF.k
  cases hnm : Ln.nameB t.name
  · rw [Ln.rg_name hnm]
    rw [hnm] at cN
    clear hnm ih HBL HBK hF hFl hFk e0
    generalize (ByteArray.mk t.name.toArray) = nb at *
    go_enter Tryd.func32, Tryd.ntmps32
    go_wp2_with (go_at_call 51; refine (cN _).mono ?_; rintro e w' ⟨rfl, rfl⟩)
    go_ret
    exact ⟨rfl, hg0⟩
  · rw [hnm] at cN
    have HOK := Lib.hid (fun h2 h3 => Ln.rg_ok (t := t) (D := D) hnm h2 h3)
    clear hnm hF e0 hz0
    generalize Ln.rg t D = E at *
    generalize (ByteArray.mk t.name.toArray) = nb at *
    generalize t.lines = ls at *
    generalize t.kids = ks at *
    go_enter Tryd.func32, Tryd.ntmps32
    go_wp2_with (go_at_call 51; refine (cN _).mono ?_; rintro e w' ⟨rfl, rfl⟩)
    obtain ⟨W0, hW0⟩ : ∃ W0, (w.alloc (.cells #[.string nb, .slice A n c, .slice A2 n2 c2] 25)) = W0 := ⟨_, rfl⟩
    rw [hW0] at hg0 hx0 ⊢
    go_loopg [18] n (fun g v wx => ∃ k : Nat, v = .int .i64 (k : Int) ∧ k + g = n ∧ Gr W0 wx ∧ Hid ((ls.take k).all Ln.lnB = true))
    case atStart => exact ⟨0, rfl, by omega, Gr.refl _, Lib.hid (by rw [List.take_zero]; rfl)⟩
    case round =>
      obtain ⟨k, rfl, hkg, hg3, HN⟩ := hrel
      have HG := Lib.hid hkg
      clear hkg
      have hg4 := hg0.trans hg3
      have hx3 := hx0.gr hg3
      by_cases hk : k < n
      · obtain ⟨ad, hk', A', n', c', rfl, hbl, hc0, hc1, hc2, hP, hnc⟩ := (hLs.gr hg4).at_ hk
        have hRw := hFl _ (List.getElem_mem hk')
        have HST := Lib.hid (Ln.allB_take ls k hk')
        have HNO := Lib.hid (Ln.allB_no ls (k + 1))
        have cF := refformed_any ⟨ls[k].name.toArray⟩ ⟨ls[k].value.toArray⟩ A' n' c' ls[k].ps wr hP (by rw [size_mk]; exact hRw.name) (by rw [size_mk]; exact hRw.value) hRw.p1 hRw.p2' hRw.p3
        have e1 : (⟨(ByteArray.mk ls[k].name.toArray).data.toList, ls[k].ps, (ByteArray.mk ls[k].value.toArray).data.toList⟩ : Ln.Li) = ls[k] := rfl
        rw [e1] at cF
        have hi := Ln.lnB_iff ls[k]
        have hq : ∀ l : List UInt8, ((ByteArray.mk ls[k].name.toArray).toList == l) = decide (ls[k].name = l) := fun l => by rw [Lib.toList_data, Bool.eq_iff_iff, beq_iff_eq, decide_eq_true_iff]
        have hq1 : ((ByteArray.mk ls[k].name.toArray).toList == [66, 69, 71, 73, 78]) = decide (ls[k].name = Ln.bg) := hq _
        have hq2 : ((ByteArray.mk ls[k].name.toArray).toList == [69, 78, 68]) = decide (ls[k].name = Ln.en) := hq _
        have hkn : (k : Int) < (n : Int) := by omega
        obtain ⟨a0, a1, a2, a3, a4, a5⟩ := hx3
        cases hlb : Ln.lnB ls[k]
        · have HE : Hid (E = false) := Lib.hid (HBL.out (HNO.out (by rw [HST.out, hlb]; simp)))
          have hno : ¬ (Ln.formed ls[k] = true ∧ ls[k].name ≠ Ln.bg ∧ ls[k].name ≠ Ln.en) := fun h => by rw [hi.2 h] at hlb; cases hlb
          cases hfm : Ln.formed ls[k]
          · rw [hfm] at cF
            clear hi hq hq1 hq2 e1 hlb hno hfm HST HNO HN HBL HBK HOK ih hRw
            generalize (ByteArray.mk ls[k].name.toArray) = nl at *
            generalize (ByteArray.mk ls[k].value.toArray) = vl at *
            go_wp2_with (go_at_call 52; refine cF.mono ?_; rintro e w6 ⟨rfl, hg6⟩)
            go_ret
            exact ⟨by rw [HE.out]; rfl, hg4.trans hg6⟩
          · rw [hfm] at cF
            by_cases h1 : ls[k].name = Ln.bg
            · rw [decide_eq_true h1] at hq1
              clear hi hq hq2 e1 hlb hno hfm HST HNO HN HBL HBK HOK ih hRw h1
              generalize (ByteArray.mk ls[k].name.toArray) = nl at *
              generalize (ByteArray.mk ls[k].value.toArray) = vl at *
              go_wp2_with (go_at_call 52; refine cF.mono ?_; rintro e w6 ⟨rfl, hg6⟩; have y1 := gr_cell hg6 a1; have y2 := gr_cell hg6 hc0)
              go_ret
              exact ⟨by rw [HE.out]; rfl, hg4.trans hg6⟩
            · have h2 : ls[k].name = Ln.en := Classical.byContradiction fun h2 => hno ⟨hfm, h1, h2⟩
              rw [decide_eq_false h1] at hq1
              rw [decide_eq_true h2] at hq2
              clear hi hq e1 hlb hno hfm HST HNO HN HBL HBK HOK ih hRw h1 h2
              generalize (ByteArray.mk ls[k].name.toArray) = nl at *
              generalize (ByteArray.mk ls[k].value.toArray) = vl at *
              go_wp2_with (go_at_call 52; refine cF.mono ?_; rintro e w6 ⟨rfl, hg6⟩; have y1 := gr_cell hg6 a1; have y2 := gr_cell hg6 hc0)
              go_ret
              exact ⟨by rw [HE.out]; rfl, hg4.trans hg6⟩
        · obtain ⟨h0, h1, h2⟩ := hi.1 hlb
          rw [h0] at cF
          rw [decide_eq_false h1] at hq1
          rw [decide_eq_false h2] at hq2
          have HN2 : Hid ((ls.take (k + 1)).all Ln.lnB = true) := Lib.hid (by rw [HST.out, HN.out, hlb]; rfl)
          clear hi hq e1 hlb HST HNO HN HBL HBK HOK ih hRw h1 h2 h0
          generalize (ByteArray.mk ls[k].name.toArray) = nl at *
          generalize (ByteArray.mk ls[k].value.toArray) = vl at *
          go_wp2_with (go_at_call 52; refine cF.mono ?_; rintro e w6 ⟨rfl, hg6⟩; have y1 := gr_cell hg6 a1; have y2 := gr_cell hg6 hc0)
          go_roundg (n - (k + 1))
          case measure => have := HG.out; omega
          case rel => exact ⟨k + 1, by go_num, by omega, hg3.trans hg6, HN2⟩
      · obtain rfl : k = n := by have := HG.out; omega
        have HA := HN.out
        rw [List.take_of_length_le (by rw [HL1.out]; exact Nat.le_refl _)] at HA
        have HA := Lib.hid HA
        clear HN HBL
        obtain ⟨a0, a1, a2, a3, a4, a5⟩ := hx3
        go_wp2_with fail
        obtain ⟨w5, hw5⟩ : ∃ w5, wr = w5 := ⟨_, rfl⟩
        have hgA := hg4
        have hxA := hx0.gr hg3
        rw [hw5] at hgA hxA
        go_loopg [50] n2 (fun g v wx => ∃ k : Nat, v = .int .i64 (k : Int) ∧ k + g = n2 ∧ Gr w5 wx ∧ Hid (Ln.rgs (ks.take k) (D + 1) = true))
        case atStart => exact ⟨0, rfl, by omega, by rw [hw5]; exact Gr.refl _, Lib.hid (by rw [List.take_zero]; exact Ln.rgs_nil (by omega))⟩
        case round =>
          obtain ⟨k2, rfl, hkg2, hg7, HN⟩ := hrel
          have HG2 := Lib.hid hkg2
          clear hkg2
          have hg8 := hgA.trans hg7
          have hx8 := hxA.gr hg7
          by_cases hk2 : k2 < n2
          · obtain ⟨d', hd', ad, hk', A1, n1, c1, A3, n3, c3, rfl, hbl, hc0, hc1, hc2, hLn3, hKn⟩ := (hK.gr hg8).at_ hk2
            have HST := Lib.hid (Ln.rgs_take ks k2 (D + 1) hk')
            have HNO := Lib.hid (Ln.rgs_no ks (k2 + 1) (D + 1))
            have cK := ih d' hd' ks[k2] A1 A3 n1 c1 n3 c3 (D + 1) _ hLn3 hKn (hFk _ (List.getElem_mem hk')) (by omega)
            have hkn : (k2 : Int) < (n2 : Int) := by omega
            obtain ⟨z0, z1, z2, z3, z4, z5⟩ := hx8
            clear a0 a1 a2 a3 a4 a5
            have hD1 : (((D + 1 : Nat) : Int)) = (D : Int) + 1 := by omega
            rw [hD1] at cK
            cases hp : Ln.rg ks[k2] (D + 1)
            · rw [hp] at cK
              have HE : Hid (E = false) := Lib.hid (HBK.out (HNO.out (by rw [HST.out, hp]; simp)))
              clear HST HNO HN HBK HOK ih hp
              generalize (ByteArray.mk ks[k2].name.toArray) = nk at *
              go_wp2_with (go_at_call 32; refine cK.mono ?_; rintro e w6 ⟨rfl, hg6⟩)
              go_ret
              exact ⟨by rw [HE.out]; rfl, hg8.trans hg6⟩
            · rw [hp] at cK
              have HN2 : Hid (Ln.rgs (ks.take (k2 + 1)) (D + 1) = true) := Lib.hid (by rw [HST.out, HN.out, hp]; rfl)
              clear HST HNO HN HBK HOK ih hp
              generalize (ByteArray.mk ks[k2].name.toArray) = nk at *
              go_wp2_with (go_at_call 32; refine cK.mono ?_; rintro e w6 ⟨rfl, hg6⟩)
              go_roundg (n2 - (k2 + 1))
              case measure => have := HG2.out; omega
              case rel => exact ⟨k2 + 1, by go_num, by omega, hg7.trans hg6, HN2⟩
          · obtain rfl : k2 = n2 := by have := HG2.out; omega
            have HB2 := HN.out
            rw [List.take_of_length_le (by rw [HL2.out]; exact Nat.le_refl _)] at HB2
            have HE : Hid (E = true) := Lib.hid (HOK.out HA.out HB2)
            clear HN HBK HB2 HOK
            go_wp2
            go_ret
            exact ⟨by rw [HE.out]; rfl, hg8⟩
namespace Ln
theorem fm_rg (t : Tr) : fmT t = (rg t 1 && decide (cnt t ≤ 300)) := by
  unfold fmT rg
  have : decide (1 + dep t ≤ 5) = decide (dep t ≤ 4) := by rw [Bool.eq_iff_iff]; simp; omega
  rw [this]
  cases pf t <;> cases decide (dep t ≤ 4) <;> simp
end Ln
set_option maxHeartbeats 1000000 in
theorem rformed_any (d : Nat) (t : Ln.Tr) (A A2 : Option Addr) (n c n2 c2 : Nat) (w : World) (hLs : Lns w w.heap.size A n t.lines) (hK : Kds d w w.heap.size A2 n2 t.kids) (hF : Ln.RwT t) (hb : Ln.pf t = true → Ln.cnt t ≤ 1000000) :
    Calls Tryd.prog 13 #[.agg #[.string ⟨t.name.toArray⟩, .slice A n c, .slice A2 n2 c2]] w fun e w' => e = .returned (.bool (Ln.fmT t)) ∧ Gr w w' := by
  have hg0 : Gr w (w.alloc (.cells #[.string ⟨t.name.toArray⟩, .slice A n c, .slice A2 n2 c2] 25)) := (Gr.refl w).allocO _
  have hx0 := Bx3.new w (.string ⟨t.name.toArray⟩) (.slice A n c) (.slice A2 n2 c2) 25
  have cR := right_any d t A A2 n c n2 c2 1 _ (hLs.gr hg0) (hK.gr hg0) hF (by omega)
  have hce := Ln.cnt_eq t
  rw [hLs.1] at hce
  obtain ⟨_, hz1, hz2⟩ := hF.q
  rw [hLs.1] at hz1
  rw [hK.len] at hz2
  rw [Ln.fm_rg]
  have e1 : ((1 : Nat) : Int) = 1 := rfl
  rw [e1] at cR
  cases hr : Ln.rg t 1
  · rw [hr] at cR
    clear hr hF hLs hK hce e1
    generalize (ByteArray.mk t.name.toArray) = nb at *
    go_enter Tryd.func13, Tryd.ntmps13
    go_wp2_with (go_at_call 32; refine cR.mono ?_; rintro e w1 ⟨rfl, hg1⟩)
    go_ret
    exact ⟨rfl, hg0.trans hg1⟩
  · rw [hr] at cR
    have hb2 := hb (by unfold Ln.rg at hr; simp only [Bool.and_eq_true] at hr; exact hr.1)
    have cC := fun w1 (h1 : Gr w w1) => refcount_any d ⟨t.name.toArray⟩ A A2 n c n2 c2 t.kids w1 (hK.gr h1) hz1 hz2 (fun u hu => (hF.k u hu |> Ln.RwT.sz)) (by omega)
    rw [← hce] at cC
    clear hr hF hLs hK hce e1 hb
    have HC : Hid (decide (((Ln.cnt t : Nat) : Int) ≤ 300) = decide (Ln.cnt t ≤ 300)) := Lib.hid (by rw [Bool.eq_iff_iff]; simp; omega)
    generalize Ln.cnt t = q at *
    generalize (ByteArray.mk t.name.toArray) = nb at *
    go_enter Tryd.func13, Tryd.ntmps13
    go_wp2_with (first
      | (go_at_call 32; refine cR.mono ?_; rintro e w1 ⟨rfl, hg1⟩; obtain ⟨a0, a1, a2, a3, a4, a5⟩ := hx0.gr hg1)
      | (go_at_call 15; refine (cC _ (hg0.trans hg1)).mono ?_; rintro e w2 ⟨rfl, hg2⟩))
    go_ret
    exact ⟨ret_bool (by simpa using HC.out), (hg0.trans hg1).trans hg2⟩
end Go.Proofs.YtbfngdpdgmgfpaaDoor
namespace Go.Proofs.YtbfngdpdgmgfpaaDoor
open Go.RowKit

theorem own_lit (w : World) (s : ByteArray) (B : Nat) (hB : B ≤ w.heap.size) : OwnV (w.alloc (.cells #[.string s] 9)) B 9 (some ⟨w.heap.size, 0, none⟩) 1 1 [.string s] :=
  ⟨by simp, .inr ⟨w.heap.size, 1, #[.string s], rfl, hB, heap_alloc_new w _, by omega, by unfold maxLen; omega, by simp, by simp⟩⟩
/- append(out, list...) -/
theorem ap_rows {ops : Array Oper} {rest : List Oper} {o : Oper} {a : Act} {Q : Exit → Act → World → Prop} (w : World) (hgd : o.guard = none) (sl x : Operand)
    (ho : o.op = .call { callee := .builtin .append, args := #[sl, x], argTypes := #[60, 60] })
    (B : Nat) (A : Option Addr) (n c : Nat) (xs : List Value) (hs : a.eval sl = .slice A n c) (hown : OwnV w B 9 A n c xs) (A2 : Option Addr) (m c2 : Nat) (ls : List (List UInt8)) (hx : a.eval x = .slice A2 m c2) (hS : Strs w w.heap.size A2 m ls) (hm : 0 < m) (hlen : n + m ≤ 1000000) (hB : B ≤ w.heap.size)
    (h : ∀ A' c' w', OwnV w' B 9 A' (n + m) c' (xs ++ sc ls) → Below B w w' → wpList Tryd.prog ops Q rest (a.put o.dst (.slice A' (n + m) c')) w') :
    wpList Tryd.prog ops Q (o :: rest) a w := by
  obtain ⟨i0, hi, hz0, hz1, hz2⟩ := info_parts info_str
  obtain ⟨ad, rfl, hbl, hc⟩ := hS.2 hm
  refine wpList_append_lies _ hgd sl x 60 ho B 9 i0 _ 1 16 Tryd.underlying60 hi hz0 hz1 hz2 rfl (by omega) (.slice A n c) n xs hs hown ad m c2 (sc ls) hx (by simp [sc, hS.1]) (fun j u hu => ?_) (fun u hu => ?_) hm (by unfold maxLen; omega) (by omega) hB w.heap.size rfl ?_
  · unfold sc at hu
    rw [List.getElem?_map] at hu
    cases hj : ls[j]? with
    | none => rw [hj] at hu; cases hu
    | some l =>
      rw [hj, Option.map_some] at hu
      rw [← Option.some.inj hu]
      exact hc j l hj
  · obtain ⟨_, _, rfl⟩ := List.mem_map.1 hu
    rfl
  · intro g cap w' g1 g2 _ _
    exact h _ cap w' g1 (grown_low g2 hB (fun k hk => (hown.own k hk).1))
def RlPost (t : Ln.Tr) (w : World) (e : Ending) (w' : World) : Prop :=
  Gr w w' ∧ ((Ln.lsE (Ln.tl t) = 0 ∧ ∃ A' c', e = .returned (.tuple #[.slice A' (Ln.cnt t) c', .int .i64 0]) ∧ Strs w' w'.heap.size A' (Ln.cnt t) (Ln.tx t)) ∨
    (Ln.lsE (Ln.tl t) ≠ 0 ∧ e = .returned (.tuple #[.slice none 0 0, .int .i64 (Ln.lsE (Ln.tl t))])))
set_option maxHeartbeats 4000000 in
set_option maxRecDepth 100000 in
theorem reflines_any (d : Nat) : ∀ (t : Ln.Tr) (A A2 : Option Addr) (n c n2 c2 : Nat) (w : World), Lns w w.heap.size A n t.lines → Kds d w w.heap.size A2 n2 t.kids → Ln.FitT t → Ln.pf t = true → Ln.cnt t ≤ 100000 →
    Calls Tryd.prog 28 #[.agg #[.string ⟨t.name.toArray⟩, .slice A n c, .slice A2 n2 c2]] w (RlPost t w) := by
  induction d using Nat.strongRecOn with
  | _ d ih =>
  intro t A A2 n c n2 c2 w hLs hK hF hp hb
  have HL1 := Lib.hid hLs.1
  have HL2 := Lib.hid hK.len
  have hce := Ln.cnt_eq t
  rw [hLs.1] at hce
  have hn2 : n2 ≤ 1000000 := by have := Ln.cnts_len t.kids; have := HL2.out; omega
  have hn1 : n ≤ 1000000 := by omega
  have hnr : n + 2 + Ln.cnts t.kids ≤ 100000 := by omega
  rw [Ln.pf_eq] at hp
  simp only [Bool.and_eq_true] at hp
  obtain ⟨hnm, _, hpk⟩ := hp
  have HE1 := Lib.hid (fun k h => Ln.tl_err1 (t := t) hnm k h)
  have HE2 := Lib.hid (fun h0 k h => Ln.tl_err2 (t := t) hnm h0 k h)
  have HE3 := Lib.hid (fun h0 h => Ln.tl_good (t := t) hnm h0 h)
  have HTX := Lib.hid (Ln.tx_eq t)
  have hFl := hF.l
  have hFk := hF.k
  have HPK := Lib.hid hpk
  have HCK := Lib.hid hnr
  have hnz : (ByteArray.mk t.name.toArray).size ≤ 100 := by rw [size_mk]; have := ((Ln.nameB_iff _).1 hnm).2.1; omega
  have hX1 : ((⟨#[66, 69, 71, 73, 78, 58]⟩ : ByteArray) ++ ⟨t.name.toArray⟩) = ⟨(Ln.bg ++ 58 :: t.name).toArray⟩ := str_ext (by rw [cat_str]; rfl)
  have hX2 : ((⟨#[69, 78, 68, 58]⟩ : ByteArray) ++ ⟨t.name.toArray⟩) = ⟨(Ln.en ++ 58 :: t.name).toArray⟩ := str_ext (by rw [cat_str]; rfl)
  have HX1 := Lib.hid hX1
  have HX2 := Lib.hid hX2
  unfold RlPost
  have hce2 : Ln.cnt t = 1 + n + Ln.cnts t.kids + 1 := by omega
  rw [hce2]
  clear hce hF hpk hnm hX1 hX2 hb hce2
  generalize Ln.lsE (Ln.tl t) = E at *
  generalize Ln.tx t = TX at *
  generalize (Ln.bg ++ 58 :: t.name) = tb at *
  generalize (Ln.en ++ 58 :: t.name) = te at *
  generalize (ByteArray.mk t.name.toArray) = nb at *
  generalize t.lines = ls at *
  generalize t.kids = ks at *
  have hg0 : Gr w (w.alloc (.cells #[.string nb, .slice A n c, .slice A2 n2 c2] 25)) := (Gr.refl w).allocO _
  have hx0 := Bx3.new w (.string nb) (.slice A n c) (.slice A2 n2 c2) 25
  have hsz0 : (w.alloc (.cells #[.string nb, .slice A n c, .slice A2 n2 c2] 25)).heap.size = w.heap.size + 1 := by simp
  have hown1 := own_lit (w.alloc (.cells #[.string nb, .slice A n c, .slice A2 n2 c2] 25)) ((⟨#[66, 69, 71, 73, 78, 58]⟩ : ByteArray) ++ nb) (w.heap.size + 1) (by omega)
  have hg1 : Gr (w.alloc (.cells #[.string nb, .slice A n c, .slice A2 n2 c2] 25)) ((w.alloc (.cells #[.string nb, .slice A n c, .slice A2 n2 c2] 25)).alloc (.cells #[.string ((⟨#[66, 69, 71, 73, 78, 58]⟩ : ByteArray) ++ nb)] 9)) := (Gr.refl _).allocO _
  rw [HX1.out, hsz0] at hown1
  have hx1 := hx0.gr hg1
  have hg1' := hg0.trans hg1
  rw [HX1.out] at hg1 hx1 hg1'
  go_enter Tryd.func28, Tryd.ntmps28
  go_wp2_with fail
  rw [HX1.out]
  generalize ((w.alloc (.cells #[.string nb, .slice A n c, .slice A2 n2 c2] 25)).alloc (.cells #[.string ⟨tb.toArray⟩] 9)) = w1 at *
  have hsz1 : w.heap.size + 1 ≤ w1.heap.size := by have := hg1.lt; omega
  clear hg0 hg1 hx0 hsz0
  go_loopg [4, 18] n (fun g v4 v18 wx => ∃ Ax cx, ∃ k m : Nat, v4 = .slice Ax m cx ∧ v18 = .int .i64 (k : Int) ∧ k + g = n ∧ m = 1 + k ∧ OwnV wx (w.heap.size + 1) 9 Ax m cx (sc ([] ++ tb :: (ls.take k).map Ln.pr)) ∧ Below (w.heap.size + 1) w1 wx ∧ Hid (Ln.lsE (ls.take k) = 0))
  case atStart => exact ⟨_, _, 0, 1, rfl, rfl, by omega, rfl, by simpa [sc] using hown1, Below.refl _ _, Lib.hid (by rw [List.take_zero]; rfl)⟩
  case round =>
    obtain ⟨Ax, cx, k, m, rfl, rfl, hkg, hm, hownx, hbx1, HZ⟩ := hrel
    have HG := Lib.hid hkg
    have HM := Lib.hid hm
    clear hkg hm
    have hbx : Below w.heap.size w wr := hg1'.below.trans (hbx1.mono (by omega))
    have hszr : w.heap.size + 1 ≤ wr.heap.size := by have := hbx1.size; omega
    have hx3 := hx1.below hbx1 (by omega)
    by_cases hk : k < n
    · obtain ⟨ad, hk', A', n', c', rfl, hbl, hc0, hc1, hc2, hP, hnc⟩ := (hLs.keep hbx).at_ hk
      have hfl := hFl _ (List.getElem_mem hk')
      have cP := refprint_any ⟨ls[k].name.toArray⟩ ⟨ls[k].value.toArray⟩ A' n' c' ls[k].ps wr (hP.more (by omega)) (by rw [size_mk]; exact hfl.1.name) (by rw [size_mk]; exact hfl.1.value) hfl.1.p1 hfl.1.p2' hfl.1.p3 (fun hf => by rw [size_mk, size_mk]; have := hfl.w hf; omega)
      have e1 : (⟨(ByteArray.mk ls[k].name.toArray).data.toList, ls[k].ps, (ByteArray.mk ls[k].value.toArray).data.toList⟩ : Ln.Li) = ls[k] := rfl
      rw [e1] at cP
      have hst := Ln.lsE_one hk' HZ.out
      have HTK := Lib.hid (List.take_succ_eq_append_getElem hk')
      have hkn : (k : Int) < (n : Int) := by omega
      obtain ⟨a0, a1, a2, a3, a4, a5⟩ := hx3
      by_cases hpe : Ln.prE ls[k] = 0
      · have hpt : Ln.prT ls[k] = Ln.pr ls[k] := by unfold Ln.prT; rw [if_pos hpe]
        rw [hpe, hpt] at cP
        rw [hpe] at hst
        have HZ2 := Lib.hid hst
        have hm5 : m + 1 ≤ 1000000 := by have := HCK.out; have := HM.out; omega
        clear hst hpe hpt e1 HZ ih hfl
        generalize (ByteArray.mk ls[k].name.toArray) = nl at *
        generalize (ByteArray.mk ls[k].value.toArray) = vl at *
        go_wp2_with (first
          | (go_at_call 47; refine cP.mono ?_; rintro e w6 ⟨rfl, hg6⟩)
          | (at_builtin; refine ap_strG w6 rfl (.tmp 33) (.tmp 35) rfl (w.heap.size + 1) Ax m cx _ rfl (hownx.gr hg6) (ByteArray.mk (Ln.pr ls[k]).toArray) rfl hm5 (by have := hg6.lt; omega) ?_; intro g7 c7 w7 hown7 hgw7 hgo7))
        go_roundg (n - (k + 1))
        case measure => have := HG.out; omega
        case rel =>
          refine ⟨_, c7, k + 1, m + 1, rfl, by go_num, by omega, by have := HM.out; omega, ?_, (hbx1.trans (hg6.low hszr)).trans (grown_low hgw7 (by have := hg6.lt; omega) (fun g hg => (hownx.own g hg).1)), HZ2⟩
          rw [HTK.out, List.map_append, List.map_cons, List.map_nil, sc_more]; exact hown7
      · have HE : Hid (E = Ln.prE ls[k]) := Lib.hid ((HE1.out (k + 1) (by rw [hst]; exact hpe)).trans hst)
        have HPE := Lib.hid hpe
        have hpe2 : (Ln.prE ls[k] != 0) = true := by simp [hpe]
        clear hst hpe e1 HZ ih hfl HE1 HE2 HE3
        generalize Ln.prE ls[k] = pe at *
        generalize (ByteArray.mk ls[k].name.toArray) = nl at *
        generalize (ByteArray.mk ls[k].value.toArray) = vl at *
        go_wp2_with (go_at_call 47; refine cP.mono ?_; rintro e w6 ⟨rfl, hg6⟩)
        refine bodyPost_ret (v := .tuple #[.slice none 0 0, .int .i64 pe]) (by simp [results, Tryd.results28, go_sem]) rfl ?_
        exact ⟨⟨hbx.trans (hg6.low (by omega))⟩, .inr ⟨by rw [HE.out]; exact HPE.out, by rw [HE.out]⟩⟩
    · obtain rfl : k = n := by have := HG.out; omega
      have HZ1 := HZ.out
      rw [List.take_of_length_le (by rw [HL1.out]; exact Nat.le_refl _)] at HZ1 hownx
      have HZ1 := Lib.hid HZ1
      clear HZ HE1
      obtain ⟨b0, b1, b2, b3, b4, b5⟩ := hx3
      go_wp2_with fail
      have hm1 := HM.out
      go_loopg [4, 41] n2 (fun g v4 v41 wx => ∃ Ax cx, ∃ k2 m : Nat, v4 = .slice Ax m cx ∧ v41 = .int .i64 (k2 : Int) ∧ k2 + g = n2 ∧ Hid (m = 1 + k + Ln.cnts (ks.take k2)) ∧ OwnV wx (w.heap.size + 1) 9 Ax m cx (sc ([] ++ tb :: (ls.map Ln.pr ++ (Ln.tls (ks.take k2)).map Ln.pr))) ∧ Below (w.heap.size + 1) w1 wx ∧ Hid (Ln.lsE (Ln.tls (ks.take k2)) = 0))
      case atStart => exact ⟨Ax, cx, 0, m, rfl, rfl, by omega, Lib.hid (by rw [List.take_zero]; simp [Ln.cnts]; omega), by rw [List.take_zero]; simpa [Ln.tls] using hownx, hbx1, Lib.hid (by rw [List.take_zero]; rfl)⟩
      case round =>
        clear hownx hbx1 hbx hszr HM hm1 b0 b1 b2 b3 b4 b5
        obtain ⟨Ax, cx, k2, m, rfl, rfl, hkg2, HM, hownx, hbx1, HZ⟩ := hrel
        have HG2 := Lib.hid hkg2
        clear hkg2
        have hbx : Below w.heap.size w wr := hg1'.below.trans (hbx1.mono (by omega))
        have hszr : w.heap.size + 1 ≤ wr.heap.size := by have := hbx1.size; omega
        have hx3 := hx1.below hbx1 (by omega)
        by_cases hk2 : k2 < n2
        · obtain ⟨d', hd', ad, hk', A1, n1, c1, A3, n3, c3, rfl, hbl, hc0, hc1, hc2, hLn3, hKn⟩ := (hK.keep hbx).at_ hk2
          have hct := Ln.cnts_take ks k2 hk'
          have hle := Ln.cnts_le ks (k2 + 1)
          have hck := HCK.out
          have hmm := HM.out
          have cK := ih d' hd' ks[k2] A1 A3 n1 c1 n3 c3 wr (hLn3.more (by omega)) (hKn.more (by omega) (Nat.le_refl _)) (hFk _ (List.getElem_mem hk')) (Ln.pfs_mem (List.getElem_mem hk') HPK.out) (by omega)
          have hst := Ln.tls_err ks k2 hk' HZ.out
          have HTK := Lib.hid (Ln.tls_take ks k2 hk')
          have hkn : (k2 : Int) < (n2 : Int) := by omega
          have hqp := Ln.cnt_pos ks[k2]
          obtain ⟨a0, a1, a2, a3, a4, a5⟩ := hx3
          obtain ⟨q, hq⟩ : ∃ q, Ln.cnt ks[k2] = q := ⟨_, rfl⟩
          have HQ : Hid (m + q = 1 + k + Ln.cnts (ks.take (k2 + 1))) := Lib.hid (by omega)
          have hmq : m + q ≤ 1000000 := by omega
          unfold RlPost at cK
          rw [hq] at cK hqp
          have HTX2 : Hid (Ln.tx ks[k2] = (Ln.tl ks[k2]).map Ln.pr) := Lib.hid rfl
          have HST := Lib.hid hst
          clear hct hle hck hmm hq hst ih
          generalize (ByteArray.mk ks[k2].name.toArray) = nk at *
          generalize Ln.lsE (Ln.tl ks[k2]) = F at *
          generalize Ln.tx ks[k2] = TK at *
          by_cases hF0 : F = 0
          · have cK := cK.mono (R' := fun e w' => Gr wr w' ∧ ∃ A' c', e = .returned (.tuple #[.slice A' q c', .int .i64 0]) ∧ Strs w' w'.heap.size A' q TK) (by
              rintro e w' ⟨h1, ⟨_, A', c', h2, h3⟩ | ⟨h2, _⟩⟩
              · exact ⟨h1, A', c', h2, h3⟩
              · exact absurd hF0 h2)
            have HZ2 : Hid (Ln.lsE (Ln.tls (ks.take (k2 + 1))) = 0) := Lib.hid (HST.out.trans hF0)
            clear hF0 HST HZ HE2 HE3
            go_wp2_with (first
              | (go_at_call 28; refine cK.mono ?_; rintro e w6 ⟨hg6, A6, c6, rfl, hS6⟩)
              | (at_builtin; refine ap_rows w6 rfl (.tmp 56) (.tmp 57) rfl (w.heap.size + 1) Ax m cx _ rfl (hownx.gr hg6) A6 q c6 TK rfl hS6 (by omega) hmq (by have := hg6.lt; omega) ?_; intro A7 c7 w7 hown7 hb7))
            go_roundg (n2 - (k2 + 1))
            case measure => have := HG2.out; omega
            case rel =>
              refine ⟨A7, c7, k2 + 1, m + q, rfl, by go_num, by omega, HQ, ?_, (hbx1.trans (hg6.low hszr)).trans hb7, HZ2⟩
              rw [HTX2.out, ← sc_append] at hown7
              rw [HTK.out, List.map_append]
              simpa only [List.append_assoc, List.cons_append] using hown7
          · have cK := cK.mono (R' := fun e w' => Gr wr w' ∧ e = .returned (.tuple #[.slice none 0 0, .int .i64 F])) (by
              rintro e w' ⟨h1, ⟨h2, _⟩ | ⟨_, h2⟩⟩
              · exact absurd h2 hF0
              · exact ⟨h1, h2⟩)
            have HE : Hid (E = F) := Lib.hid ((HE2.out HZ1.out (k2 + 1) (by rw [HST.out]; exact hF0)).trans HST.out)
            have HF := Lib.hid hF0
            have hpe2 : (F != 0) = true := by simp [hF0]
            clear hF0 HST HZ HE2 HE3
            go_wp2_with (go_at_call 28; refine cK.mono ?_; rintro e w6 ⟨hg6, rfl⟩)
            refine bodyPost_ret (v := .tuple #[.slice none 0 0, .int .i64 F]) (by simp [results, Tryd.results28, go_sem]) rfl ?_
            exact ⟨⟨hbx.trans (hg6.low (by omega))⟩, .inr ⟨by rw [HE.out]; exact HF.out, by rw [HE.out]⟩⟩
        · obtain rfl : k2 = n2 := by have := HG2.out; omega
          have HZ2 := HZ.out
          have hmm := HM.out
          rw [List.take_of_length_le (by rw [HL2.out]; exact Nat.le_refl _)] at HZ2 hownx hmm
          have HE : Hid (E = 0) := Lib.hid (HE3.out HZ1.out HZ2)
          have hm5 : m + 1 ≤ 1000000 := by have := HCK.out; omega
          have HM2 := Lib.hid hmm
          obtain ⟨b0, b1, b2, b3, b4, b5⟩ := hx3
          clear HZ HE2 HE3 HZ2 HM hmm
          go_wp2_with (at_builtin; refine ap_strG wr rfl (.tmp 60) (.tmp 64) rfl (w.heap.size + 1) Ax m cx _ rfl hownx ((⟨#[69, 78, 68, 58]⟩ : ByteArray) ++ nb) rfl hm5 (by omega) ?_; intro g7 c7 w7 hown7 hgw7 hgo7)
          refine bodyPost_ret (v := .tuple #[.slice (some ⟨g7, 0, none⟩) (m + 1) c7, .int .i64 0]) (by simp [results, Tryd.results28, go_sem]) rfl ?_
          have hmq : 1 + k + Ln.cnts ks + 1 = m + 1 := by have := HM2.out; omega
          refine ⟨⟨hbx.trans ((grown_low hgw7 hszr (fun g hg => (hownx.own g hg).1)).mono (by omega))⟩, .inl ⟨HE.out, _, c7, by rw [hmq], ?_⟩⟩
          rw [hmq, HTX.out]
          rw [HX2.out] at hown7
          have : sc (tb :: (ls.map Ln.pr ++ ((Ln.tls ks).map Ln.pr ++ [te]))) = sc ([] ++ tb :: (ls.map Ln.pr ++ (Ln.tls ks).map Ln.pr)) ++ [.string ⟨te.toArray⟩] := by simp [sc]
          rw [← this] at hown7
          exact Strs.of_own hown7
set_option maxHeartbeats 4000000 in
set_option maxRecDepth 100000 in
theorem refpt_any (d : Nat) (t : Ln.Tr) (A A2 : Option Addr) (n c n2 c2 : Nat) (w : World) (hLs : Lns w w.heap.size A n t.lines) (hK : Kds d w w.heap.size A2 n2 t.kids) (hR : Ln.RwT t) (hb : Ln.pf t = true → Ln.cnt t ≤ 1000000) (hFt : Ln.fmT t = true → Ln.FitT t) :
    Calls Tryd.prog 11 #[.agg #[.string ⟨t.name.toArray⟩, .slice A n c, .slice A2 n2 c2]] w fun e w' => e = .returned (.tuple #[.string ⟨(Ln.ptT t).toArray⟩, .int .i64 (Ln.ptE t)]) ∧ Gr w w' := by
  have hg0 : Gr w (w.alloc (.cells #[.string ⟨t.name.toArray⟩, .slice A n c, .slice A2 n2 c2] 25)) := (Gr.refl w).allocO _
  have hx0 := Bx3.new w (.string ⟨t.name.toArray⟩) (.slice A n c) (.slice A2 n2 c2) 25
  have cF := rformed_any d t A A2 n c n2 c2 _ (hLs.gr hg0) (hK.gr hg0) hR hb
  cases hfm : Ln.fmT t
  · obtain ⟨e1, e2⟩ := Ln.pt_no hfm
    rw [hfm] at cF
    rw [e1, e2]
    clear hfm e1 e2 hFt hLs hK
    generalize (ByteArray.mk t.name.toArray) = nb at *
    go_enter Tryd.func11, Tryd.ntmps11
    go_wp2_with (go_at_call 13; refine cF.mono ?_; rintro e w1 ⟨rfl, hg1⟩)
    go_ret2
    exact ⟨rfl, hg0.trans hg1⟩
  · rw [hfm] at cF
    obtain ⟨_, h300, hpf⟩ := (Ln.fmT_iff t).1 hfm
    have hF := hFt hfm
    clear hFt
    have cA := fun w1 (h1 : Gr w w1) => reflines_any d t A A2 n c n2 c2 w1 (hLs.gr h1) (hK.gr h1) hF hpf (by omega)
    by_cases hz : Ln.lsE (Ln.tl t) = 0
    · obtain ⟨e1, e2⟩ := Ln.pt_fold hfm hz
      rw [e1, e2]
      have hsh := Ln.tx_short hz
      have cA := fun w1 (h1 : Gr w w1) => (cA w1 h1).mono (R' := fun e w' => ∃ A' n' c', e = .returned (.tuple #[.slice A' n' c', .int .i64 0]) ∧ Strs w' w'.heap.size A' n' (Ln.tx t) ∧ n' ≤ 300 ∧ Gr w1 w') (by
        rintro e w' ⟨h2, ⟨_, A', c', h3, h4⟩ | ⟨h3, _⟩⟩
        · exact ⟨_, _, c', h3, h4, by omega, h2⟩
        · exact absurd hz h3)
      have cL := fun w1 A' n' c' (h2 : Strs w1 w1.heap.size A' n' (Ln.tx t)) (h3 : n' ≤ 300) => reffold_any A' n' c' (Ln.tx t) w1 h2 (by omega) (fun l hl => by have := hsh l hl; omega)
      clear hfm e1 e2 hF hLs hK hpf hz hsh
      generalize (ByteArray.mk t.name.toArray) = nb at *
      generalize Fd.foldT (Ln.tx t) = T at *
      generalize Fd.foldE (Ln.tx t) = E at *
      generalize Ln.tx t = TX at *
      go_enter Tryd.func11, Tryd.ntmps11
      go_wp2_with (first
        | (go_at_call 13; refine cF.mono ?_; rintro e w1 ⟨rfl, hg1⟩; obtain ⟨a0, a1, a2, a3, a4, a5⟩ := hx0.gr hg1)
        | (go_at_call 28; refine (cA _ (hg0.trans hg1)).mono ?_; rintro e w2 ⟨A', n', c', rfl, hS2, hn', hg2⟩)
        | (go_at_call 29; refine (cL _ A' n' c' hS2 hn').mono ?_; rintro e w3 ⟨rfl, hg3⟩))
      go_ret2
      exact ⟨rfl, ((hg0.trans hg1).trans hg2).trans hg3⟩
    · obtain ⟨e1, e2⟩ := Ln.pt_line hfm hz
      rw [e1, e2]
      have hz2 : (Ln.lsE (Ln.tl t) != 0) = true := by simp [hz]
      have cA := fun w1 (h1 : Gr w w1) => (cA w1 h1).mono (R' := fun e w' => e = .returned (.tuple #[.slice none 0 0, .int .i64 (Ln.lsE (Ln.tl t))]) ∧ Gr w1 w') (by
        rintro e w' ⟨h2, ⟨h3, _⟩ | ⟨_, h3⟩⟩
        · exact absurd h3 hz
        · exact ⟨h3, h2⟩)
      clear hfm e1 e2 hF hLs hK hpf hz
      generalize (ByteArray.mk t.name.toArray) = nb at *
      generalize Ln.lsE (Ln.tl t) = E at *
      go_enter Tryd.func11, Tryd.ntmps11
      go_wp2_with (first
        | (go_at_call 13; refine cF.mono ?_; rintro e w1 ⟨rfl, hg1⟩; obtain ⟨a0, a1, a2, a3, a4, a5⟩ := hx0.gr hg1)
        | (go_at_call 28; refine (cA _ (hg0.trans hg1)).mono ?_; rintro e w2 ⟨rfl, hg2⟩))
      go_ret2
      exact ⟨rfl, (hg0.trans hg1).trans hg2⟩
end Go.Proofs.YtbfngdpdgmgfpaaDoor
