/- What slices.Equal, the laws' Same of lists, equalParam, slices.EqualFunc and line.Equal return. -/
import Derived.Test.YtpcmhaflmpcicaaDoorLnAft
import Derived.Test.YtpcmhaflmpcicaaDoorLnFv
namespace Go.Proofs.YtpcmhaflmpcicaaDoor
open Go.RowKit

set_option maxHeartbeats 1000000 in
theorem sleq_any (A A2 : Option Addr) (n c n2 c2 : Nat) (ls ms : List (List UInt8)) (w : World) (hS : Strs w w.heap.size A n ls) (hS2 : Strs w w.heap.size A2 n2 ms) (hn : n ≤ 140737488355328) (q : Bool) (hq : q = true ↔ ls = ms) :
    Calls Tryd.prog 44 #[.slice A n c, .slice A2 n2 c2] w fun e w' => e = .returned (.bool q) ∧ ∃ d, w' = w.drewN d := by
  have hl : ls.length = n := hS.1
  have hl2 : ms.length = n2 := hS2.1
  by_cases hnn : n = n2
  · subst hnn
    have HL := Lib.hid (And.intro hl hl2)
    have HQ := Lib.hid hq
    clear hl hl2 hq
    go_enter Tryd.func44, Tryd.ntmps44
    go_wp2
    go_loopg [13] n (fun g v wx => ∃ k : Nat, v = .int .i64 (k : Int) ∧ k + g = n ∧ (∃ d, wx = w.drewN d) ∧ Hid (ls.take k = ms.take k))
    case atStart => exact ⟨0, rfl, by omega, ⟨0, rfl⟩, Lib.hid (by simp)⟩
    case round =>
      obtain ⟨k, rfl, hkg, ⟨d, rfl⟩, HT⟩ := hrel
      have HG := Lib.hid hkg
      clear hkg
      by_cases hk : k < n
      · obtain ⟨ad, hk', rfl, hbl, hcell⟩ := hS.at_ hk
        obtain ⟨ad2, hk2, rfl, hbl2, hcell2⟩ := hS2.at_ hk
        have HT1 := Lib.hid (List.take_succ_eq_append_getElem hk')
        have HT2 := Lib.hid (List.take_succ_eq_append_getElem hk2)
        have HX := Lib.hid (fun (h : ls = ms) => show ls[k] = ms[k] by subst h; rfl)
        by_cases he : ls[k] = ms[k]
        · have hs1 : ((ByteArray.mk ls[k].toArray).toList == (ByteArray.mk ms[k].toArray).toList) = true := str_eq ⟨fun _ => he, fun _ => rfl⟩
          have HE : Hid (ls.take (k + 1) = ms.take (k + 1)) := Lib.hid (by rw [HT1.out, HT2.out, HT.out, he])
          clear he HX HT1 HT2
          generalize (ByteArray.mk ls[k].toArray) = s1 at *
          generalize (ByteArray.mk ms[k].toArray) = s2 at *
          go_wp2
          go_quiet (fail)
          go_wp2
          go_roundg (n - (k + 1))
          case measure => have := HG.out; omega
          case rel => exact ⟨k + 1, by go_num, by omega, ⟨_, rfl⟩, HE⟩
        · have hs1 : ((ByteArray.mk ls[k].toArray).toList == (ByteArray.mk ms[k].toArray).toList) = false := str_eq ⟨fun h => (by cases h), fun h => absurd h he⟩
          have HE : Hid (q = false) := Lib.hid (by
            cases hc : q
            · rfl
            · exact absurd (HX.out (HQ.out.1 hc)) he)
          clear he HX HT1 HT2
          generalize (ByteArray.mk ls[k].toArray) = s1 at *
          generalize (ByteArray.mk ms[k].toArray) = s2 at *
          go_wp2
          go_quiet (fail)
          go_wp2
          go_ret
          exact ⟨ret_bool HE.out.symm, _, World.drewN_drewN _ _ _⟩
      · obtain rfl : k = n := by have := HG.out; omega
        have HE : Hid (q = true) := Lib.hid (HQ.out.2 (by
          have h := HT.out
          rwa [List.take_of_length_le (by rw [HL.out.1]; exact Nat.le_refl _), List.take_of_length_le (by rw [HL.out.2]; exact Nat.le_refl _)] at h))
        go_wp2
        go_ret
        exact ⟨ret_bool HE.out.symm, d, rfl⟩
  · have HE : Hid (q = false) := Lib.hid (by
      cases hc : q
      · rfl
      · exact absurd (by rw [← hl, ← hl2, hq.1 hc]) hnn)
    have hne : ((n : Int) == (n2 : Int)) = false := by rw [beq_eq_false_iff_ne]; omega
    clear hl hl2 hq hnn
    go_enter Tryd.func44, Tryd.ntmps44
    go_wp2
    go_ret
    exact ⟨ret_bool HE.out.symm, 0, rfl⟩
set_option maxHeartbeats 1000000 in
theorem lsame_any (A A2 : Option Addr) (n c n2 c2 : Nat) (ls ms : List (List UInt8)) (w : World) (hS : Strs w w.heap.size A n ls) (hS2 : Strs w w.heap.size A2 n2 ms) (hn : n ≤ 140737488355328) (q : Bool) (hq : q = true ↔ ls = ms) :
    Calls Tryd.prog 31 #[.slice A n c, .slice A2 n2 c2] w fun e w' => e = .returned (.bool q) ∧ ∃ d, w' = w.drewN d := by
  have hl : ls.length = n := hS.1
  have hl2 : ms.length = n2 := hS2.1
  by_cases hnn : n = n2
  · subst hnn
    have HL := Lib.hid (And.intro hl hl2)
    have HQ := Lib.hid hq
    clear hl hl2 hq
    go_enter Tryd.func31, Tryd.ntmps31
    go_wp2
    go_loopg [13] n (fun g v wx => ∃ k : Nat, v = .int .i64 (k : Int) ∧ k + g = n ∧ (∃ d, wx = w.drewN d) ∧ Hid (ls.take k = ms.take k))
    case atStart => exact ⟨0, rfl, by omega, ⟨0, rfl⟩, Lib.hid (by simp)⟩
    case round =>
      obtain ⟨k, rfl, hkg, ⟨d, rfl⟩, HT⟩ := hrel
      have HG := Lib.hid hkg
      clear hkg
      by_cases hk : k < n
      · obtain ⟨ad, hk', rfl, hbl, hcell⟩ := hS.at_ hk
        obtain ⟨ad2, hk2, rfl, hbl2, hcell2⟩ := hS2.at_ hk
        have HT1 := Lib.hid (List.take_succ_eq_append_getElem hk')
        have HT2 := Lib.hid (List.take_succ_eq_append_getElem hk2)
        have HX := Lib.hid (fun (h : ls = ms) => show ls[k] = ms[k] by subst h; rfl)
        by_cases he : ls[k] = ms[k]
        · have hs1 : ((ByteArray.mk ls[k].toArray).toList == (ByteArray.mk ms[k].toArray).toList) = true := str_eq ⟨fun _ => he, fun _ => rfl⟩
          have HE : Hid (ls.take (k + 1) = ms.take (k + 1)) := Lib.hid (by rw [HT1.out, HT2.out, HT.out, he])
          clear he HX HT1 HT2
          generalize (ByteArray.mk ls[k].toArray) = s1 at *
          generalize (ByteArray.mk ms[k].toArray) = s2 at *
          go_wp2
          go_quiet (fail)
          go_wp2
          go_roundg (n - (k + 1))
          case measure => have := HG.out; omega
          case rel => exact ⟨k + 1, by go_num, by omega, ⟨_, rfl⟩, HE⟩
        · have hs1 : ((ByteArray.mk ls[k].toArray).toList == (ByteArray.mk ms[k].toArray).toList) = false := str_eq ⟨fun h => (by cases h), fun h => absurd h he⟩
          have HE : Hid (q = false) := Lib.hid (by
            cases hc : q
            · rfl
            · exact absurd (HX.out (HQ.out.1 hc)) he)
          clear he HX HT1 HT2
          generalize (ByteArray.mk ls[k].toArray) = s1 at *
          generalize (ByteArray.mk ms[k].toArray) = s2 at *
          go_wp2
          go_quiet (fail)
          go_wp2
          go_ret
          exact ⟨ret_bool HE.out.symm, _, World.drewN_drewN _ _ _⟩
      · obtain rfl : k = n := by have := HG.out; omega
        have HE : Hid (q = true) := Lib.hid (HQ.out.2 (by
          have h := HT.out
          rwa [List.take_of_length_le (by rw [HL.out.1]; exact Nat.le_refl _), List.take_of_length_le (by rw [HL.out.2]; exact Nat.le_refl _)] at h))
        go_wp2
        go_ret
        exact ⟨ret_bool HE.out.symm, d, rfl⟩
  · have HE : Hid (q = false) := Lib.hid (by
      cases hc : q
      · rfl
      · exact absurd (by rw [← hl, ← hl2, hq.1 hc]) hnn)
    have hne : ((n : Int) == (n2 : Int)) = false := by rw [beq_eq_false_iff_ne]; omega
    clear hl hl2 hq hnn
    go_enter Tryd.func31, Tryd.ntmps31
    go_wp2
    go_ret
    exact ⟨ret_bool HE.out.symm, 0, rfl⟩
theorem gr_of_drew {w w' : World} (h : ∃ d, w' = w.drewN d) : Gr w w' := by
  obtain ⟨d, rfl⟩ := h
  exact (Gr.refl w).drewN d
set_option maxHeartbeats 1000000 in
theorem eqpar_any (a b : ByteArray) (A A2 : Option Addr) (n c n2 c2 : Nat) (ls ms : List (List UInt8)) (w : World) (hS : Strs w w.heap.size A n ls) (hS2 : Strs w w.heap.size A2 n2 ms) (hn : n ≤ 140737488355328) (q : Bool) (hq : q = true ↔ (a.data.toList = b.data.toList ∧ ls = ms)) :
    Calls Tryd.prog 33 #[.agg #[.string a, .slice A n c], .agg #[.string b, .slice A2 n2 c2]] w fun e w' => e = .returned (.bool q) ∧ Gr w w' := by
  have hg0 : Gr w (w.alloc (.cells #[.string a, .slice A n c] 49)) := (Gr.refl w).allocO _
  have hg1 : Gr w ((w.alloc (.cells #[.string a, .slice A n c] 49)).alloc (.cells #[.string b, .slice A2 n2 c2] 49)) := hg0.allocO _
  by_cases he : a.data.toList = b.data.toList
  · have hs1 : (a.toList == b.toList) = true := str_eq ⟨fun _ => he, fun _ => rfl⟩
    have cE := sleq_any A A2 n c n2 c2 ls ms _ ((hS.keep hg1.below).more hg1.lt) ((hS2.keep hg1.below).more hg1.lt) hn q (by rw [hq]; exact ⟨fun h => h.2, fun h => ⟨he, h⟩⟩)
    clear he hq hS hS2
    go_enter Tryd.func33, Tryd.ntmps33
    go_wp2_with (go_at_call 44; refine cE.mono ?_; rintro e w1 ⟨rfl, hd⟩)
    go_ret
    exact ⟨rfl, hg1.trans (gr_of_drew hd)⟩
  · have hs1 : (a.toList == b.toList) = false := str_eq ⟨fun h => (by cases h), fun h => absurd h he⟩
    have HE : Hid (q = false) := Lib.hid (by
      cases hc : q
      · rfl
      · exact absurd (hq.1 hc).1 he)
    clear he hq
    go_enter Tryd.func33, Tryd.ntmps33
    go_wp2
    go_ret
    exact ⟨ret_bool HE.out.symm, hg1⟩
set_option maxHeartbeats 2000000 in
theorem eqf_any (A A2 : Option Addr) (n c n2 c2 : Nat) (ps qs : List Ln.Par) (w : World) (hP : Pars w w.heap.size A n ps) (hQ : Pars w w.heap.size A2 n2 qs) (hn : n ≤ 140737488355328) (hv : ∀ p ∈ ps, p.2.length ≤ 140737488355328) (q : Bool) (hq : q = true ↔ ps = qs) :
    Calls Tryd.prog 32 #[.slice A n c, .slice A2 n2 c2, .func (.func 33) #[] #[]] w fun e w' => e = .returned (.bool q) ∧ Gr w w' := by
  have hl : ps.length = n := hP.1
  have hl2 : qs.length = n2 := hQ.1
  by_cases hnn : n = n2
  · subst hnn
    have HL := Lib.hid (And.intro hl hl2)
    have HQ := Lib.hid hq
    clear hl hl2 hq
    go_enter Tryd.func32, Tryd.ntmps32
    go_wp2
    go_loopg [17] n (fun g v wx => ∃ k : Nat, v = .int .i64 (k : Int) ∧ k + g = n ∧ Gr w wx ∧ Hid (ps.take k = qs.take k))
    case atStart => exact ⟨0, rfl, by omega, Gr.refl _, Lib.hid (by simp)⟩
    case round =>
      obtain ⟨k, rfl, hkg, hg, HT⟩ := hrel
      have HG := Lib.hid hkg
      clear hkg
      by_cases hk : k < n
      · obtain ⟨ad, hk', rfl, hbl, hc0', A', n', c', hc1', hS⟩ := hP.at_ hk
        obtain ⟨ad2, hk2, rfl, hbl2, hd0', A2', n2', c2', hd1', hS2⟩ := hQ.at_ hk
        have hc0 := (hg.below.cell (p := ad.add (k * 2)) (by rw [add_block]; exact hbl)).trans hc0'
        have hc1 := (hg.below.cell (p := ⟨(ad.add (k * 2)).block, (ad.add (k * 2)).off + 1, none⟩) (by show (ad.add (k * 2)).block < _; rw [add_block]; exact hbl)).trans hc1'
        have hd0 := (hg.below.cell (p := ad2.add (k * 2)) (by rw [add_block]; exact hbl2)).trans hd0'
        have hd1 := (hg.below.cell (p := ⟨(ad2.add (k * 2)).block, (ad2.add (k * 2)).off + 1, none⟩) (by show (ad2.add (k * 2)).block < _; rw [add_block]; exact hbl2)).trans hd1'
        have hblr : ad2.block < wr.heap.size := Nat.lt_of_lt_of_le hbl2 hg.lt
        have hgA : Gr wr (wr.alloc (.cells #[.string ⟨ps[k].1.toArray⟩, .slice A' n' c'] 49)) := (Gr.refl wr).allocO _
        have hgB : Gr wr ((wr.alloc (.cells #[.string ⟨ps[k].1.toArray⟩, .slice A' n' c'] 49)).alloc (.cells #[.string ⟨qs[k].1.toArray⟩, .slice A2' n2' c2'] 49)) := hgA.allocO _
        have he0 := (hgA.below.cell (p := ad2.add (k * 2)) (by rw [add_block]; exact hblr)).trans hd0
        have he1 := (hgA.below.cell (p := ⟨(ad2.add (k * 2)).block, (ad2.add (k * 2)).off + 1, none⟩) (by show (ad2.add (k * 2)).block < _; rw [add_block]; exact hblr)).trans hd1
        have hxA := (Bx2.new wr (.string ⟨ps[k].1.toArray⟩) (.slice A' n' c') 49).gr ((Gr.refl _).allocO (.cells #[.string ⟨qs[k].1.toArray⟩, .slice A2' n2' c2'] 49))
        have hgW := hg.trans hgB
        have hnv : n' ≤ 140737488355328 := by have := hS.1; have := hv _ (List.getElem_mem hk'); omega
        have cE := eqpar_any ⟨ps[k].1.toArray⟩ ⟨qs[k].1.toArray⟩ A' A2' n' c' n2' c2' ps[k].2 qs[k].2 _ ((hS.keep hgW.below).more hgW.lt) ((hS2.keep hgW.below).more hgW.lt) hnv
        have HT1 := Lib.hid (List.take_succ_eq_append_getElem hk')
        have HT2 := Lib.hid (List.take_succ_eq_append_getElem hk2)
        have HX := Lib.hid (fun (h : ps = qs) => show ps[k] = qs[k] by subst h; rfl)
        have x0 := hxA.c0
        have x1 := hxA.c1
        by_cases he : ps[k] = qs[k]
        · have cE1 := cE true ⟨fun _ => ⟨congrArg Prod.fst he, congrArg Prod.snd he⟩, fun _ => rfl⟩
          have HE : Hid (ps.take (k + 1) = qs.take (k + 1)) := Lib.hid (by rw [HT1.out, HT2.out, HT.out, he])
          clear he HX HT1 HT2 cE hS hS2 hc0' hc1' hd0' hd1' hxA
          generalize (ByteArray.mk ps[k].1.toArray) = s1 at *
          generalize (ByteArray.mk qs[k].1.toArray) = s2 at *
          go_wp2_with (go_at_call 33; refine cE1.mono ?_; rintro e w1 ⟨rfl, hg1⟩)
          go_roundg (n - (k + 1))
          case measure => have := HG.out; omega
          case rel => exact ⟨k + 1, by go_num, by omega, hgW.trans hg1, HE⟩
        · have cE1 := cE false ⟨fun h => (by cases h), fun h => absurd (Prod.ext h.1 h.2) he⟩
          have HE : Hid (q = false) := Lib.hid (by
            cases hc : q
            · rfl
            · exact absurd (HX.out (HQ.out.1 hc)) he)
          clear he HX HT1 HT2 cE hS hS2 hc0' hc1' hd0' hd1' hxA
          generalize (ByteArray.mk ps[k].1.toArray) = s1 at *
          generalize (ByteArray.mk qs[k].1.toArray) = s2 at *
          go_wp2_with (go_at_call 33; refine cE1.mono ?_; rintro e w1 ⟨rfl, hg1⟩)
          go_ret
          exact ⟨ret_bool HE.out.symm, hgW.trans hg1⟩
      · obtain rfl : k = n := by have := HG.out; omega
        have HE : Hid (q = true) := Lib.hid (HQ.out.2 (by
          have h := HT.out
          rwa [List.take_of_length_le (by rw [HL.out.1]; exact Nat.le_refl _), List.take_of_length_le (by rw [HL.out.2]; exact Nat.le_refl _)] at h))
        go_wp2
        go_ret
        exact ⟨ret_bool HE.out.symm, hg⟩
  · have HE : Hid (q = false) := Lib.hid (by
      cases hc : q
      · rfl
      · exact absurd (by rw [← hl, ← hl2, hq.1 hc]) hnn)
    have hne : ((n : Int) == (n2 : Int)) = false := by rw [beq_eq_false_iff_ne]; omega
    clear hl hl2 hq hnn
    go_enter Tryd.func32, Tryd.ntmps32
    go_wp2
    go_ret
    exact ⟨ret_bool HE.out.symm, Gr.refl _⟩
set_option maxHeartbeats 2000000 in
theorem equal_any (N V N2 V2 : ByteArray) (A A2 : Option Addr) (n c n2 c2 : Nat) (ps qs : List Ln.Par) (w : World) (hP : Pars w w.heap.size A n ps) (hQ : Pars w w.heap.size A2 n2 qs) (hn : n ≤ 140737488355328) (hv : ∀ p ∈ ps, p.2.length ≤ 140737488355328) (q : Bool) (hq : q = true ↔ (N.data.toList = N2.data.toList ∧ V.data.toList = V2.data.toList ∧ ps = qs)) :
    Calls Tryd.prog 19 #[.agg #[.string N, .slice A n c, .string V], .agg #[.string N2, .slice A2 n2 c2, .string V2]] w fun e w' => e = .returned (.bool q) ∧ Gr w w' := by
  have hg1 : Gr w ((w.alloc (.cells #[.string N, .slice A n c, .string V] 32)).alloc (.cells #[.string N2, .slice A2 n2 c2, .string V2] 32)) := ((Gr.refl w).allocO _).allocO _
  by_cases h1 : N.data.toList = N2.data.toList
  · have hs1 : (N.toList == N2.toList) = true := str_eq ⟨fun _ => h1, fun _ => rfl⟩
    by_cases h2 : V.data.toList = V2.data.toList
    · have hs2 : (V.toList == V2.toList) = true := str_eq ⟨fun _ => h2, fun _ => rfl⟩
      have cE := eqf_any A A2 n c n2 c2 ps qs _ (hP.gr hg1) (hQ.gr hg1) hn hv q (by rw [hq]; exact ⟨fun h => h.2.2, fun h => ⟨h1, h2, h⟩⟩)
      clear h1 h2 hq hP hQ
      go_enter Tryd.func19, Tryd.ntmps19
      go_wp2_with (go_at_call 32; refine cE.mono ?_; rintro e w1 ⟨rfl, hg2⟩)
      go_ret
      exact ⟨rfl, hg1.trans hg2⟩
    · have hs2 : (V.toList == V2.toList) = false := str_eq ⟨fun h => (by cases h), fun h => absurd h h2⟩
      have HE : Hid (q = false) := Lib.hid (by
        cases hc : q
        · rfl
        · exact absurd (hq.1 hc).2.1 h2)
      clear h1 h2 hq
      go_enter Tryd.func19, Tryd.ntmps19
      go_wp2
      go_ret
      exact ⟨ret_bool HE.out.symm, hg1⟩
  · have hs1 : (N.toList == N2.toList) = false := str_eq ⟨fun h => (by cases h), fun h => absurd h h1⟩
    have HE : Hid (q = false) := Lib.hid (by
      cases hc : q
      · rfl
      · exact absurd (hq.1 hc).1 h1)
    clear h1 hq
    go_enter Tryd.func19, Tryd.ntmps19
    go_wp2
    go_ret
    exact ⟨ret_bool HE.out.symm, hg1⟩
end Go.Proofs.YtpcmhaflmpcicaaDoor
