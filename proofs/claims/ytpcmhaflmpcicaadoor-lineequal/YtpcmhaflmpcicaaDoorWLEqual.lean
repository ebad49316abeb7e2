/- The walk of LineEqual. -/
import Derived.Test.YtpcmhaflmpcicaaDoorLnAw
import Derived.Test.YtpcmhaflmpcicaaDoorLnSame
import Derived.Test.YtpcmhaflmpcicaaDoorLnFew
import Derived.Test.YtpcmhaflmpcicaaDoorLnFind
import Derived.Test.YtpcmhaflmpcicaaDoorLnOurs
import Derived.Test.YtpcmhaflmpcicaaDoorLnTheirs
namespace Go.Proofs.YtpcmhaflmpcicaaDoor
open Go.RowKit

namespace Ln
theorem Fnd.at_ {ps : List Par} {nm : List UInt8} {x : ByteArray} {ok : Bool} (h : Fnd ps nm x ok) {k : Nat} (hk : k < ps.length) (he : ps[k].1 = nm) (hno : nm ∉ (ps.take k).map Prod.fst) :
    (ps[k].2.length = 0 ∧ x = ⟨#[]⟩ ∧ ok = false) ∨ ∃ h : 0 < ps[k].2.length, x = ⟨ps[k].2[0].toArray⟩ ∧ ok = true := by
  have key : ∀ i (hi : i < ps.length), ps[i].1 = nm → ∀ j, i < j → nm ∈ (ps.take j).map Prod.fst := fun i hi e j hij =>
    List.mem_map.2 ⟨ps[i], by rw [List.mem_take_iff_getElem]; exact ⟨i, by omega, rfl⟩, e⟩
  rcases h with ⟨h, _⟩ | ⟨i, hi, h1, h2, h3⟩
  · exact absurd (List.mem_map.2 ⟨ps[k], List.getElem_mem hk, he⟩) h
  · rcases Nat.lt_trichotomy i k with h | h | h
    · exact absurd (key i hi h1 k h) hno
    · subst h; exact h3
    · exact absurd (key k hk he i h) h2
theorem Fnd.none_ {ps : List Par} {nm : List UInt8} {x : ByteArray} {ok : Bool} (h : Fnd ps nm x ok) (hno : nm ∉ ps.map Prod.fst) : x = ⟨#[]⟩ ∧ ok = false := by
  rcases h with ⟨_, h⟩ | ⟨i, hi, h1, _⟩
  · exact h
  · exact absurd (List.mem_map.2 ⟨ps[i], List.getElem_mem hi, h1⟩) hno
end Ln
set_option maxHeartbeats 8000000 in
set_option maxRecDepth 100000 in
theorem lequal_any (N V N2 V2 name : ByteArray) (A A2 : Option Addr) (n c n2 c2 : Nat) (ps qs : List Ln.Par) (w : World) (ht : Tab w) (hN : N.size ≤ 140737488355328) (hV : V.size ≤ 140737488355328) (hP : Pars w w.heap.size A n ps) (hn : n * 40 ≤ 140737488355328)
    (hp1 : ∀ p ∈ ps, p.1.length ≤ 140737488355328) (hp2 : ∀ p ∈ ps, p.2.length * 16 ≤ 140737488355328) (hp3 : ∀ p ∈ ps, ∀ v ∈ p.2, v.length ≤ 140737488355328) (hN2 : N2.size ≤ 140737488355328) (hV2 : V2.size ≤ 140737488355328) (hQ : Pars w w.heap.size A2 n2 qs) (hn2 : n2 * 40 ≤ 140737488355328)
    (hq1 : ∀ p ∈ qs, p.1.length ≤ 140737488355328) (hq2 : ∀ p ∈ qs, p.2.length * 16 ≤ 140737488355328) (hq3 : ∀ p ∈ qs, ∀ v ∈ p.2, v.length ≤ 140737488355328) :
    Calls Tryd.prog 6 #[.agg #[.string N, .slice A n c, .string V], .agg #[.string N2, .slice A2 n2 c2, .string V2], .string name] w fun e w' => e = .returned (.bool true) ∧ Gr w w' := by
  have cA := fun w (t : Tab w) => awake10_any w t
  have hp2' : ∀ p ∈ ps, p.2.length ≤ 140737488355328 := fun p hp => by have := hp2 p hp; omega
  have hq2' : ∀ p ∈ qs, p.2.length ≤ 140737488355328 := fun p hp => by have := hq2 p hp; omega
  have cF := fun w (p : Pars w w.heap.size A n ps) => few10_any N V A n c ps w p hN hV (by omega) hp1 hp2' hp3
  have cF2 := fun w (p : Pars w w.heap.size A2 n2 qs) => few10_any N2 V2 A2 n2 c2 qs w p hN2 hV2 (by omega) hq1 hq2' hq3
  have cT := fun w (p : Pars w w.heap.size A n ps) => theirs_any N V A n c ps w p hn hp2
  have cT2 := fun w (p : Pars w w.heap.size A2 n2 qs) => theirs_any N2 V2 A2 n2 c2 qs w p hn2 hq2
  obtain ⟨q, hq⟩ : ∃ q : Bool, q = true ↔ (N.data.toList = N2.data.toList ∧ V.data.toList = V2.data.toList ∧ ps = qs) := by
    by_cases h : (N.data.toList = N2.data.toList ∧ V.data.toList = V2.data.toList ∧ ps = qs)
    · exact ⟨true, fun _ => h, fun _ => rfl⟩
    · exact ⟨false, fun e => (by cases e), fun e => absurd e h⟩
  have hn' : n ≤ 140737488355328 := by omega
  have cE := fun w B b C d (p : Pars w w.heap.size B n ps) (r : Pars w w.heap.size C n2 qs) => equal_any N V N2 V2 B C n b n2 d ps qs w p r hn' hp2' q hq
  have cR := fun w B b C d (p : Pars w w.heap.size B n ps) (r : Pars w w.heap.size C n ps) => equal_any N V N V B C n b n d ps ps w p r hn' hp2' true ⟨fun _ => ⟨rfl, rfl, rfl⟩, fun _ => rfl⟩
  have cS := fun w (p : Pars w w.heap.size A n ps) (r : Pars w w.heap.size A2 n2 qs) => same10_any N V N2 V2 A A2 n c n2 c2 ps qs w p r hn' hp2' q hq
  have cD := fun w B b (p : Pars w w.heap.size B n ps) => find_any N V name B n b ps w p hn' hp3 hp2'
  have hqq : (q != q) = false := by cases q <;> rfl
  clear hq
  have hg0 : Gr w ((w.alloc (.cells #[.string N, .slice A n c, .string V] 24)).alloc (.cells #[.string N2, .slice A2 n2 c2, .string V2] 24)) := ((Gr.refl w).allocO _).allocO _
  have hx0 := (Bx3.new w (.string N) (.slice A n c) (.string V) 24).gr ((Gr.refl _).allocO (.cells #[.string N2, .slice A2 n2 c2, .string V2] 24))
  have hy0 := Bx3.new (w.alloc (.cells #[.string N, .slice A n c, .string V] 24)) (.string N2) (.slice A2 n2 c2) (.string V2) 24
  have z1 : (w.alloc (.cells #[.string N, .slice A n c, .string V] 24)).heap.size = w.heap.size + 1 := by simp
  rw [z1] at hy0
  clear z1
  go_enter Tryd.func6, Tryd.ntmps6
  go_wp2_with fail
  refine (cA _ (ht.keep hg0)).mono ?_
  rintro e w1 ⟨rfl, hg01⟩
  have hg1 := hg0.trans hg01
  have hx1 := hx0.gr hg01
  have hy1 := hy0.gr hg01
  have HX1 := Lib.hid hx1
  have HY1 := Lib.hid hy1
  obtain ⟨x10, x11, x12, _, _, _⟩ := hx1
  obtain ⟨y10, y11, y12, _, _, _⟩ := hy1
  go_wp2_with fail
  refine (cF _ (hP.gr hg1)).mono ?_
  rintro e w2 ⟨b, rfl, hg2, _⟩
  have hg12 := hg1.trans hg2
  have hx2 := HX1.out.gr hg2
  have hy2 := HY1.out.gr hg2
  have HX2 := Lib.hid hx2
  have HY2 := Lib.hid hy2
  obtain ⟨x20, x21, x22, _, _, _⟩ := hx2
  obtain ⟨y20, y21, y22, _, _, _⟩ := hy2
  cases b
  · go_wp2_with fail
    refine (cA _ (ht.keep hg12)).mono ?_
    rintro e w3 ⟨rfl, hg3⟩
    go_wp2
    go_ret
    exact ⟨rfl, hg12.trans hg3⟩
  · go_wp2_with fail
    refine (cF2 _ (hQ.gr hg12)).mono ?_
    rintro e w3 ⟨b, rfl, hg3, _⟩
    have hg13 := hg12.trans hg3
    have hx3 := HX2.out.gr hg3
    have hy3 := HY2.out.gr hg3
    clear HX1 HX2 HY1 HY2 x10 x11 x12 y10 y11 y12 x20 x21 x22 y20 y21 y22
    cases b
    · go_wp2_with fail
      refine (cA _ (ht.keep hg13)).mono ?_
      rintro e w4 ⟨rfl, hg4⟩
      go_wp2
      go_ret
      exact ⟨rfl, hg13.trans hg4⟩
    · have hP3 := hP.gr hg13
      have hQ3 := hQ.gr hg13
      have HX3 := Lib.hid hx3
      have HY3 := Lib.hid hy3
      obtain ⟨x0, x1, x2, _, _, _⟩ := hx3
      obtain ⟨y0, y1, y2, _, _, _⟩ := hy3
      go_wp2_with fail
      go_region_held3 (fun w' => w'.cell? ⟨w.heap.size, 0, none⟩ = some (.string N) ∧ w'.cell? ⟨w.heap.size, 1, none⟩ = some (.slice A n c) ∧ w'.cell? ⟨w.heap.size, 2, none⟩ = some (.string V) ∧ w'.cell? ⟨w.heap.size + 1, 0, none⟩ = some (.string N2) ∧ w'.cell? ⟨w.heap.size + 1, 1, none⟩ = some (.slice A2 n2 c2) ∧ w'.cell? ⟨w.heap.size + 1, 2, none⟩ = some (.string V2))
        (first
          | exact ⟨gr_cell kg7 x0, gr_cell kg7 x1, gr_cell kg7 x2, gr_cell kg7 y0, gr_cell kg7 y1, gr_cell kg7 y2⟩
          | exact ⟨gr_cell kg6 x0, gr_cell kg6 x1, gr_cell kg6 x2, gr_cell kg6 y0, gr_cell kg6 y1, gr_cell kg6 y2⟩
          | exact ⟨gr_cell kg5 x0, gr_cell kg5 x1, gr_cell kg5 x2, gr_cell kg5 y0, gr_cell kg5 y1, gr_cell kg5 y2⟩
          | exact ⟨gr_cell kg4 x0, gr_cell kg4 x1, gr_cell kg4 x2, gr_cell kg4 y0, gr_cell kg4 y1, gr_cell kg4 y2⟩
          | exact ⟨gr_cell kg3 x0, gr_cell kg3 x1, gr_cell kg3 x2, gr_cell kg3 y0, gr_cell kg3 y1, gr_cell kg3 y2⟩
          | exact ⟨gr_cell kg2 x0, gr_cell kg2 x1, gr_cell kg2 x2, gr_cell kg2 y0, gr_cell kg2 y1, gr_cell kg2 y2⟩
          | exact ⟨gr_cell kg1 x0, gr_cell kg1 x1, gr_cell kg1 x2, gr_cell kg1 y0, gr_cell kg1 y1, gr_cell kg1 y2⟩
          | exact ⟨x0, x1, x2, y0, y1, y2⟩)
        (first
          | (go_at_call 19; have _t := kg6; refine (cR _ B5 b5 B6 b6 (by exact j5.gr g6) (by exact j6)).mono ?_; rintro e v7 ⟨rfl, g7⟩; have kg7 := kg6.trans g7)
          | (go_at_call 10; have _t := kg5; refine (cT _ (by exact hP3.gr kg5)).mono ?_; rintro e v6 ⟨B6, b6, rfl, j6, _, g6⟩; have kg6 := kg5.trans g6)
          | (go_at_call 10; have _t := kg4; refine (cT _ (by exact hP3.gr kg4)).mono ?_; rintro e v5 ⟨B5, b5, rfl, j5, _, g5⟩; have kg5 := kg4.trans g5)
          | (go_at_call 17; have _t := kg3; refine (cS _ (by exact hP3.gr kg3) (by exact hQ3.gr kg3)).mono ?_; rintro e v4 ⟨rfl, g4⟩; have kg4 := kg3.trans g4)
          | (go_at_call 19; have _t := kg2; refine (cE _ B1 b1 B2 b2 (by exact j1.gr g2) (by exact j2)).mono ?_; rintro e v3 ⟨rfl, g3⟩; have kg3 := kg2.trans g3)
          | (go_at_call 10; have _t := kg1; refine (cT2 _ (by exact hQ3.gr kg1)).mono ?_; rintro e v2 ⟨B2, b2, rfl, j2, _, g2⟩; have kg2 := kg1.trans g2)
          | (go_at_call 10; refine (cT _ (by exact hP3.gr (Gr.refl w3).drew)).mono ?_; rintro e v1 ⟨B1, b1, rfl, j1, _, g1⟩; have kg1 := (Gr.refl w3).drew.trans g1))
      have hx7 := HX3.out.gr kg7
      have hP7 := hP3.gr kg7
      have hg17 := hg13.trans kg7
      clear x0 x1 x2 y0 y1 y2 j1 j2 j5 j6 kg1 kg2 kg3 kg4 kg5 kg6 g1 g2 g3 g4 g5 g6 g7
      have HX7 := Lib.hid hx7
      obtain ⟨x0, x1, x2, _, _, _⟩ := hx7
      go_wp2_with fail
      refine (cT _ hP7).mono ?_
      rintro e w8 ⟨B8, b8, rfl, j8, _, g8⟩
      go_wp2_with fail
      refine (cD _ B8 b8 j8).mono ?_
      rintro e w9 ⟨x, ok, rfl, HF, g9⟩
      have hg19 := (hg17.trans g8).trans g9
      have hx9 := (HX7.out.gr g8).gr g9
      clear HX7 x0 x1 x2
      obtain ⟨x0, x1, x2, _, _, _⟩ := hx9
      have HL := Lib.hid hP.1
      have hP9 := hP.gr hg19
      go_wp2
      go_loopg [51] n (fun g v wx => ∃ k : Nat, v = .int .i64 (k : Int) ∧ k + g = n ∧ (∃ d, wx = w9.drewN d) ∧ Hid (name.data.toList ∉ (ps.take k).map Prod.fst))
      case atStart => exact ⟨0, rfl, by omega, ⟨0, rfl⟩, Lib.hid (by simp)⟩
      case round =>
        obtain ⟨k, rfl, hkg, ⟨d, rfl⟩, HNo⟩ := hrel
        have HG := Lib.hid hkg
        clear hkg
        by_cases hk : k < n
        · obtain ⟨ad, hk', rfl, hbl, hc0, A', n', c', hc1, hS⟩ := hP9.at_ hk
          have HT1 := Lib.hid (List.take_succ_eq_append_getElem hk')
          by_cases he : ps[k].1 = name.data.toList
          · have hs1 : ((ByteArray.mk ps[k].1.toArray).toList == name.toList) = true := str_eq ⟨fun _ => he, fun _ => rfl⟩
            have hvl := hS.1
            have hnv : n' ≤ 140737488355328 := by have := hp2' _ (List.getElem_mem hk'); omega
            rcases HF.out.at_ hk' he HNo.out with ⟨h0, rfl, rfl⟩ | ⟨h0, rfl, rfl⟩
            · obtain rfl : n' = 0 := by omega
              clear HF h0 hvl he
              generalize (ByteArray.mk ps[k].1.toArray) = nb at *
              go_wp2
              go_ret
              exact ⟨rfl, hg19.trans ((Gr.refl _).drewN _)⟩
            · have hn0 : 0 < n' := by omega
              obtain ⟨av, hi', rfl, hbv, hcv⟩ := hS.at_ hn0
              have hcv0 : w9.cell? av = some (.string ⟨ps[k].2[0].toArray⟩) := hcv
              have hs2 : ((ByteArray.mk ps[k].2[0].toArray).toList == (ByteArray.mk ps[k].2[0].toArray).toList) = true := str_eq ⟨fun _ => rfl, fun _ => rfl⟩
              have hni : (0 : Int) < (n' : Int) := by omega
              clear HF hvl he
              generalize (ByteArray.mk ps[k].1.toArray) = nb at *
              generalize (ByteArray.mk ps[k].2[0].toArray) = sv at *
              go_wp2
              go_ret
              exact ⟨rfl, hg19.trans ((Gr.refl _).drewN _)⟩
          · have hs1 : ((ByteArray.mk ps[k].1.toArray).toList == name.toList) = false := str_eq ⟨fun h => (by cases h), fun h => absurd h he⟩
            have HE : Hid (name.data.toList ∉ (ps.take (k + 1)).map Prod.fst) := Lib.hid (by
              rw [HT1.out, List.map_append, List.mem_append, List.map_cons, List.map_nil, List.mem_singleton]
              exact fun h => h.elim HNo.out (fun e => he e.symm))
            clear he
            generalize (ByteArray.mk ps[k].1.toArray) = nb at *
            go_wp2
            go_roundg (n - (k + 1))
            case measure => have := HG.out; omega
            case rel => exact ⟨k + 1, by go_num, by omega, ⟨_, rfl⟩, HE⟩
        · obtain rfl : k = n := by have := HG.out; omega
          have hall : ps.take k = ps := List.take_of_length_le (by rw [HL.out]; exact Nat.le_refl _)
          have hno := HNo.out
          rw [hall] at hno
          obtain ⟨rfl, rfl⟩ := HF.out.none_ hno
          clear hall hno
          go_wp2
          go_ret
          exact ⟨rfl, hg19.trans ((Gr.refl _).drewN _)⟩
end Go.Proofs.YtpcmhaflmpcicaaDoor
