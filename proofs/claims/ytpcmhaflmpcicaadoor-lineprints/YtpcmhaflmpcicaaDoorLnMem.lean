/- Lists of parameters in memory. -/
import Derived.Test.YtpcmhaflmpcicaaDoorLnLeaf
import Derived.Test.YtpcmhaflmpcicaaDoorFdMem
import Derived.BigQuiet
import Derived.Deep.AppendLies
import Derived.Maps.AppendAt
namespace Go.Proofs.YtpcmhaflmpcicaaDoor
open Go.RowKit

/- a list of parameters that is read -/
def Pars (w : World) (B : Nat) (A : Option Addr) (n : Nat) (ps : List Ln.Par) : Prop :=
  ps.length = n ∧ (0 < n → ∃ ad : Addr, A = some ad ∧ ad.block < B ∧ ∀ j p, ps[j]? = some p → w.cell? (ad.add (j * 2)) = some (.string ⟨p.1.toArray⟩) ∧ ∃ A' n' c', w.cell? ⟨(ad.add (j * 2)).block, (ad.add (j * 2)).off + 1, none⟩ = some (.slice A' n' c') ∧ Strs w B A' n' p.2)
theorem Pars.at_ {w : World} {B : Nat} {A : Option Addr} {n : Nat} {ps : List Ln.Par} (h : Pars w B A n ps) {k : Nat} (hk : k < n) :
    ∃ ad : Addr, ∃ hk' : k < ps.length, A = some ad ∧ ad.block < B ∧ w.cell? (ad.add (k * 2)) = some (.string ⟨ps[k].1.toArray⟩) ∧ ∃ A' n' c', w.cell? ⟨(ad.add (k * 2)).block, (ad.add (k * 2)).off + 1, none⟩ = some (.slice A' n' c') ∧ Strs w B A' n' ps[k].2 := by
  obtain ⟨ad, e, hb, hc⟩ := h.2 (by omega)
  have hl : k < ps.length := by rw [h.1]; exact hk
  exact ⟨ad, hl, e, hb, hc k _ (List.getElem?_eq_getElem hl)⟩
theorem Pars.keep {w w' : World} {B : Nat} {A : Option Addr} {n : Nat} {ps : List Ln.Par} (h : Pars w B A n ps) (hb : Below B w w') : Pars w' B A n ps :=
  ⟨h.1, fun hn => by
    obtain ⟨ad, e, hbl, hc⟩ := h.2 hn
    refine ⟨ad, e, hbl, fun j p hp => ?_⟩
    obtain ⟨h1, A', n', c', h2, h3⟩ := hc j p hp
    exact ⟨(hb.cell (by rw [add_block]; exact hbl)).trans h1, A', n', c', (hb.cell (by show (ad.add (j * 2)).block < B; rw [add_block]; exact hbl)).trans h2, h3.keep hb⟩⟩
theorem Pars.more {w : World} {B B' : Nat} {A : Option Addr} {n : Nat} {ps : List Ln.Par} (h : Pars w B A n ps) (hB : B ≤ B') : Pars w B' A n ps :=
  ⟨h.1, fun hn => by
    obtain ⟨ad, e, hbl, hc⟩ := h.2 hn
    refine ⟨ad, e, by omega, fun j p hp => ?_⟩
    obtain ⟨h1, A', n', c', h2, h3⟩ := hc j p hp
    exact ⟨h1, A', n', c', h2, h3.more hB⟩⟩
theorem Pars.gr {w w' : World} {A : Option Addr} {n : Nat} {ps : List Ln.Par} (h : Pars w w.heap.size A n ps) (hg : Gr w w') : Pars w' w'.heap.size A n ps := (h.keep hg.below).more hg.lt
theorem Pars.cut {w : World} {B : Nat} {A : Option Addr} {n : Nat} {ps : List Ln.Par} (h : Pars w B A n ps) (k : Nat) (hk : k ≤ n) : Pars w B A k (ps.take k) :=
  ⟨by rw [List.length_take, h.1]; omega, fun hn => by
    obtain ⟨ad, e, hbl, hc⟩ := h.2 (by omega)
    refine ⟨ad, e, hbl, fun j p hp => hc j p ?_⟩
    rw [List.getElem?_take] at hp
    split at hp
    · exact hp
    · cases hp⟩
theorem str_eq {a b : ByteArray} {q : Bool} (h : q = true ↔ a.data.toList = b.data.toList) : (a.toList == b.toList) = q := by
  rw [Lib.toList_data, Lib.toList_data, Bool.eq_iff_iff, h, beq_iff_eq]
set_option maxHeartbeats 1000000 in
theorem idx1_any (bn : Nat) (name a : ByteArray) (V : Value) (w : World) (hN : w.cell? ⟨bn, 0, none⟩ = some (.string name)) (q : Bool) (hq : q = true ↔ a.data.toList = name.data.toList) :
    Calls Tryd.prog 38 #[.agg #[.string a, V], .pointer (some ⟨bn, 0, none⟩)] w fun e w' => e = .returned (.bool q) ∧ Gr w w' := by
  have HQ := Lib.hid hq
  clear hq
  have hbl := World.block_lt_of_cell? _ _ hN
  go_enter Tryd.func38, Tryd.ntmps38
  go_wp2
  go_ret
  exact ⟨ret_bool (str_eq HQ.out), (Gr.refl _).allocO _⟩
namespace Ln
/- at which place a name is, or -1 -/
def Ixp (ps : List Par) (nm : List UInt8) (v : Int) : Prop := (v = -1 ∧ nm ∉ ps.map Prod.fst) ∨ ∃ i, ∃ h : i < ps.length, v = (i : Int) ∧ ps[i].1 = nm ∧ nm ∉ (ps.take i).map Prod.fst
theorem Ixp.neg {ps : List Par} {nm : List UInt8} {v : Int} (h : Ixp ps nm v) : decide (0 ≤ v) = (ps.map Prod.fst).contains nm := by
  rcases h with ⟨rfl, h⟩ | ⟨i, hi, rfl, h, _⟩
  · simpa using h
  · have : nm ∈ ps.map Prod.fst := List.mem_map.2 ⟨ps[i], List.getElem_mem hi, h⟩
    rw [show (ps.map Prod.fst).contains nm = true by simpa using this]
    simp
end Ln
set_option maxHeartbeats 1000000 in
theorem idxf_any (bn : Nat) (name : ByteArray) (A : Option Addr) (n c : Nat) (ps : List Ln.Par) (w : World) (hN : w.cell? ⟨bn, 0, none⟩ = some (.string name)) (hP : Pars w w.heap.size A n ps) (hn : n ≤ 140737488355328) :
    Calls Tryd.prog 37 #[.slice A n c, .func (.func 38) #[] #[.pointer (some ⟨bn, 0, none⟩)]] w fun e w' => ∃ v : Int, e = .returned (.int .i64 v) ∧ Ln.Ixp ps name.data.toList v ∧ Gr w w' := by
  have HL := Lib.hid hP.1
  have hbn := World.block_lt_of_cell? _ _ hN
  go_enter Tryd.func37, Tryd.ntmps37
  go_wp2
  go_loopg [8] n (fun g v wx => ∃ k : Nat, v = .int .i64 (k : Int) ∧ k + g = n ∧ Gr w wx ∧ Hid (name.data.toList ∉ (ps.take k).map Prod.fst))
  case atStart => exact ⟨0, rfl, by omega, Gr.refl _, Lib.hid (by simp)⟩
  case round =>
    obtain ⟨k, rfl, hkg, hg, HN⟩ := hrel
    have HG := Lib.hid hkg
    clear hkg
    by_cases hk : k < n
    · obtain ⟨ad, hk', rfl, hbl, hc0, A', n', c', hc1, hS⟩ := hP.at_ hk
      have d0 := (hg.below.cell (p := ad.add (k * 2)) (by rw [add_block]; exact hbl)).trans hc0
      have d1 := (hg.below.cell (p := ⟨(ad.add (k * 2)).block, (ad.add (k * 2)).off + 1, none⟩) (by show (ad.add (k * 2)).block < _; rw [add_block]; exact hbl)).trans hc1
      have c1 := idx1_any bn name ⟨ps[k].1.toArray⟩ (.slice A' n' c') wr ((hg.below.cell hbn).trans hN)
      have HK := Lib.hid hk'
      have HT := Lib.hid (List.take_succ_eq_append_getElem hk')
      by_cases hq : ps[k].1 = name.data.toList
      · have c1 := c1 true ⟨fun _ => hq, fun _ => rfl⟩
        have HQ := Lib.hid hq
        clear hq hc0 hc1 hS hP
        generalize (ByteArray.mk ps[k].1.toArray) = a at *
        go_wp2_with (go_at_call 38; refine c1.mono ?_; rintro e w' ⟨rfl, hg2⟩)
        go_ret
        exact ⟨_, rfl, .inr ⟨k, HK.out, rfl, HQ.out, HN.out⟩, hg.trans hg2⟩
      · have c1 := c1 false ⟨fun h => (by cases h), fun h => absurd h hq⟩
        have HQ := Lib.hid hq
        clear hq hc0 hc1 hS hP
        generalize (ByteArray.mk ps[k].1.toArray) = a at *
        go_wp2_with (go_at_call 38; refine c1.mono ?_; rintro e w' ⟨rfl, hg2⟩)
        go_roundg (n - (k + 1))
        case measure => have := HG.out; omega
        case rel =>
          refine ⟨k + 1, by go_num, by omega, hg.trans hg2, Lib.hid ?_⟩
          rw [HT.out, List.map_append, List.mem_append]
          rintro (h | h)
          · exact HN.out h
          · have h2 : name.data.toList = ps[k].1 := List.mem_singleton.1 h
            exact HQ.out h2.symm
    · obtain rfl : k = n := by have := HG.out; omega
      have HA : Hid (name.data.toList ∉ ps.map Prod.fst) := Lib.hid (by
        have := HN.out
        rwa [List.take_of_length_le (by rw [HL.out]; exact Nat.le_refl _)] at this)
      go_wp2
      go_ret
      exact ⟨_, rfl, .inl ⟨rfl, HA.out⟩, hg⟩
set_option maxHeartbeats 1000000 in
theorem index_any (name : ByteArray) (A : Option Addr) (n c : Nat) (ps : List Ln.Par) (w : World) (hP : Pars w w.heap.size A n ps) (hn : n ≤ 140737488355328) :
    Calls Tryd.prog 25 #[.slice A n c, .string name] w fun e w' => ∃ v : Int, e = .returned (.int .i64 v) ∧ Ln.Ixp ps name.data.toList v ∧ Gr w w' := by
  have hg : Gr w (w.alloc (.cells #[.string name] 9)) := (Gr.refl w).allocO _
  have hP2 := hP.gr hg
  have cF := fun bn hN => idxf_any bn name A n c ps _ hN hP2 hn
  go_enter Tryd.func25, Tryd.ntmps25
  go_wp2_with (go_at_call 37; refine (cF w.heap.size (by simp)).mono ?_; rintro e w' ⟨v, rfl, hv, hg2⟩)
  go_ret
  exact ⟨v, rfl, hv, hg.trans hg2⟩
end Go.Proofs.YtpcmhaflmpcicaaDoor
