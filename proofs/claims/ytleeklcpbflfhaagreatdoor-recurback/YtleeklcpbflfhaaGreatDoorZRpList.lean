/- What recur.listText returns, of numbers and of weekdays (written by mkrplist.py). -/
import Derived.Test.YtleeklcpbflfhaaGreatDoorZRpTxt
import Derived.Deep.LoopGhost
import Derived.OwnWalk
namespace Go.Proofs.YtleeklcpbflfhaaGreatDoor
open Go.RowKit

theorem sc_at (ls : List (List UInt8)) (j : Nat) : (sc ls)[j]? = (ls[j]?).map fun l => Value.string ⟨l.toArray⟩ := by unfold sc; rw [List.getElem?_map]
/- strings.Join of texts that the call owns -/
theorem joinO_any (c : UInt8) (A : Option Addr) (n cap B : Nat) (ls : List (List UInt8)) (w : World) (h : OwnV w B 9 A n cap (sc ls)) (hn : n ≤ 1000000) (hlen : (Rm.joinB c ls).length ≤ 140737488355328) :
    Calls Tryz.prog 19 #[.slice A n cap, .string ⟨#[c]⟩] w fun e w' => e = .returned (.string ⟨(Rm.joinB c ls).toArray⟩) ∧ Gr w w' := by
  have hl : ls.length = n := by have := h.len; simpa [sc] using this
  rcases Nat.eq_zero_or_pos n with h0 | h0
  · subst h0
    obtain rfl : ls = [] := List.eq_nil_of_length_eq_zero hl
    refine (Tryz.strings_Join_none A cap ⟨#[c]⟩ w).mono ?_
    rintro e w' ⟨rfl, rfl⟩
    exact ⟨rfl, Gr.refl _⟩
  · obtain ⟨g, rfl, _, hlt, hc⟩ := h.cells h0
    have e1 : (ls.map fun l => (⟨l.toArray⟩ : ByteArray)).map (fun x => x.data.toList) = ls := by
      rw [List.map_map]
      exact (List.map_congr_left (fun l _ => rfl)).trans (List.map_id _)
    have hJ := Tryz.strings_Join g 0 cap (ls.map fun l => (⟨l.toArray⟩ : ByteArray)) ⟨#[c]⟩ w (fun j x hj => by
      rw [List.getElem?_map, Option.map_eq_some_iff] at hj
      obtain ⟨l, hl2, rfl⟩ := hj
      have := hc j (.string ⟨l.toArray⟩) (by rw [sc_at, hl2]; rfl)
      rw [show (⟨g, 0, none⟩ : Addr).add j = ⟨g, 0 + j, none⟩ by unfold Addr.add; split <;> simp_all] at this
      exact this) hlt (by simp; omega) (by simp; have := h.cap; omega) (by rw [e1]; show (Lib.join ls [c]).length ≤ _; rw [Rm.join_eq]; exact hlen)
    rw [e1, List.length_map, hl] at hJ
    refine hJ.mono ?_
    rintro e w' ⟨rfl, hb⟩
    refine ⟨?_, ⟨hb⟩⟩
    show Ending.returned (.string ⟨(Lib.join ls [c]).toArray⟩) = _
    rw [Rm.join_eq]
set_option maxHeartbeats 2000000 in
theorem ltI_any (A : Option Addr) (n c : Nat) (l : List Int) (w : World) (hP : Tab w) (hN : Nums w w.heap.size A n l) (hn : n ≤ 1000) (hb : ∀ x ∈ l, -9999 ≤ x ∧ x ≤ 9999) :
    Calls Tryz.prog 48 #[.slice A n c, .func (.func 49) #[] #[]] w fun e w' => e = .returned (.string ⟨(Rm.lt l).toArray⟩) ∧ Gr w w' := by
  have hl : l.length = n := hN.1
  have HL := Lib.hid hl
  have HB := Lib.hid hb
  have hJ : (Rm.joinB 44 (l.map Rm.nt)).length ≤ 140737488355328 := by
    have := Rm.joinB_len (c := 44) (k := 5) (l.map Rm.nt) (fun x hx => by
      obtain ⟨z, hz, rfl⟩ := List.mem_map.1 hx
      exact Rm.nt_len (hb z hz).1 (hb z hz).2)
    rw [List.length_map, hl] at this
    omega
  have HJ := Lib.hid hJ
  clear hl hb hJ
  go_enter Tryz.func48, Tryz.ntmps48
  go_wp2
  go_loopg [5, 10] n (fun g v5 v wx => ∃ k : Nat, ∃ A2 c2, v = .int .i64 (k : Int) ∧ v5 = .slice A2 k c2 ∧ k + g = n ∧ Gr w wx ∧ OwnV wx w.heap.size 9 A2 k c2 (sc ((l.take k).map Rm.nt)))
  case atStart => exact ⟨0, none, 0, rfl, rfl, by omega, Gr.refl _, by simpa [sc] using OwnV.nil w w.heap.size 9⟩
  case round =>
    obtain ⟨k, A2, c2, rfl, rfl, hkg, hg, hown⟩ := hrel
    have HG := Lib.hid hkg
    clear hkg
    by_cases hk : k < n
    · obtain ⟨ad, hk', rfl, hbl, hc0⟩ := hN.at_ hk
      have d0 := (hg.below.cell (p := ad.add k) (by rw [add_block]; exact hbl)).trans hc0
      have hx := HB.out l[k] (List.getElem_mem hk')
      have HT2 := Lib.hid (show (l.take (k + 1)).map Rm.nt = (l.take k).map Rm.nt ++ [Rm.nt l[k]] by rw [List.take_succ_eq_append_getElem hk', List.map_append]; rfl)
      have hP1 := hP.keep hg
      have cI := fun w1 (h : Gr wr w1) => itoaS_any l[k] w1 (hP1.keep h) hx.1 hx.2
      clear hc0 hN hx
      generalize Rm.nt l[k] = tx at *
      generalize l[k] = x at *
      have hkn : (k : Int) < (n : Int) := by omega
      go_wp2_with (first | (go_at_call 49; refine (cI _ (Gr.refl _)).mono ?_; rintro e w1 ⟨rfl, hg1⟩; have hown1 := hown.gr hg1; have hgw := hg.trans hg1) | (at_builtin; refine ap_lit w1 rfl (.tmp 14) (.tmp 18) 40 9 (.string ⟨#[]⟩) 16 Tryz.underlying40 info_str rfl (by omega) rfl w.heap.size A2 k c2 _ [.string ⟨tx.toArray⟩] rfl hown1 1 1 rfl rfl (by intro u hu; simp at hu; subst hu; rfl) (by omega) hgw.lt ?_; intro A5 c5 w5 hown5 hb5))
      go_roundg (n - (k + 1))
      case measure => have := HG.out; omega
      case rel =>
        refine ⟨k + 1, A5, c5, by go_num, rfl, by omega, ⟨hgw.below.trans hb5⟩, ?_⟩
        rw [HT2.out, sc_append]
        exact hown5
    · obtain rfl : k = n := by have := HG.out; omega
      rw [List.take_of_length_le (by rw [HL.out]; exact Nat.le_refl _)] at hown
      have cJ := joinO_any 44 A2 k c2 w.heap.size _ wr hown (by omega) HJ.out
      have HR := Lib.hid (show Rm.lt l = Rm.joinB 44 (l.map Rm.nt) from rfl)
      generalize Rm.joinB 44 (l.map Rm.nt) = J at *
      clear hown hN
      go_wp2_with (go_at_call 19; refine cJ.mono ?_; rintro e w1 ⟨rfl, hg1⟩)
      go_ret
      exact ⟨by rw [HR.out]; rfl, hg.trans hg1⟩
set_option maxHeartbeats 2000000 in
theorem ltD_any (A : Option Addr) (n c : Nat) (l : List (Int × Int)) (w : World) (hP : Tab w) (hT : TbR w) (hN : Days w w.heap.size A n l) (hn : n ≤ 1000) (hb : ∀ x ∈ l, Rm.mayD x = true) :
    Calls Tryz.prog 45 #[.slice A n c, .func (.func 46) #[] #[]] w fun e w' => e = .returned (.string ⟨(Rm.ldt l).toArray⟩) ∧ Gr w w' := by
  have hl : l.length = n := hN.1
  have HL := Lib.hid hl
  have HB := Lib.hid hb
  have hJ : (Rm.joinB 44 (l.map Rm.dt)).length ≤ 140737488355328 := by
    have := Rm.joinB_len (c := 44) (k := 7) (l.map Rm.dt) (fun x hx => by
      obtain ⟨z, hz, rfl⟩ := List.mem_map.1 hx
      exact Rm.dt_len (hb z hz))
    rw [List.length_map, hl] at this
    omega
  have HJ := Lib.hid hJ
  clear hl hb hJ
  go_enter Tryz.func45, Tryz.ntmps45
  go_wp2
  go_loopg [5, 10] n (fun g v5 v wx => ∃ k : Nat, ∃ A2 c2, v = .int .i64 (k : Int) ∧ v5 = .slice A2 k c2 ∧ k + g = n ∧ Gr w wx ∧ OwnV wx w.heap.size 9 A2 k c2 (sc ((l.take k).map Rm.dt)))
  case atStart => exact ⟨0, none, 0, rfl, rfl, by omega, Gr.refl _, by simpa [sc] using OwnV.nil w w.heap.size 9⟩
  case round =>
    obtain ⟨k, A2, c2, rfl, rfl, hkg, hg, hown⟩ := hrel
    have HG := Lib.hid hkg
    clear hkg
    by_cases hk : k < n
    · obtain ⟨ad, hk', rfl, hbl, hc0, hc1⟩ := hN.at_ hk
      have d0 := (hg.below.cell (p := ad.add (k * 2)) (by rw [add_block]; exact hbl)).trans hc0
      have d1 := (hg.below.cell (p := ⟨(ad.add (k * 2)).block, (ad.add (k * 2)).off + 1, none⟩) (by show (ad.add (k * 2)).block < _; rw [add_block]; exact hbl)).trans hc1
      have hx := HB.out l[k] (List.getElem_mem hk')
      have HT2 := Lib.hid (show (l.take (k + 1)).map Rm.dt = (l.take k).map Rm.dt ++ [Rm.dt l[k]] by rw [List.take_succ_eq_append_getElem hk', List.map_append]; rfl)
      have hP1 := hP.keep hg
      have hT1 := hT.gr hg
      have cI := fun w1 (h : Gr wr w1) => wdText_any l[k].1 l[k].2 w1 (hP1.keep h) (hT1.gr h) hx
      have hga : Gr wr (wr.alloc (.cells #[.int .i64 l[k].1, .int .i64 l[k].2] 49)) := (Gr.refl wr).allocO _
      dsimp only [dv1, dv2] at d0 d1
      have HE := Lib.hid (show ByteArray.mk (Rm.dt (l[k].1, l[k].2)).toArray = ByteArray.mk (Rm.dt l[k]).toArray from rfl)
      rw [HE.out] at cI
      clear hc0 hc1 hN hx HE
      generalize l[k].1 = x1 at *
      generalize l[k].2 = x2 at *
      generalize Rm.dt l[k] = tx at *
      have hga2 := hg.trans hga
      have hkn : (k : Int) < (n : Int) := by omega
      go_wp2_with (first | (go_at_call 46; refine (cI _ hga).mono ?_; rintro e w1 ⟨rfl, hg1⟩; have hown1 := (hown.gr hga).gr hg1; have hgw := hga2.trans hg1) | (at_builtin; refine ap_lit w1 rfl (.tmp 14) (.tmp 18) 40 9 (.string ⟨#[]⟩) 16 Tryz.underlying40 info_str rfl (by omega) rfl w.heap.size A2 k c2 _ [.string ⟨tx.toArray⟩] rfl hown1 1 1 rfl rfl (by intro u hu; simp at hu; subst hu; rfl) (by omega) hgw.lt ?_; intro A5 c5 w5 hown5 hb5))
      go_roundg (n - (k + 1))
      case measure => have := HG.out; omega
      case rel =>
        refine ⟨k + 1, A5, c5, by go_num, rfl, by omega, ⟨hgw.below.trans hb5⟩, ?_⟩
        rw [HT2.out, sc_append]
        exact hown5
    · obtain rfl : k = n := by have := HG.out; omega
      rw [List.take_of_length_le (by rw [HL.out]; exact Nat.le_refl _)] at hown
      have cJ := joinO_any 44 A2 k c2 w.heap.size _ wr hown (by omega) HJ.out
      have HR := Lib.hid (show Rm.ldt l = Rm.joinB 44 (l.map Rm.dt) from rfl)
      generalize Rm.joinB 44 (l.map Rm.dt) = J at *
      clear hown hN
      go_wp2_with (go_at_call 19; refine cJ.mono ?_; rintro e w1 ⟨rfl, hg1⟩)
      go_ret
      exact ⟨by rw [HR.out]; rfl, hg.trans hg1⟩
end Go.Proofs.YtleeklcpbflfhaaGreatDoor
