/- What a reader's line returns. -/
import Derived.Test.YtpcmhaflmpcicaaDoorLnFv
namespace Go.Proofs.YtpcmhaflmpcicaaDoor
open Go.RowKit

namespace Ln
open _root_.Go.Proofs.YtpcmhaflmpcicaaDoor.Es
/- a line that is read, whatever its length -/
def rlB (N : List UInt8) (V : Option (List Par × List UInt8)) : Option Li :=
  match V with
  | none => none
  | some x => if x.2.head? ≠ some 58 then none else if clE false x.2.tail ≠ 0 then none else some ⟨N, x.1, x.2.tail⟩
def rl (s : List UInt8) : Option Li := if (nm 60 s).1 = [] then none else rlB (nm 60 s).1 (ps (nm 60 s).2 [])
theorem rp_rl (s : List UInt8) : rp s = if 2000 < s.length then none else if Lib.validD s = false then none else rl s := rfl
theorem rl_noname {s : List UInt8} (h : (nm 60 s).1 = []) : rl s = none := by unfold rl; rw [if_pos h]
theorem rl_name {s : List UInt8} (h : (nm 60 s).1 ≠ []) : rl s = rlB (nm 60 s).1 (ps (nm 60 s).2 []) := by unfold rl; rw [if_neg h]
theorem rlB_none (N : List UInt8) : rlB N none = none := rfl
theorem rlB_colon {N : List UInt8} {x : List Par × List UInt8} (h : x.2.head? ≠ some 58) : rlB N (some x) = none := by simp only [rlB]; rw [if_pos h]
theorem rlB_bad {N : List UInt8} {x : List Par × List UInt8} (h : clE false x.2.tail ≠ 0) : rlB N (some x) = none := by
  simp only [rlB]; split
  · rfl
  · rfl
theorem rlB_ok {N : List UInt8} {x : List Par × List UInt8} (h1 : x.2.head? = some 58) (h2 : clE false x.2.tail = 0) : rlB N (some x) = some ⟨N, x.1, x.2.tail⟩ := by
  simp only [rlB]; rw [if_neg (by simp [h1]), if_neg (by simp [h2])]
end Ln
/- what line leaves behind: a line, or an error -/
def LiPost (b : Nat) (s : ByteArray) (L : List UInt8) (w : World) (e : Ending) (w' : World) : Prop :=
  (∃ l A n c j, Ln.rl L = some l ∧ e = .returned (.tuple #[.agg #[.string ⟨l.name.toArray⟩, .slice A n c, .string ⟨l.value.toArray⟩], .int .i64 0]) ∧ Mv b w w' ∧ RB w' b s j ∧ PRow w' (w.heap.size + 1) (fun x => w.heap.size + 1 ≤ x) 49 A n c l.ps) ∨
  (Ln.rl L = none ∧ ∃ E j, e = .returned (.tuple #[.agg #[.string ⟨#[]⟩, .slice none 0 0, .string ⟨#[]⟩], .int .i64 E]) ∧ (E != 0) = true ∧ Mv b w w' ∧ RB w' b s j)
theorem li_err {b : Nat} {s : ByteArray} {L : List UInt8} {w w' : World} (h : Ln.rl L = none) (E : Int) (hE : (E != 0) = true) (hm : Mv b w w') {j : Nat} (hr : RB w' b s j) :
    LiPost b s L w (.returned (.tuple #[.agg #[.string ⟨#[]⟩, .slice none 0 0, .string ⟨#[]⟩], .int .i64 E])) w' := .inr ⟨h, E, j, rfl, hE, hm, hr⟩
theorem PRow.mv {w w' : World} {b B : Nat} {e : TypeId} {A : Option Addr} {n c : Nat} {ps : List Ln.Par} (h : PRow w B (fun x => B ≤ x) e A n c ps) (hg : Mv b w w') (hb : b < B) : PRow w' B (fun x => B ≤ x) e A n c ps :=
  h.kept hg (fun k hk => by injection hk with hk; subst hk; exact ⟨hb, fun x hx => by omega⟩)
set_option maxHeartbeats 4000000 in
set_option maxRecDepth 100000 in
theorem line_noname (b : Nat) (s : ByteArray) (w : World) (h : RB w b s 0) (hs : s.size ≤ 400000) (hx : (Ln.nm 60 s.data.toList).1 = []) :
    Calls Tryd.prog 30 #[.pointer (some ⟨b, 0, none⟩)] w (LiPost b s s.data.toList w) := by
  have HNo := Lib.hid (Ln.rl_noname hx)
  have hbl := h.lt
  have hg0 : Gr w (w.alloc (.cells #[.string ⟨#[]⟩, .slice none 0 0, .string ⟨#[]⟩] 32)) := (Gr.refl w).allocO _
  have cN := name_no b s 0 _ (h.keep hg0) (by omega) hs hx
  have hx2 := Bx3.new w (.string ⟨#[]⟩) (.slice none 0 0) (.string ⟨#[]⟩) 32
  rw [List.drop_zero] at cN
  clear hx
  generalize Ln.nm 60 s.data.toList = N at *
  go_enter Tryd.func30, Tryd.ntmps30
  go_wp2_with fail
  refine cN.mono ?_
  rintro e w1 ⟨rfl, hm1, j, hr1, hij, hj, hd⟩
  have hx1 := hx2.mv hm1 (by omega)
  have hm2 := (hg0.mv b).trans hm1
  clear hx2
  have HX := Lib.hid hx1
  obtain ⟨x0, x1, x2, f0, f1, f2⟩ := hx1
  go_wp2
  obtain ⟨y0, y1, y2⟩ := HX.out.set3 (.string ⟨#[]⟩) (.slice none 0 0) (.string ⟨#[]⟩)
  have hbw := below_set3 (w := w1) (Nat.le_refl w.heap.size) (.string ⟨#[]⟩) (.slice none 0 0) (.string ⟨#[]⟩)
  generalize World.setCell (World.setCell (World.setCell _ _ _) _ _) _ _ = W at *
  exact bodyPost_ret (v := .tuple #[.agg #[.string ⟨#[]⟩, .slice none 0 0, .string ⟨#[]⟩], .int .i64 5]) (by simp [results, Tryd.results30, go_sem, y0, y1, y2]) rfl (li_err HNo.out 5 rfl (hm2.below hbw) (hr1.below hbw hbl))
set_option maxHeartbeats 8000000 in
set_option maxRecDepth 100000 in
theorem line_yes (b : Nat) (s : ByteArray) (w : World) (h : RB w b s 0) (ht : Tab w) (hbh : Hi b) (hs : s.size ≤ 400000) (hx : (Ln.nm 60 s.data.toList).1 ≠ []) :
    Calls Tryd.prog 30 #[.pointer (some ⟨b, 0, none⟩)] w (LiPost b s s.data.toList w) := by
  have HR := Lib.hid (Ln.rl_name hx)
  have hbl := h.lt
  have hgl := ht.lt
  have hg0 : Gr w (w.alloc (.cells #[.string ⟨#[]⟩, .slice none 0 0, .string ⟨#[]⟩] 32)) := (Gr.refl w).allocO _
  have cN := name_yes b s 0 _ (h.keep hg0) (by omega) hs hx
  have hx2 := Bx3.new w (.string ⟨#[]⟩) (.slice none 0 0) (.string ⟨#[]⟩) 32
  rw [List.drop_zero] at cN
  clear hx
  generalize Ln.nm 60 s.data.toList = N at *
  go_enter Tryd.func30, Tryd.ntmps30
  go_wp2_with fail
  refine cN.mono ?_
  rintro e w1 ⟨rfl, hm1, j, hr1, hij, hj, hd⟩
  have hx1 := hx2.mv hm1 (by omega)
  have hm2 := (hg0.mv b).trans hm1
  have ht1 := ht.mv hm2 hbh
  have hsz1 : w.heap.size + 1 ≤ w1.heap.size := hx1.lt
  obtain ⟨V, hV⟩ : ∃ V, Ln.ps N.2 [] = V := ⟨_, rfl⟩
  rw [hV] at HR
  have HV0 : Hid (Ln.ps (s.data.toList.drop j) [] = V) := Lib.hid (by rw [hd]; exact hV)
  clear hx2 cN hm1 hg0 hd hV h ht
  go_wp2
  go_loopg [6] (s.size + 1 - j) (fun g v6 wx => ∃ A n c acc, ∃ k : Nat, v6 = .slice A n c ∧ n ≤ 60 ∧ k ≤ s.size ∧ k + g = s.size + 1 ∧ PRow wx (w.heap.size + 1) (fun x => w.heap.size + 1 ≤ x) 49 A n c acc ∧ Mv b w wx ∧ w.heap.size + 1 ≤ wx.heap.size ∧ RB wx b s k ∧ Bx3 wx w.heap.size (.string ⟨#[]⟩) (.slice none 0 0) (.string ⟨#[]⟩) ∧ Tab wx ∧ Hid (acc.length = n ∧ Ln.ps (s.data.toList.drop k) acc = V))
  case atStart => exact ⟨_, _, _, [], j, rfl, by omega, by omega, by omega, PRow.nil _ _ _ _, hm2, hsz1, hr1, hx1, ht1, Lib.hid ⟨rfl, HV0.out⟩⟩
  case round =>
    obtain ⟨A, n, c, acc, k, rfl, hn, hk, hkg, hrow, hmv, hsz, hrb, hbx, htx, HA⟩ := hrel
    have HG := Lib.hid hkg
    clear hkg hm2 hsz1 hr1 hx1 ht1 HV0
    by_cases h59 : (s.data.toList.drop k).head? = some 59
    · have hkl := hd_lt h59
      have cT := take_t b s k 59 59 rfl wr hrb hs h59
      have etl : (s.data.toList.drop k).tail = s.data.toList.drop (k + 1) := by rw [List.tail_drop]
      have HNp : Hid (Ln.pa (s.data.toList.drop (k + 1)) (acc.map Prod.fst) = none → Ln.rl s.data.toList = none) := Lib.hid (fun e => by
        rw [HR.out, ← HA.out.2, Ln.ps_none h59 (by rw [etl]; exact e)]; rfl)
      have HYp : Hid (∀ p rest, Ln.pa (s.data.toList.drop (k + 1)) (acc.map Prod.fst) = some (p, rest) → n < 60 ∧ rest.length ≤ s.size - (k + 1) ∧ Ln.ps rest (acc ++ [p]) = V) := Lib.hid (fun p rest e => by
        have g := Ln.pa_good e
        have g2 := Ln.pa_short e
        rw [List.length_drop, ← Lib.size_eq] at g2
        refine ⟨?_, g2, by rw [← HA.out.2, Ln.ps_more h59 (by rw [etl]; exact e)]⟩
        have := g.2.1
        rw [List.length_map, HA.out.1] at this
        omega)
      clear h59 etl
      go_wp2_with fail
      refine cT.mono ?_
      rintro e w2 ⟨rfl, hm3, hr2⟩
      have hrow2 := hrow.mv hm3 (by omega)
      have hbx2 := hbx.mv hm3 (by omega)
      have hm4 := hmv.trans hm3
      have ht2 := htx.mv hm3 hbh
      have hsz2 : w.heap.size + 1 ≤ w2.heap.size := by have := hm3.lt; omega
      have cP := rparam_any b s (k + 1) A n c acc w2 hr2 ht2 hbh (by omega) hs (fun w' hw => (hrow2.mv hw (by omega)).pars) hn
      clear hrow hbx hmv htx hrb cT hm3
      go_wp2_with fail
      refine cP.mono ?_
      rintro e w3 (⟨p, rest, Av, nv, cv, j3, hp, rfl, hm5, hr3, hj3, hd3, hS3, hf3⟩ | ⟨hp, E, j3, rfl, hE, hm5, hr3⟩)
      · obtain ⟨hn60, hrl, hps⟩ := HYp.out p rest hp
        have HPS := Lib.hid hps
        have hown2 := hrow2.own
        have hrow3 := hrow2.mv hm5 (by omega)
        have hbx3 := hbx2.mv hm5 (by omega)
        have hm6 := hm4.trans hm5
        have ht3 := ht2.mv hm5 hbh
        have hsz3 : w.heap.size + 1 ≤ w3.heap.size := by have := hm5.lt; omega
        have hg4 : Gr w3 (w3.alloc (.cells #[.string ⟨p.1.toArray⟩, .slice Av nv cv] 49)) := (Gr.refl w3).allocO _
        have hrow4 := hrow3.gr hg4
        have hS4 : Strs (w3.alloc (.cells #[.string ⟨p.1.toArray⟩, .slice Av nv cv] 49)) (w3.alloc (.cells #[.string ⟨p.1.toArray⟩, .slice Av nv cv] 49)).heap.size Av nv p.2 := (hS3.keep hg4.below).more hg4.lt
        have hv4 : 0 < nv → ∀ ad, Av = some ad → w.heap.size + 1 ≤ ad.block ∧ (Value.slice A n c).ownBlock ≠ some ad.block := fun h0 ad ha => by
          have h1 := hf3 h0 ad ha
          refine ⟨by omega, fun e1 => ?_⟩
          have := (hown2 _ e1).2
          omega
        have hsz4 : w.heap.size + 1 ≤ (w3.alloc (.cells #[.string ⟨p.1.toArray⟩, .slice Av nv cv] 49)).heap.size := by have := hg4.lt; omega
        have hH4 : (w3.alloc (.cells #[.string ⟨p.1.toArray⟩, .slice Av nv cv] 49)).heap.size = w3.heap.size + 1 := by simp
        have hm7 := hm6.trans (hg4.mv b)
        have hbx4 := hbx3.gr hg4
        have hr4 := hr3.keep hg4
        have ht4 := ht3.keep hg4
        have HD3 := Lib.hid hd3
        clear hps hp hrow2 hbx2 hm4 ht2 hr2 cP hm5 hrow3 hbx3 hm6 ht3 hr3 hS3 hf3 hown2 hd3
        go_wp2_with (at_builtin; refine ap_par (w3.alloc (.cells #[.string ⟨p.1.toArray⟩, .slice Av nv cv] 49)) rfl (.tmp 30) (.tmp 32) rfl (w.heap.size + 1) (fun x => w.heap.size + 1 ≤ x) A n c acc rfl hrow4 p Av nv cv hS4 hv4 (by rw [hH4]; rfl) (by omega) hsz4 ?_; intro A5 c5 w5 hrow5 hb5)
        have hr5 := hr4.below hb5 (by omega)
        have hbx5 := hbx4.below hb5 (by omega)
        have hm8 := hm7.below (hb5.mono (by omega))
        have ht5 := ht4.below hb5 ⟨by omega, by omega⟩
        have hsz5 : w.heap.size + 1 ≤ w5.heap.size := by have := hb5.size; omega
        go_wp2
        go_roundg (s.size + 1 - j3)
        case measure => have := HG.out; have h1 := congrArg List.length HD3.out; rw [List.length_drop, ← Lib.size_eq] at h1; omega
        case rel => exact ⟨_, n + 1, _, acc ++ [p], j3, rfl, by omega, hj3, by omega, hrow5, hm8, hsz5, hr5, hbx5, ht5, Lib.hid ⟨by rw [List.length_append, HA.out.1]; rfl, by rw [HD3.out]; exact HPS.out⟩⟩
      · have HNo : Hid (Ln.rl s.data.toList = none) := Lib.hid (HNp.out hp)
        have hg4 : Gr w3 (w3.alloc (.cells #[.string ⟨#[]⟩, .slice none 0 0] 49)) := (Gr.refl w3).allocO _
        have hbx4 := (hbx2.mv hm5 (by omega)).gr hg4
        have hm7 := (hm4.trans hm5).trans (hg4.mv b)
        have hr4 := hr3.keep hg4
        clear hp hrow2 hbx2 hm4 ht2 hr2 cP hm5 hr3
        have HX := Lib.hid hbx4
        obtain ⟨x0, x1, x2, f0, f1, f2⟩ := hbx4
        go_wp2
        obtain ⟨y0, y1, y2⟩ := HX.out.set3 (.string ⟨#[]⟩) (.slice none 0 0) (.string ⟨#[]⟩)
        have hbw := below_set3 (w := (w3.alloc (.cells #[.string ⟨#[]⟩, .slice none 0 0] 49))) (Nat.le_refl w.heap.size) (.string ⟨#[]⟩) (.slice none 0 0) (.string ⟨#[]⟩)
        generalize World.setCell (World.setCell (World.setCell _ _ _) _ _) _ _ = W at *
        exact bodyPost_ret (v := .tuple #[.agg #[.string ⟨#[]⟩, .slice none 0 0, .string ⟨#[]⟩], .int .i64 E]) (by simp [results, Tryd.results30, go_sem, y0, y1, y2]) rfl (li_err HNo.out E hE (hm7.below hbw) (hr4.below hbw hbl))
    · have cT := take_f b s k 59 59 rfl wr hrb hk h59
      have HVx : Hid (Ln.rl s.data.toList = Ln.rlB N.1 (some (acc, s.data.toList.drop k))) := Lib.hid (by rw [HR.out, ← HA.out.2, Ln.ps_end h59])
      clear h59
      go_wp2_with fail
      refine cT.mono ?_
      rintro e w2 ⟨rfl, hg2⟩
      have hrow2 := hrow.gr hg2
      have hbx2 := hbx.gr hg2
      have hm4 := hmv.trans (hg2.mv b)
      have ht2 := htx.keep hg2
      have hr2 := hrb.keep hg2
      clear hrow hbx hmv htx hrb cT
      by_cases h58 : (s.data.toList.drop k).head? = some 58
      · have hkl := hd_lt h58
        have cT := take_t b s k 58 58 rfl w2 hr2 hs h58
        have etl : (s.data.toList.drop k).tail = s.data.toList.drop (k + 1) := by rw [List.tail_drop]
        have hxs : (s.extract (k + 1) s.size).size ≤ 400000 := by rw [Lib.size_eq, ext_data, List.length_drop, ← Lib.size_eq]; omega
        have cC := fun w1 => clone_any (s.extract (k + 1) s.size) w1 (by omega)
        have cF := fun w1 (t1 : Tab w1) => fval_any (s.extract (k + 1) s.size) w1 t1 (by omega)
        rw [ext_data] at cF
        have hkk : k + 1 ≤ s.size := by omega
        generalize k + 1 = k1 at *
        by_cases hcl : Es.clE false (s.data.toList.drop k1) = 0
        · have HOk : Hid (Ln.rl s.data.toList = some ⟨N.1, acc, s.data.toList.drop k1⟩) := Lib.hid (by rw [HVx.out, Ln.rlB_ok h58 (by rw [etl]; exact hcl), etl])
          rw [decide_eq_true hcl] at cF
          have HEx := Lib.hid (extract_from s k1)
          clear h58 etl hcl HVx
          go_wp2_with fail
          refine cT.mono ?_
          rintro e w3 ⟨rfl, hm5, hr3⟩
          have hrow3 := hrow2.mv hm5 (by omega)
          have hbx3 := hbx2.mv hm5 (by omega)
          have hm6 := hm4.trans hm5
          have ht3 := ht2.mv hm5 hbh
          clear hrow2 hbx2 hm4 ht2 hr2 cT
          have HR3 := Lib.hid hr3
          obtain ⟨d0, d1, d2⟩ := hr3
          go_wp2_with fail
          go_region_held3 (fun w' => w'.cell? ⟨b, 0, none⟩ = some (.string s) ∧ w'.cell? ⟨b, 1, none⟩ = some (.int .i64 (k1 : Int)))
            (first | exact ⟨d0, d1⟩ | exact ⟨p0, p1⟩)
            (first | (go_at_call 34; refine (cC _).mono ?_; rintro e w4 ⟨rfl, hg4⟩; have hg5 := (Gr.refl w3).drew.trans hg4; have hr4 := HR3.out.keep hg5; have HR4 := Lib.hid hr4; obtain ⟨p0, p1, p2⟩ := hr4))
          have hrow4 := hrow3.gr hg5
          have hbx4 := hbx3.gr hg5
          have hm7 := hm6.trans (hg5.mv b)
          have ht4 := ht3.keep hg5
          clear hrow3 hbx3 hm6 ht3
          go_wp2_with fail
          refine (cF w4 ht4).mono ?_
          rintro e w5 ⟨rfl, hg6⟩
          have hrow5 := hrow4.gr hg6
          have hbx5 := hbx4.gr hg6
          have hm8 := hm7.trans (hg6.mv b)
          have hr5 := HR4.out.keep hg6
          have HX := Lib.hid hbx5
          obtain ⟨x0, x1, x2, f0, f1, f2⟩ := hbx5
          clear hrow4 hbx4 hm7 ht4 d0 d1 d2 p0 p1 p2
          go_wp2
          obtain ⟨y0, y1, y2⟩ := HX.out.set3 (.string ⟨N.1.toArray⟩) (.slice A n c) (.string (s.extract k1 s.size))
          have hbw := below_set3 (w := w5) (Nat.le_refl w.heap.size) (.string ⟨N.1.toArray⟩) (.slice A n c) (.string (s.extract k1 s.size))
          have hrow6 := hrow5.mv (mv_set3 w5 w.heap.size (.string ⟨N.1.toArray⟩) (.slice A n c) (.string (s.extract k1 s.size))) (by omega)
          generalize World.setCell (World.setCell (World.setCell _ _ _) _ _) _ _ = W at *
          exact bodyPost_ret (v := .tuple #[.agg #[.string ⟨N.1.toArray⟩, .slice A n c, .string (s.extract k1 s.size)], .int .i64 0]) (by simp [results, Tryd.results30, go_sem, y0, y1, y2]) rfl
            (.inl ⟨_, A, n, c, _, HOk.out, by rw [HEx.out], hm8.below hbw, hr5.below hbw hbl, hrow6⟩)
        · have HNo : Hid (Ln.rl s.data.toList = none) := Lib.hid (by rw [HVx.out, Ln.rlB_bad (by rw [etl]; exact hcl)])
          rw [decide_eq_false hcl] at cF
          clear h58 etl hcl HVx
          go_wp2_with fail
          refine cT.mono ?_
          rintro e w3 ⟨rfl, hm5, hr3⟩
          have hbx3 := hbx2.mv hm5 (by omega)
          have hm6 := hm4.trans hm5
          have ht3 := ht2.mv hm5 hbh
          clear hrow2 hbx2 hm4 ht2 hr2 cT
          have HR3 := Lib.hid hr3
          obtain ⟨d0, d1, d2⟩ := hr3
          go_wp2_with fail
          go_region_held3 (fun w' => w'.cell? ⟨b, 0, none⟩ = some (.string s) ∧ w'.cell? ⟨b, 1, none⟩ = some (.int .i64 (k1 : Int)))
            (first | exact ⟨d0, d1⟩ | exact ⟨p0, p1⟩)
            (first | (go_at_call 34; refine (cC _).mono ?_; rintro e w4 ⟨rfl, hg4⟩; have hg5 := (Gr.refl w3).drew.trans hg4; have hr4 := HR3.out.keep hg5; have HR4 := Lib.hid hr4; obtain ⟨p0, p1, p2⟩ := hr4))
          have hbx4 := hbx3.gr hg5
          have hm7 := hm6.trans (hg5.mv b)
          have ht4 := ht3.keep hg5
          clear hbx3 hm6 ht3
          go_wp2_with fail
          refine (cF w4 ht4).mono ?_
          rintro e w5 ⟨rfl, hg6⟩
          have hbx5 := hbx4.gr hg6
          have hm8 := hm7.trans (hg6.mv b)
          have hr5 := HR4.out.keep hg6
          have HX := Lib.hid hbx5
          obtain ⟨x0, x1, x2, f0, f1, f2⟩ := hbx5
          clear hbx4 hm7 ht4 d0 d1 d2 p0 p1 p2
          go_wp2
          obtain ⟨y0, y1, y2⟩ := HX.out.set3 (.string ⟨#[]⟩) (.slice none 0 0) (.string ⟨#[]⟩)
          have hbw := below_set3 (w := w5) (Nat.le_refl w.heap.size) (.string ⟨#[]⟩) (.slice none 0 0) (.string ⟨#[]⟩)
          generalize World.setCell (World.setCell (World.setCell _ _ _) _ _) _ _ = W at *
          exact bodyPost_ret (v := .tuple #[.agg #[.string ⟨#[]⟩, .slice none 0 0, .string ⟨#[]⟩], .int .i64 7]) (by simp [results, Tryd.results30, go_sem, y0, y1, y2]) rfl (li_err HNo.out 7 rfl (hm8.below hbw) (hr5.below hbw hbl))
      · have cT := take_f b s k 58 58 rfl w2 hr2 hk h58
        have HNo : Hid (Ln.rl s.data.toList = none) := Lib.hid (by rw [HVx.out, Ln.rlB_colon h58])
        clear h58 HVx
        go_wp2_with fail
        refine cT.mono ?_
        rintro e w3 ⟨rfl, hg3⟩
        have hbx3 := hbx2.gr hg3
        have hm6 := hm4.trans (hg3.mv b)
        have hr3 := hr2.keep hg3
        have HX := Lib.hid hbx3
        obtain ⟨x0, x1, x2, f0, f1, f2⟩ := hbx3
        go_wp2
        obtain ⟨y0, y1, y2⟩ := HX.out.set3 (.string ⟨#[]⟩) (.slice none 0 0) (.string ⟨#[]⟩)
        have hbw := below_set3 (w := w3) (Nat.le_refl w.heap.size) (.string ⟨#[]⟩) (.slice none 0 0) (.string ⟨#[]⟩)
        generalize World.setCell (World.setCell (World.setCell _ _ _) _ _) _ _ = W at *
        exact bodyPost_ret (v := .tuple #[.agg #[.string ⟨#[]⟩, .slice none 0 0, .string ⟨#[]⟩], .int .i64 5]) (by simp [results, Tryd.results30, go_sem, y0, y1, y2]) rfl (li_err HNo.out 5 rfl (hm6.below hbw) (hr3.below hbw hbl))
theorem line_any (b : Nat) (s : ByteArray) (w : World) (h : RB w b s 0) (ht : Tab w) (hbh : Hi b) (hs : s.size ≤ 400000) :
    Calls Tryd.prog 30 #[.pointer (some ⟨b, 0, none⟩)] w (LiPost b s s.data.toList w) := by
  by_cases hx : (Ln.nm 60 s.data.toList).1 = []
  · exact line_noname b s w h hs hx
  · exact line_yes b s w h ht hbh hs hx
end Go.Proofs.YtpcmhaflmpcicaaDoor
