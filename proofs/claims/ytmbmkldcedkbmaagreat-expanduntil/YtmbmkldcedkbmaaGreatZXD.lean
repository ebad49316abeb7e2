/- The texts Xk, Xd, one behind the other. -/
import Derived.Test.YtmbmkldcedkbmaaGreatZXB
import Derived.Test.YtmbmkldcedkbmaaGreatZXC
import Derived.Test.YtmbmkldcedkbmaaGreatZO
import Derived.Test.YtmbmkldcedkbmaaGreatZShelf6
import Derived.Test.YtmbmkldcedkbmaaGreatZMtFits
namespace Go.Proofs.YtmbmkldcedkbmaaGreat
open Go.RowKit

/- the library's rows -/
theorem sm_putRow {α : Type} [Inhabited α] (enc : α → Value) (w : World) (g off : Nat) (d : Array α) : Sm (fun k => k ≠ g) w (Sort.putRow enc w g off d) := by
  refine ⟨rfl, rfl, rfl, Nat.le_of_eq (Sort.size_putRow enc w g off d).symm, fun k _ hk => ?_⟩
  unfold Sort.putRow Sort.mapBlock
  simp [Array.getElem?_modify, Ne.symm hk]
theorem sm_ahead (K : Nat → Prop) (w : World) (n : Nat) : Sm K w (Sort.ahead w n) := ⟨rfl, rfl, rfl, Nat.le_refl _, fun _ _ _ => rfl⟩
theorem sm_growS (K : Nat → Prop) (w : World) (os : Array Obj) : Sm K w (Sort.grow w os) := ⟨rfl, rfl, rfl, by simp, fun k hk _ => Sort.heap_grow_old w os hk⟩
theorem holds_own {w : World} {B : Nat} {e : TypeId} {g n c : Nat} {xs : List Int} (h : OwnV w B e (some ⟨g, 0, none⟩) n c (ivs xs)) : Sort.Holds (Value.int .i64) w g 0 xs.toArray := by
  have hl := ivs_len h
  intro j hj
  have hj2 : j < xs.length := by simpa using hj
  refine ⟨?_, own_free h _⟩
  rw [Nat.zero_add, own_cell h j (by omega)]
  unfold ivs
  rw [List.getElem?_map, List.getElem?_eq_getElem hj2, getElem!_pos xs.toArray j hj]
  rfl
theorem compact_le (zs : List Int) : (Lib.compact zs).length ≤ zs.length := by
  unfold Lib.compact Lib.compactUpTo
  rw [List.length_map]
  exact Nat.le_trans (List.length_filter_le _ _) (by simp)
abbrev encInt : Int → Array Value := fun x => #[.int .i64 x]
/- an iterator's value -/
def IsSeq (gf : Nat) (lb : Array Value) (xs : List Int) (w : World) (K : Nat → Prop) : Prop :=
  (∀ args w, (callFunc gf args).run Tryz.prog w = .ok (.enter gf args) w) ∧ ∀ Kr : Nat → Prop, (∀ k, K k → k < w.heap.size → Kr k) → SeqE 2 Tryz.prog gf lb encInt Kr xs w
theorem rawK_snoc {n : Int} {pos : List Int} {k : Nat} (hk : k < pos.length) : Ex.rawK n (pos.take (k + 1)) = Ex.rawK n (pos.take k) ++ (if 0 ≤ Ex.idxK n pos[k] ∧ Ex.idxK n pos[k] < n then [Ex.idxK n pos[k]] else []) := by
  unfold Ex.rawK
  rw [List.take_succ_eq_append_getElem hk, List.map_append, List.filter_append]
  congr 1
  simp only [List.map_cons, List.map_nil]
  by_cases h : 0 ≤ Ex.idxK n pos[k] ∧ Ex.idxK n pos[k] < n
  · rw [if_pos h, List.filter_cons_of_pos (by simp [h])]; rfl
  · rw [if_neg h, List.filter_cons_of_neg (by simpa using h)]; rfl
theorem indexesF_any (N : Int) (w : World) (hN : N ≤ 4000000000000) :
    Calls Tryz.prog 77 #[.int .i64 N] w fun e w' => ∃ gf lb, e = .returned (.func (.func gf) #[] lb) ∧ Gr w w' ∧ Hid (IsSeq gf lb (Ex.upto N.toNat) w' (fun k => w.heap.size ≤ k)) := by
  have hc : (w.alloc (.cells #[.int .i64 N] 3)).cell? ⟨w.heap.size, 0, none⟩ = some (.int .i64 N) := by simp
  have HS := Lib.hid (show IsSeq 111 #[.pointer (some ⟨w.heap.size, 0, none⟩)] (Ex.upto N.toNat) (w.alloc (.cells #[.int .i64 N] 3)) (fun k => w.heap.size ≤ k) from
    ⟨enters_of Tryz.func111 (by kernel_rfl) rfl, fun Kr _ => indexes_seq N _ _ Kr hN hc⟩)
  have hg : Gr w (w.alloc (.cells #[.int .i64 N] 3)) := (Gr.refl w).allocO _
  clear hc hN
  go_enter Tryz.func77, Tryz.ntmps77
  go_wp2
  go_ret
  exact ⟨_, _, rfl, hg, HS⟩
theorem valuesF_any (A : Option Addr) (n c : Nat) (zs : List Int) (w : World) (B : Nat) (hn : n ≤ 1000000) (hz : NumK w (fun k => B ≤ k) A n zs) :
    Calls Tryz.prog 79 #[.slice A n c] w fun e w' => ∃ gf lb, e = .returned (.func (.func gf) #[] lb) ∧ Gr w w' ∧ Hid (IsSeq gf lb zs w' (fun k => B ≤ k)) := by
  have hc : (w.alloc (.cells #[.slice A n c] 24)).cell? ⟨w.heap.size, 0, none⟩ = some (.slice A n c) := by simp
  have hg : Gr w (w.alloc (.cells #[.slice A n c] 24)) := (Gr.refl w).allocO _
  have HS := Lib.hid (show IsSeq 114 #[.pointer (some ⟨w.heap.size, 0, none⟩)] zs (w.alloc (.cells #[.slice A n c] 24)) (fun k => B ≤ k) from
    ⟨enters_of Tryz.func114 (by kernel_rfl) rfl, fun Kr h => values_seq A n c zs _ _ Kr hn hc ((hz.sm (hg.sm (fun _ => True)) (fun _ _ _ => trivial)).weak (fun k hk h2 => h k h2 hk))⟩)
  clear hc hn hz
  go_enter Tryz.func79, Tryz.ntmps79
  go_wp2
  go_ret
  exact ⟨_, _, rfl, hg, HS⟩
set_option maxRecDepth 100000 in
set_option maxHeartbeats 8000000 in
theorem kept_any (A : Option Addr) (n c : Nat) (pos : List Int) (N : Int) (w : World) (h : Nums w w.heap.size A n pos) (hn : n ≤ 1000) (hp : ∀ p ∈ pos, p ≠ 0 ∧ -366 ≤ p ∧ p ≤ 366) (h0 : 0 ≤ N) (hN : N ≤ 4000000000000) :
    Calls Tryz.prog 43 #[.slice A n c, .int .i64 N] w fun e w' => ∃ gf lb, e = .returned (.func (.func gf) #[] lb) ∧ Gr w w' ∧ Hid (IsSeq gf lb (Ex.ks pos N) w' (fun k => w.heap.size ≤ k)) := by
  have hl := h.1
  rcases Nat.eq_zero_or_pos n with hz | hz
  · subst hz
    have hx : pos = [] := List.eq_nil_of_length_eq_zero hl
    have cI := fun w' => indexesF_any N w' hN
    rw [show Ex.ks pos N = Ex.upto N.toNat by unfold Ex.ks; rw [if_pos hx]]
    clear h hp hn hl hx
    generalize Ex.upto N.toNat = us at *
    go_enter Tryz.func43, Tryz.ntmps43
    go_wp2_with (go_at_call 77; refine (cI _).mono ?_; rintro e w1 ⟨gf, lb, rfl, hg1, hs1⟩)
    go_ret
    exact ⟨gf, lb, rfl, hg1, hs1⟩
  · have hne : pos ≠ [] := fun e => by rw [e] at hl; simp at hl; omega
    have hkp := Ex.keptL (n := N) (fun p h => (hp p h).1) hne
    have hraw : ∀ k, (Ex.rawK N (pos.take k)).length ≤ k := fun k => by
      unfold Ex.rawK
      refine Nat.le_trans (List.length_filter_le _ _) ?_
      rw [List.length_map, List.length_take]; omega
    have HRaw := Lib.hid hraw
    have hn0 : (n : Int) ≠ 0 := by omega
    have HRS := Lib.hid hkp
    have hnb : ((n : Int) == 0) = false := beq_eq_false_iff_ne.2 hn0
    generalize Ex.ks pos N = RS at *
    clear hkp hne hraw
    go_enter Tryz.func43, Tryz.ntmps43
    go_wp2
    try simp only [hnb]
    go_loopg [5, 16] n (fun g v5 v wx => ∃ (k m cp : Nat) (R : Option Addr), v = .int .i64 (k : Int) ∧ v5 = .slice R m cp ∧ k + g = n ∧ Hid (OwnV wx w.heap.size 3 R m cp (ivs (Ex.rawK N (pos.take k)))) ∧ Gr w wx)
    case atStart => exact ⟨0, 0, 0, none, rfl, rfl, by omega, Lib.hid (OwnV.nil _ _ _), Gr.refl _⟩
    case round =>
      obtain ⟨k, m, cp, R, rfl, rfl, hkg, HO, hg⟩ := hrel
      have HK := Lib.hid hkg
      clear hkg
      have hmk : m ≤ k := by have := HRaw.out k; rw [ivs_len HO.out] at this; exact this
      by_cases hk : k < n
      · obtain ⟨ad, hk', rfl, hbl, hc0⟩ := h.at_ hk
        have d0 := (hg.below.cell (p := ad.add k) (by rw [add_block]; exact hbl)).trans hc0
        have hkn : (k : Int) < (n : Int) := by omega
        obtain ⟨p0, p1, p2⟩ := hp pos[k] (List.getElem_mem hk')
        have HS := Lib.hid (rawK_snoc (n := N) hk')
        have ho := HO.out
        clear hc0
        generalize pos[k] = p at *
        by_cases hpn : p < 0
        · have ei : Ex.idxK N p = p + N := by unfold Ex.idxK; rw [if_pos hpn]
          rw [ei] at HS
          clear ei
          by_cases hi : 0 ≤ p + N
          · have hi2 : p + N < N := by omega
            have HS := Lib.hid (by have := HS.out; rwa [if_pos ⟨hi, hi2⟩] at this)
            go_wp2_with (at_builtin; refine apP wr rfl (.tmp 34) (.tmp 36) 24 3 (.int .i64 0) Tryz.underlying24 info_int rfl rfl w.heap.size R m cp _ rfl ho (.int .i64 (p + N)) rfl rfl (by omega) hg.lt ?_; intro g5 cap5 w5 hA5)
            go_roundg (n - (k + 1))
            case measure => have := HK.out; omega
            case rel => exact ⟨k + 1, m + 1, cap5, _, by go_num, rfl, by omega, Lib.hid (by rw [HS.out, ivs_app]; exact hA5.own), hA5.gr ho (Nat.le_refl _) hg⟩
          · have HS := Lib.hid (by have := HS.out; rwa [if_neg (fun h => hi h.1), List.append_nil] at this)
            go_wp2
            go_roundg (n - (k + 1))
            case measure => have := HK.out; omega
            case rel => exact ⟨k + 1, m, cp, R, by go_num, rfl, by omega, Lib.hid (by rw [HS.out]; exact ho), hg⟩
        · have ei : Ex.idxK N p = p - 1 := by unfold Ex.idxK; rw [if_neg hpn]
          rw [ei] at HS
          clear ei
          have hi : 0 ≤ p - 1 := by omega
          by_cases hi2 : p - 1 < N
          · have HS := Lib.hid (by have := HS.out; rwa [if_pos ⟨hi, hi2⟩] at this)
            go_wp2_with (at_builtin; refine apP wr rfl (.tmp 34) (.tmp 36) 24 3 (.int .i64 0) Tryz.underlying24 info_int rfl rfl w.heap.size R m cp _ rfl ho (.int .i64 (p - 1)) rfl rfl (by omega) hg.lt ?_; intro g5 cap5 w5 hA5)
            go_roundg (n - (k + 1))
            case measure => have := HK.out; omega
            case rel => exact ⟨k + 1, m + 1, cap5, _, by go_num, rfl, by omega, Lib.hid (by rw [HS.out, ivs_app]; exact hA5.own), hA5.gr ho (Nat.le_refl _) hg⟩
          · have HS := Lib.hid (by have := HS.out; rwa [if_neg (fun h => hi2 h.2), List.append_nil] at this)
            go_wp2
            go_roundg (n - (k + 1))
            case measure => have := HK.out; omega
            case rel => exact ⟨k + 1, m, cp, R, by go_num, rfl, by omega, Lib.hid (by rw [HS.out]; exact ho), hg⟩
      · obtain rfl : k = n := by have := HK.out; omega
        have ho := HO.out
        rw [List.take_of_length_le (by rw [hl]; exact Nat.le_refl _)] at ho
        have hlm := ivs_len ho
        clear HRaw HO h hp
        generalize Ex.rawK N pos = zs at *
        rcases Nat.eq_zero_or_pos m with hm | hm
        · subst hm
          have e0 : zs = [] := List.eq_nil_of_length_eq_zero hlm
          subst e0
          have cS := fun w' => Tryz.slices_Sort_int_none R cp w'
          have cC := fun w' => Tryz.slices_Compact_int_empty R cp w'
          have cV := fun w' => valuesF_any R 0 cp [] w' w.heap.size (by omega) ⟨rfl, fun h => absurd h (by omega)⟩
          go_wp2_with (first | (go_at_call 78; refine (cS _).mono ?_; rintro e w1 ⟨rfl, rfl⟩) | (go_at_call 80; refine (cC _).mono ?_; rintro e w1 ⟨rfl, rfl⟩) | (go_at_call 79; refine (cV _).mono ?_; rintro e w2 ⟨gf, lb, rfl, hg2, hs2⟩))
          go_ret
          have e1 : RS = [] := by rw [← HRS.out, List.mergeSort_nil]; rfl
          exact ⟨gf, lb, rfl, hg.trans hg2, by rw [e1]; exact hs2⟩
        · rcases own_at ho with rfl | ⟨gb, rfl, hgb, hlt⟩
          · exfalso
            rcases ho.2 with ⟨_, h2⟩ | ⟨g, cap, cur, hv, _⟩
            · omega
            · cases hv
          have hH := holds_own ho
          have hcap := ho.cap
          subst hlm
          have cS := Tryz.slices_Sort_int gb 0 cp zs wr hH hlt (by omega)
          generalize hsrt : (zs.mergeSort fun x y => decide (x ≤ y)) = srt at *
          have hsl : srt.length = zs.length := by rw [← hsrt]; exact List.length_mergeSort zs
          clear hsrt
          have hHs : ∀ n os, Sort.Holds (Value.int .i64) (Sort.grow (Sort.putRow (Value.int .i64) (Sort.ahead wr n) gb 0 srt.toArray) os) gb 0 srt.toArray := fun n os => by
            refine Sort.holds_grow _ _ _ _ _ _ (by simpa using hlt) ?_
            exact Sort.holds_putRow _ _ _ _ zs.toArray _ (Sort.holds_ahead _ _ _ _ _ _ hH) (by simpa using hsl)
          have hGs : ∀ n os, Gr w (Sort.grow (Sort.putRow (Value.int .i64) (Sort.ahead wr n) gb 0 srt.toArray) os) := fun n os =>
            ⟨hg.below.trans ((((sm_ahead (fun k => k ≠ gb) wr n).trans (sm_putRow _ _ _ _ _)).trans (sm_growS _ _ _)).below (fun k hk => by omega) hg.lt)⟩
          have hsz : ∀ n os, gb < (Sort.grow (Sort.putRow (Value.int .i64) (Sort.ahead wr n) gb 0 srt.toArray) os).heap.size := fun n os => by simp; omega
          go_wp2_with fail
          refine cS.mono ?_
          rintro e w1 ⟨rfl, n1, os1, rfl⟩
          have hH1 := hHs n1 os1
          have hG1 := hGs n1 os1
          have hz1 := hsz n1 os1
          clear hHs hGs hsz cS
          generalize Sort.grow _ os1 = W1 at *
          have hcl := compact_le srt
          have cC := Tryz.slices_Compact_int gb 0 cp srt W1 hH1 (by omega) (by omega)
          rw [hsl] at cC
          generalize Lib.compact srt = cs at *
          have hHc : ∀ q, Sort.Holds (Value.int .i64) (Sort.putRow (Value.int .i64) (Sort.ahead W1 q) gb 0 (cs ++ List.replicate (zs.length - cs.length) 0).toArray) gb 0 (cs ++ List.replicate (zs.length - cs.length) 0).toArray := fun q =>
            Sort.holds_putRow _ _ _ _ srt.toArray _ (Sort.holds_ahead _ _ _ _ _ _ hH1) (by simp; omega)
          have hGc : ∀ q, Gr w (Sort.putRow (Value.int .i64) (Sort.ahead W1 q) gb 0 (cs ++ List.replicate (zs.length - cs.length) 0).toArray) := fun q =>
            ⟨hG1.below.trans (((sm_ahead (fun k => k ≠ gb) W1 q).trans (sm_putRow _ _ _ _ _)).below (fun k hk => by omega) hG1.lt)⟩
          have hsc : ∀ q, gb < (Sort.putRow (Value.int .i64) (Sort.ahead W1 q) gb 0 (cs ++ List.replicate (zs.length - cs.length) 0).toArray).heap.size := fun q => by simpa using hz1
          go_wp2_with fail
          refine cC.mono ?_
          rintro e w1 ⟨rfl, q, rfl⟩
          have hH2 := hHc q
          have hG2 := hGc q
          have hz2 := hsc q
          clear hHc hGc hsc cC
          generalize Sort.putRow (Value.int .i64) _ gb 0 _ = W2 at *
          have hNK : NumK W2 (fun k => w.heap.size ≤ k) (some ⟨gb, 0, none⟩) cs.length cs := by
            refine ⟨rfl, fun _ => ⟨_, rfl, hgb, hz2, fun j u hu => ?_⟩⟩
            have hj : j < cs.length := (List.getElem?_eq_some_iff.1 hu).1
            have h9 := (hH2 j (by simp; omega)).1
            have hadd : (⟨gb, 0, none⟩ : Addr).add j = ⟨gb, j, none⟩ := by unfold Addr.add; split <;> simp_all
            rw [hadd]
            rw [Nat.zero_add] at h9
            rw [h9, getElem!_pos _ j (by simp; omega)]
            rw [List.getElem_toArray, List.getElem_append_left hj, (List.getElem?_eq_some_iff.1 hu).2]
          have cV := valuesF_any (some ⟨gb, 0, none⟩) cs.length cp cs W2 w.heap.size (by omega) hNK
          clear hNK hH2
          go_wp2_with fail
          refine cV.mono ?_
          rintro e w2 ⟨gf, lb, rfl, hg2, hs2⟩
          go_wp2
          go_ret
          exact ⟨gf, lb, rfl, hG2.trans hg2, by rw [← HRS.out]; exact hs2⟩
end Go.Proofs.YtmbmkldcedkbmaaGreat
namespace Go.Proofs.YtmbmkldcedkbmaaGreat
open Go.RowKit

namespace Ex
def skipV (r : Rm.Ru) (d : Int) : Int := if r.month = [] ∨ Mc.hasB r.month (Cal.mon d) = true then 0 else d - Cal.dom d + Cal.dim (Cal.yr d) (Cal.mon d)
theorem skipV_pos {r : Rm.Ru} {d : Int} (h : r.month ≠ []) (h2 : Mc.hasB r.month (Cal.mon d) = false) (hd : Cal.dayB d = true) : d ≤ skipV r d ∧ skipV r d ≤ d + 31 ∧ ∀ x, d ≤ x → x ≤ skipV r d → Cal.mon x = Cal.mon d := by
  obtain ⟨h3, h4⟩ := Cal.date_spec hd
  obtain ⟨_, _, h5, h6⟩ := Cal.okB_iff.1 h3
  have h7 := Cal.dim_bd (Cal.yr d) (Cal.mon d)
  have e : skipV r d = d - Cal.dom d + Cal.dim (Cal.yr d) (Cal.mon d) := by unfold skipV; rw [if_neg (by simp [h, h2])]
  rw [e]
  exact ⟨by omega, by omega, fun x h1 h2 => month_same (by omega) h2⟩
end Ex
set_option maxRecDepth 100000 in
set_option maxHeartbeats 4000000 in
theorem skip_any (V : Rm.Rv) (bp : Nat) (beg db : Int) (A : Option Addr) (n c : Nat) (d : Int) (w : World) (hP : PatB w bp V beg db A n c) (hM : RuM w w.heap.size V) (hl : V.month.n ≤ 1000000) (hd : Cal.dayB d = true) :
    Calls Tryz.prog 75 #[.pointer (some ⟨bp, 0, none⟩), .int .i64 d] w fun e w' => e = .returned (.int .i64 (Ex.skipV V.r d)) ∧ Gr w w' := by
  have c15 := hP.r.c15
  have hN := hM.l 6 (by omega)
  change Nums w w.heap.size V.month.A V.month.n V.r.month at hN
  by_cases h0 : V.month.n = 0
  · have e0 : V.r.month = [] := List.eq_nil_of_length_eq_zero (by rw [hN.1]; exact h0)
    rw [show Ex.skipV V.r d = 0 by unfold Ex.skipV; rw [if_pos (.inl e0)]]
    clear hP hM hN hl hd
    rw [h0] at c15
    go_enter Tryz.func75, Tryz.ntmps75
    go_wp2
    go_ret
    exact ⟨rfl, Gr.refl _⟩
  · have hne : V.r.month ≠ [] := fun e => h0 (by rw [← hN.1, e]; rfl)
    have h0' : (V.month.n : Int) ≠ 0 := by omega
    have cC := fun w' (h : Gr w w') => contains_any V.month.A V.month.n V.month.c V.r.month (Cal.mon d) w' (hN.gr h) (by omega)
    have cD := fun w' => date_yes d w' hd
    have hsk := fun h2 => Ex.skipV_pos hne h2 hd
    obtain ⟨n1, n2⟩ := Cal.dayB_iff.1 hd
    obtain ⟨h3, _⟩ := Cal.date_spec hd
    obtain ⟨_, _, h5, h6⟩ := Cal.okB_iff.1 h3
    have h7 := Cal.dim_bd (Cal.yr d) (Cal.mon d)
    rcases hh : Mc.hasB V.r.month (Cal.mon d)
    · have HV := Lib.hid (show Ex.skipV V.r d = d - Cal.dom d + Cal.dim (Cal.yr d) (Cal.mon d) by unfold Ex.skipV; rw [if_neg (by simp [hne, hh])])
      rw [HV.out]
      rw [hh] at cC
      have cL := fun w' => length_any (Cal.yr d) (Cal.mon d) w'
      generalize Cal.dim (Cal.yr d) (Cal.mon d) = dm at *
      clear hP hM hN hl hd hsk h3 HV
      go_enter Tryz.func75, Tryz.ntmps75
      go_wp2_with (go_at_call 74; refine (cD _).mono ?_; rintro e w1 ⟨rfl, hg1⟩; have c15 := gr_cell hg1 c15)
      have hga : Gr w1 (w1.alloc (.cells #[.int .i64 (Cal.yr d), .int .i64 (Cal.mon d), .int .i64 (Cal.dom d)] 85)) := (Gr.refl w1).allocO _
      obtain ⟨x0, x1, x2⟩ := box3 (Gr.refl (w1.alloc (.cells #[.int .i64 (Cal.yr d), .int .i64 (Cal.mon d), .int .i64 (Cal.dom d)] 85)))
      have c15 := gr_cell hga c15
      have hg := hg1.trans hga
      generalize w1.alloc (.cells #[.int .i64 (Cal.yr d), .int .i64 (Cal.mon d), .int .i64 (Cal.dom d)] 85) = W2 at *
      go_quiet (first | (go_at_call 107; exact qsame (cC _ (hg.drewN _))))
      have hg := hg.drewN nq
      have hgd := (Gr.refl W2).drewN nq
      have x0 := gr_cell hgd x0
      have x1 := gr_cell hgd x1
      have x2 := gr_cell hgd x2
      clear cC c15 hgd hga hg1
      generalize W2.drewN nq = W3 at *
      go_wp2
      go_quiet (first | (go_at_call 104; exact qsame (cL _)))
      go_wp2
      go_ret
      exact ⟨rfl, hg.drewN nq⟩
    · rw [show Ex.skipV V.r d = 0 by unfold Ex.skipV; rw [if_pos (.inr hh)]]
      rw [hh] at cC
      clear hP hM hN hl hd hsk h3
      go_enter Tryz.func75, Tryz.ntmps75
      go_wp2_with (go_at_call 74; refine (cD _).mono ?_; rintro e w1 ⟨rfl, hg1⟩; have c15 := gr_cell hg1 c15)
      have hga : Gr w1 (w1.alloc (.cells #[.int .i64 (Cal.yr d), .int .i64 (Cal.mon d), .int .i64 (Cal.dom d)] 85)) := (Gr.refl w1).allocO _
      obtain ⟨x0, x1, x2⟩ := box3 (Gr.refl (w1.alloc (.cells #[.int .i64 (Cal.yr d), .int .i64 (Cal.mon d), .int .i64 (Cal.dom d)] 85)))
      have c15 := gr_cell hga c15
      have hg := hg1.trans hga
      generalize w1.alloc (.cells #[.int .i64 (Cal.yr d), .int .i64 (Cal.mon d), .int .i64 (Cal.dom d)] 85) = W2 at *
      go_quiet (first | (go_at_call 107; exact qsame (cC _ (hg.drewN _))))
      go_wp2
      go_ret
      exact ⟨rfl, hg.drewN nq⟩
set_option maxRecDepth 100000 in
set_option maxHeartbeats 8000000 in
theorem days_any (V : Rm.Rv) (bp : Nat) (beg db : Int) (A : Option Addr) (n c : Nat) (f l : Int) (w : World) (hP : PatB w bp V beg db A n c) (hM : RuM w w.heap.size V) (hdn : V.day.n ≤ 140737488355328) (hn : ∀ i, i < 8 → (V.sl i).n ≤ 1000000)
    (hf : Rm.fm V.r = true) (hdb : Cal.dayB db = true) (f1 : 1 ≤ f) (l1 : l ≤ 3652059) (hfl : f ≤ l + 1) :
    Calls Tryz.prog 42 #[.pointer (some ⟨bp, 0, none⟩), .int .i64 f, .int .i64 l] w fun e w' => ∃ A n c, e = .returned (.slice A n c) ∧ Gr w w' ∧ Hid (OwnV w' w.heap.size 3 A n c (ivs (Ex.dayL V.r db f l))) := by
  have cS := fun w' d (h : Gr w w') hd => skip_any V bp beg db A n c d w' (hP.gr h) (hM.gr h) (hn 6 (by omega)) hd
  have cF := fun w' d (h : Gr w w') hd => fits_yes V db d w' (hM.gr h) hdn (fun i hi => Nat.le_trans (hn i hi) (by omega)) hf hdb hd
  go_enter Tryz.func42, Tryz.ntmps42
  go_wp2
  go_loopg [7, 8] (l + 1 - f).toNat (fun g v7 v wx => ∃ (d : Int) (m cp : Nat) (R : Option Addr), v = .int .i64 d ∧ v7 = .slice R m cp ∧ g = (l + 1 - d).toNat ∧ f ≤ d ∧ d ≤ l + 40 ∧ (m : Int) ≤ d - f ∧ Hid (OwnV wx w.heap.size 3 R m cp (ivs (Ex.dayL V.r db f (min (d - 1) l)))) ∧ Gr w wx)
  case atStart => exact ⟨f, 0, 0, none, rfl, rfl, rfl, Int.le_refl _, by omega, by omega, Lib.hid (by unfold Ex.dayL; rw [Ex.days_nil (by omega)]; exact OwnV.nil _ _ _), Gr.refl _⟩
  case round =>
    obtain ⟨d, m, cp, R, rfl, rfl, hgm, hd1, hd2, hmd, HO, hg⟩ := hrel
    have HG := Lib.hid hgm
    clear hgm
    by_cases hdl : d ≤ l
    · have hd : Cal.dayB d = true := Cal.dayB_iff.2 ⟨by omega, by omega⟩
      have cS := fun w' (h : Gr w w') => cS w' d h hd
      have cF := fun w' (h : Gr w w') => cF w' d h hd
      have emin : min (d - 1) l = d - 1 := by omega
      rw [emin] at HO
      by_cases hs : V.r.month = [] ∨ Mc.hasB V.r.month (Cal.mon d) = true
      · have hsv : Ex.skipV V.r d = 0 := by unfold Ex.skipV; rw [if_pos hs]
        rw [hsv] at cS
        clear hsv hs
        go_wp2_with (go_at_call 75; refine (cS _ hg).mono ?_; rintro e w1 ⟨rfl, hg1⟩)
        have hgw1 := hg.trans hg1
        have hPb := hP.gr hgw1
        have ho1 := HO.out.gr hg1
        have hx := after_rule hPb.r
        have hy := after_cell hPb.c18
        have cF := fun (u : After w1) => cF u.wd (hgw1.trans u.gr)
        have HD1 := Lib.hid (Ex.dayL_yes (r := V.r) (db := db) hd1)
        have HD0 := Lib.hid (Ex.dayL_no (r := V.r) (db := db) hd1)
        rcases hfit : Mc.fits V.r db d
        · rw [hfit] at cF
          have HD := Lib.hid (HD0.out hfit)
          clear cS HD1 HD0 hPb hfit
          refine wp_region_after (by kernel_rfl) (by kernel_rfl) ?_
          repeat (first | (go_big_quiet_want; (refine quiet_rule _ rfl rfl hx ?_); (try simp only [Act.put, List.setIfInBounds_toArray, List.set_cons_zero, List.set_cons_succ]); go_big_quiet_on) | go_big_quiet_step (first | (go_at_call 76; exact qafter (cF _))))
          refine wpQuiet_nil ?_
          rintro _ ⟨u, rfl⟩
          have hg2 := u.gr
          generalize u.wd = w2 at *

          have hgw2 := hgw1.trans hg2
          have ho2 := ho1.gr hg2
          clear hx hy
          go_wp2
          go_roundg ((l + 1 - (d + 1)).toNat)
          case measure => have := HG.out; omega
          case rel => exact ⟨d + 1, m, cp, R, rfl, rfl, rfl, by omega, by omega, by omega, Lib.hid (by rw [show min (d + 1 - 1) l = d by omega, HD.out]; exact ho2), hgw2⟩
        · rw [hfit] at cF
          have HD := Lib.hid (HD1.out hfit)
          clear cS HD1 HD0 hPb hfit
          refine wp_region_after (by kernel_rfl) (by kernel_rfl) ?_
          repeat (first | (go_big_quiet_want; (refine quiet_rule _ rfl rfl hx ?_); (try simp only [Act.put, List.setIfInBounds_toArray, List.set_cons_zero, List.set_cons_succ]); go_big_quiet_on) | go_big_quiet_step (first | (go_at_call 76; exact qafter (cF _))))
          refine wpQuiet_nil ?_
          rintro _ ⟨u, rfl⟩
          have hg2 := u.gr
          generalize u.wd = w2 at *

          have hgw2 := hgw1.trans hg2
          have ho2 := ho1.gr hg2
          clear hx hy
          go_wp2_with (at_builtin; refine apP w2 rfl (.tmp 38) (.tmp 40) 24 3 (.int .i64 0) Tryz.underlying24 info_int rfl rfl w.heap.size R m cp _ rfl ho2 (.int .i64 d) rfl rfl (by omega) hgw2.lt ?_; intro g5 cap5 w5 hA5)
          go_roundg ((l + 1 - (d + 1)).toNat)
          case measure => have := HG.out; omega
          case rel =>
            refine ⟨d + 1, m + 1, cap5, _, rfl, rfl, rfl, by omega, by omega, by omega, Lib.hid ?_, hA5.gr ho2 (Nat.le_refl _) hgw2⟩
            rw [show min (d + 1 - 1) l = d by omega, HD.out, ivs_app]
            exact hA5.own
      · have hm1 : V.r.month ≠ [] := fun e => hs (.inl e)
        have hm2 : Mc.hasB V.r.month (Cal.mon d) = false := by
          rcases h : Mc.hasB V.r.month (Cal.mon d)
          · rfl
          · exact absurd (Or.inr h) hs
        obtain ⟨s1, s2, s3⟩ := Ex.skipV_pos hm1 hm2 hd
        generalize Ex.skipV V.r d = sk at *
        have HD := Lib.hid (Ex.dayL_skip (r := V.r) (db := db) (f := f) (d := d) (e := min sk l) hd1 (by omega) hm1 hm2 (fun x h1 h2 => s3 x h1 (by omega)))
        clear hs hm1 hm2 s3
        go_wp2_with (go_at_call 75; refine (cS _ hg).mono ?_; rintro e w1 ⟨rfl, hg1⟩)
        have ho1 := HO.out.gr hg1
        have hgw1 := hg.trans hg1
        go_roundg ((l + 1 - (sk + 1)).toNat)
        case measure => have := HG.out; omega
        case rel => exact ⟨sk + 1, m, cp, R, rfl, rfl, rfl, by omega, by omega, by omega, Lib.hid (by rw [show min (sk + 1 - 1) l = min sk l by omega, HD.out]; exact ho1), hgw1⟩
    · have emin : min (d - 1) l = l := by omega
      rw [emin] at HO
      clear emin cS cF
      go_wp2
      go_ret
      exact ⟨R, m, cp, rfl, hg, HO⟩
end Go.Proofs.YtmbmkldcedkbmaaGreat
