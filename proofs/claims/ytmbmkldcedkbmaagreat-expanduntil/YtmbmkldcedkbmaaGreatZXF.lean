/- The texts Xe, Xu, Xv, one behind the other. -/
import Derived.Test.YtmbmkldcedkbmaaGreatZXE
namespace Go.Proofs.YtmbmkldcedkbmaaGreat
open Go.RowKit Go.Shelf
attribute [local go_sem] Oper.semAt_some

namespace Ex
def expL (r : Rm.Ru) (Bg last : Int) : List Int := if last < Bg then [] else Bg :: rest r Bg (fin r last) 3652062 0
theorem fin_end {r : Rm.Ru} {last : Int} (h : last ≤ 9223372036854775807) : fin r last = min last (endR r) := by
  unfold fin endR
  split
  · rfl
  · omega
end Ex
theorem fm_until {r : Rm.Ru} (h : Rm.fm r = true) : r.has = true → -1000000000000 ≤ r.ua ∧ r.ua ≤ 1000000000000 := by
  intro hh
  unfold Rm.fm Rm.fmU at h
  simp only [Bool.and_eq_true, hh, if_true] at h
  have := h.1.1.2.1.2
  unfold Va.rt at this
  rcases ho : Clk.okB r.ua
  · rw [ho] at this; simp at this
  · have := Clk.okB_iff.1 ho; omega
set_option maxRecDepth 100000 in
set_option maxHeartbeats 4000000 in
theorem follF_any (bp : Nat) (e : Int) (w : World) :
    Calls Tryz.prog 59 #[.pointer (some ⟨bp, 0, none⟩), .int .i64 e] w fun x w' =>
      x = .returned (.func (.func 93) #[] #[.pointer (some ⟨w.heap.size, 0, none⟩), .pointer (some ⟨w.heap.size + 1, 0, none⟩)]) ∧ Gr w w' ∧ w'.heap.size = w.heap.size + 2 ∧
      w'.cell? ⟨w.heap.size, 0, none⟩ = some (.pointer (some ⟨bp, 0, none⟩)) ∧ w'.cell? ⟨w.heap.size + 1, 0, none⟩ = some (.int .i64 e) := by
  have g1 : Gr w (w.alloc (.cells #[.pointer (some ⟨bp, 0, none⟩)] 50)) := (Gr.refl w).allocO _
  have z1 : (w.alloc (.cells #[.pointer (some ⟨bp, 0, none⟩)] 50)).heap.size = w.heap.size + 1 := by simp
  have x1 : (w.alloc (.cells #[.pointer (some ⟨bp, 0, none⟩)] 50)).cell? ⟨w.heap.size, 0, none⟩ = some (.pointer (some ⟨bp, 0, none⟩)) := by simp
  have g2 : Gr (w.alloc (.cells #[.pointer (some ⟨bp, 0, none⟩)] 50)) ((w.alloc (.cells #[.pointer (some ⟨bp, 0, none⟩)] 50)).alloc (.cells #[.int .i64 e] 2)) := (Gr.refl _).allocO _
  have x2 : ((w.alloc (.cells #[.pointer (some ⟨bp, 0, none⟩)] 50)).alloc (.cells #[.int .i64 e] 2)).cell? ⟨w.heap.size + 1, 0, none⟩ = some (.int .i64 e) := by rw [← z1]; simp
  have H := Lib.hid (And.intro (g1.trans g2) (And.intro (show ((w.alloc (.cells #[.pointer (some ⟨bp, 0, none⟩)] 50)).alloc (.cells #[.int .i64 e] 2)).heap.size = w.heap.size + 2 by simp) (And.intro (gr_cell g2 x1) x2)))
  clear g1 z1 x1 g2 x2
  go_enter Tryz.func59, Tryz.ntmps59
  go_wp2
  go_ret
  exact ⟨rfl, H.out⟩
set_option maxRecDepth 100000 in
set_option maxHeartbeats 16000000 in
theorem exp_seq (V : Rm.Rv) (Bg last : Int) (bB bL bR : Nat) (w : World) (Kr : Nat → Prop) (B0 : Nat)
    (h1 : w.cell? ⟨bB, 0, none⟩ = some (.int .i64 Bg)) (h2 : w.cell? ⟨bL, 0, none⟩ = some (.int .i64 last)) (h3 : RBx w bR V) (hM : RuM w B0 V) (hB : B0 ≤ w.heap.size)
    (k1 : Kr bB) (k2 : Kr bL) (k3 : Kr bR) (kB : ∀ k, k < B0 → Kr k) (hKr : ∀ k, Kr k → k < w.heap.size)
    (hdn : V.day.n ≤ 140737488355328) (hn : ∀ i, i < 8 → (V.sl i).n ≤ 1000000) (hf : Rm.fm V.r = true) (hb : Clk.okB Bg = true) (hl : last ≤ 9223372036854775807) :
    SeqE 5 Tryz.prog 58 #[.pointer (some ⟨bB, 0, none⟩), .pointer (some ⟨bL, 0, none⟩), .pointer (some ⟨bR, 0, none⟩)] encInt Kr (Ex.expL V.r Bg last) w := by
  intro lp J Jx W hg hJ hJx hY h0
  replace h1 := gr_cell hg h1
  replace h2 := gr_cell hg h2
  replace h3 := h3.gr hg
  replace hM := hM.keep (hg.below.mono hB)
  replace hKr : ∀ k, Kr k → k < W.heap.size := fun k h => Nat.lt_of_lt_of_le (hKr k h) hg.lt
  replace hB := Nat.le_trans hB hg.lt
  have HXS := Lib.hid (show Ex.expL V.r Bg last = if last < Bg then [] else Bg :: Ex.rest V.r Bg (Ex.fin V.r last) 3652062 0 from rfl)
  obtain ⟨XS, hXS⟩ : ∃ XS, Ex.expL V.r Bg last = XS := ⟨_, rfl⟩
  rw [hXS] at hY HXS ⊢
  have HY := Lib.hid hY
  have HJ := Lib.hid (And.intro hJ hJx)
  have H0 := Lib.hid h0
  clear hY hJ hJx h0 hXS hg
  refine callsIn_of_wp_marks Tryz.func58 rfl trivial ?_ rfl
  simp only [Tryz.ntmps58, List.size_toArray, List.length_cons, List.length_nil, Nat.reduceAdd, Nat.reduceSub, Array.replicate_succ, Array.replicate_zero, List.push_toArray, List.append_toArray, List.nil_append, List.cons_append]
  have hga : Gr W (W.alloc (.cells #[.func (.yield lp) #[] #[]] 34)) := (Gr.refl W).allocO _
  have cy : (W.alloc (.cells #[.func (.yield lp) #[] #[]] 34)).cell? ⟨W.heap.size, 0, none⟩ = some (.func (.yield lp) #[] #[]) := by simp
  have hz0 : (W.alloc (.cells #[.func (.yield lp) #[] #[]] 34)).heap.size = W.heap.size + 1 := by simp
  have c1 := gr_cell hga h1
  have c2 := gr_cell hga h2
  have hJ0 : J (Gw (fun _ => False) W (W.alloc (.cells #[.func (.yield lp) #[] #[]] 34))) [] (W.alloc (.cells #[.func (.yield lp) #[] #[]] 34)) := HJ.out.1 _ _ _ _ H0.out (hga.sm _)
  have hE0 : ∀ x, Gw (fun _ => False) W (W.alloc (.cells #[.func (.yield lp) #[] #[]] 34)) x → W.heap.size ≤ x ∧ x < (W.alloc (.cells #[.func (.yield lp) #[] #[]] 34)).heap.size := fun x hx => by
    rcases hx with hx | hx
    · exact hx.elim
    · exact hx
  have hEy : Gw (fun _ => False) W (W.alloc (.cells #[.func (.yield lp) #[] #[]] 34)) W.heap.size := .inr ⟨Nat.le_refl _, by omega⟩
  have hM0 := hM.keep (hga.below.mono hB)
  have h30 := h3.gr hga
  have hB0 := Nat.le_trans hB hga.lt
  clear hM h3 h1 h2 hB
  by_cases hlt : last < Bg
  · have hx : XS = [] := by rw [HXS.out, if_pos hlt]
    have HA := Lib.hid (And.intro hJ0 hE0)
    clear hJ0 hE0 hEy hM0 h30 H0
    gi_wp2
    all_goals first
      | exact absurd ‹some undef = some (Value.bool _)› (by intro h; injection h with h; cases h)
      | (refine ⟨fun _ h => (by cases h), ?_⟩; gi_wp2; exact ⟨_, results_none rfl _ _ _, ⟨_, rfl⟩, _, HA.out.2, .inl (by rw [hx]; exact HA.out.1)⟩)
  · have hx : XS = Bg :: Ex.rest V.r Bg (min last (endR V.r)) 3652062 0 := by rw [HXS.out, if_neg hlt, Ex.fin_end hl]
    have hq : [] ++ [Bg] <+: XS := by rw [hx]; exact ⟨_, rfl⟩
    obtain ⟨fn, tmps, assign, body, hy, hR⟩ := yield_deep 4 (HY.out _ [] Bg _ hJ0 hE0 hq)
    try dsimp only at hy
    have hw0 := hga.lt
    have HA := Lib.hid (And.intro hM0 (And.intro h30 (And.intro hE0 (And.intro hEy (And.intro hB0 (And.intro cy hq))))))
    clear hM0 h30 hE0 hEy hB0 hJ0 hq H0
    gi_wp2
    refine hR.mono ?_
    rintro e9 W5 ⟨hs5, (⟨rfl, hj5⟩ | ⟨rfl, hx5⟩)⟩
    · clear hy hR
      have cB := hs5.cell (a := ⟨bB, 0, none⟩) (.inr k1) c1
      have cL := hs5.cell (a := ⟨bL, 0, none⟩) (.inr k2) c2
      obtain ⟨hM0, h30, hE0, hEy, hB0, cy0, hq⟩ := HA.out
      have hR5 := h30.sm hs5 (.inr k3)
      have cy5 := hs5.cell (a := ⟨W.heap.size, 0, none⟩) (.inl hEy) cy0
      have hM5 := hM0.keep (hs5.below (fun k h => .inr (kB k h)) hB0)
      have hz5 := hs5.size
      have HW := Lib.hid (And.intro hE0 (And.intro hEy (And.intro hB0 (And.intro hj5 (And.intro hz5 hz0)))))
      have cP := fun w' (g : Gr W5 w') => pattern_any V Bg w' ((hM5.more (Nat.le_trans hB0 hz5)).gr g) hf hb
      have cE := fun w' => end_any V w' (fm_until hf)
      have HR5 := Lib.hid hR5
      clear hs5 hE0 hEy hB0 hj5 hz5 hM0 h30 hq c1 c2 cy cy0 hz0 hga HA hR5
      gi_wp2
      refine wpIn_wide.2 ?_
      refine Code.wp_mono (Q := fun x a w' => x = .normal ∧ ∃ (bp tb : Nat) (A : Option Addr) (n c : Nat), a = { tmps := #[.func (.yield lp) #[] #[], .pointer (some ⟨bB, 0, none⟩), .pointer (some ⟨bL, 0, none⟩), .pointer (some ⟨bR, 0, none⟩), .pointer (some ⟨W.heap.size, 0, none⟩), undef, .int .i64 Bg, .int .i64 last, .bool false, .bool false, .func (.yield lp) #[] #[], .int .i64 Bg, .bool true, .bool false, .bool false,
            .agg V.val, .int .i64 Bg, .pointer (some ⟨bp, 0, none⟩), .int .i64 last, .agg V.val, .int .i64 (endR V.r), .int .i64 (min last (endR V.r)), .func (.func 93) #[] #[.pointer (some ⟨tb, 0, none⟩), .pointer (some ⟨tb + 1, 0, none⟩)], undef, undef, undef, undef, undef], defers := [] } ∧
          Gr W5 w' ∧ w'.heap.size = tb + 2 ∧ W5.heap.size ≤ tb ∧ W5.heap.size ≤ bp ∧ w'.cell? ⟨tb, 0, none⟩ = some (.pointer (some ⟨bp, 0, none⟩)) ∧ w'.cell? ⟨tb + 1, 0, none⟩ = some (.int .i64 (min last (endR V.r))) ∧ PatB w' bp V Bg (Bg / 86400) A n c ∧ NumK w' (fun k => W5.heap.size ≤ k) A n (Ex.secs V.r (Bg % 86400))) ?rest ?region
      case region =>
        refine wp_region_S 8 (fun w' : World => Gr W5 w') (by kernel_rfl) rfl ?_
        have hS0 : (fun w' : World => Gr W5 w') W5.drew := (Gr.refl _).drew
        generalize W5.drew = W1 at *
        refine WkS.take (i := 0) (v := .agg V.val) (at_lit rfl) (by kernel_rfl) (by kernel_rfl) (by kernel_rfl) rfl (fun _ _ _ h => by first | exact h | (cases h.1)) (fun w' hw => exec_rule (.tmp 3) rfl rfl (HR5.out.gr hw)) hS0 ?_
        try simp only [Act.put, List.setIfInBounds_toArray, List.set_cons_zero, List.set_cons_succ]
        refine WkS.take (i := 1) (v := ?_) (at_lit rfl) (by kernel_rfl) (by kernel_rfl) (by kernel_rfl) rfl (fun _ _ _ h => by first | exact h | (cases h.1)) ?_ hS0 ?_
        rotate_left 1
        · intro w' hw
          have k0 := gr_cell hw cB
          clear hw
          go_simp
          first | done | rfl
        try simp only [Act.put, List.setIfInBounds_toArray, List.set_cons_zero, List.set_cons_succ]
        refine WkS.take (i := 3) (v := ?_) (at_lit rfl) (by kernel_rfl) (by kernel_rfl) (by kernel_rfl) rfl (fun _ _ _ h => by first | exact h | (cases h.1)) ?_ hS0 ?_
        rotate_left 1
        · intro w' hw
          have k0 := gr_cell hw cL
          clear hw
          go_simp
          first | done | rfl
        try simp only [Act.put, List.setIfInBounds_toArray, List.set_cons_zero, List.set_cons_succ]
        refine WkS.take (i := 4) (v := .agg V.val) (at_lit rfl) (by kernel_rfl) (by kernel_rfl) (by kernel_rfl) rfl (fun _ _ _ h => by first | exact h | (cases h.1)) (fun w' hw => exec_rule (.tmp 3) rfl rfl (HR5.out.gr hw)) hS0 ?_
        try simp only [Act.put, List.setIfInBounds_toArray, List.set_cons_zero, List.set_cons_succ]
        refine WkS.these (is := [2]) (by kernel_rfl) (by simp) (fun i hi => ?_)
        obtain rfl := List.mem_singleton.1 hi
        clear hi
        refine WkS.op (at_lit rfl) rfl (fun K hK => ?_)
        go_simp
        refine (cP _ hS0).mono ?_
        rintro e2 w2 ⟨bp, A, n, c, rfl, hg2, hbp, hpb, hnk⟩
        have hS1 : Gr W5 w2 := hS0.trans hg2
        have hbp2 : W5.heap.size ≤ bp := Nat.le_trans hS0.lt hbp
        have hnk2 := Lib.hid (hnk.out.weak (K' := fun k => W5.heap.size ≤ k) (fun k _ h => Nat.le_trans hS0.lt h))
        refine hK _ _ ⟨hS1, ?_⟩
        clear hK K hg2 hnk hbp
        try simp only [Act.put, List.setIfInBounds_toArray, List.set_cons_zero, List.set_cons_succ]
        refine WkS.these (is := [5]) (by kernel_rfl) (by simp) (fun i hi => ?_)
        obtain rfl := List.mem_singleton.1 hi
        clear hi
        refine WkS.op (at_lit rfl) rfl (fun K hK => ?_)
        go_simp
        refine (cE _).mono ?_
        rintro e3 w3 ⟨rfl, hg3⟩
        have hS2 : Gr W5 w3 := hS1.trans hg3
        have hpb3 := Lib.hid (hpb.out.gr hg3)
        have hnk3 := Lib.hid (hnk2.out.sm (hg3.sm (fun _ => True)) (fun _ _ _ => trivial))
        refine hK _ _ ⟨hS2, ?_⟩
        clear hK K hg3 hpb hnk2
        try simp only [Act.put, List.setIfInBounds_toArray, List.set_cons_zero, List.set_cons_succ]
        refine WkS.these (is := [6]) (by kernel_rfl) (by simp) (fun i hi => ?_)
        obtain rfl := List.mem_singleton.1 hi
        clear hi
        refine WkS.op (at_lit rfl) rfl (fun K hK => ?_)
        go_simp
        refine hK _ _ ⟨hS2, ?_⟩
        clear hK K
        try simp only [Act.put, List.setIfInBounds_toArray, List.set_cons_zero, List.set_cons_succ]
        refine WkS.these (is := [7]) (by kernel_rfl) (by simp) (fun i hi => ?_)
        obtain rfl := List.mem_singleton.1 hi
        clear hi
        refine WkS.op (at_lit rfl) rfl (fun K hK => ?_)
        go_simp
        refine (follF_any bp _ _).mono ?_
        rintro e4 w4 ⟨rfl, hg4, hz4, x1, x2⟩
        refine hK _ _ ⟨hS2.trans hg4, ?_⟩
        clear hK K
        refine WkS.done (by kernel_rfl) ?_
        exact ⟨rfl, bp, w3.heap.size, A, n, c, rfl, hS2.trans hg4, hz4, hS2.lt, hbp2, x1, x2, hpb3.out.gr hg4, hnk3.out.sm (hg4.sm (fun _ => True)) (fun _ _ _ => trivial)⟩
      case rest =>
        rintro x a w7 ⟨rfl, bp, tb, A, n, c, rfl, hg7, z7, htb, hbp, x1, x2, hP, hN⟩
        obtain ⟨hE0, hEy, hB0, hj5, hz5, hz0⟩ := HW.out
        have hj7 := HJ.out.1 _ _ _ _ hj5 (hg7.sm _)
        have cy7 := gr_cell hg7 cy5
        have hM7 := hM5.keep (hg7.below.mono (Nat.le_trans hB0 hz5))
        have hE5 : ∀ x, Gw (fun _ => False) W (W.alloc (.cells #[.func (.yield lp) #[] #[]] 34)) x → W.heap.size ≤ x ∧ x < W5.heap.size := fun x hx => by have := hE0 x hx; omega
        generalize Gw (fun _ => False) W (W.alloc (.cells #[.func (.yield lp) #[] #[]] 34)) = E5 at *
        have hE7 : ∀ x, Gw E5 W5 w7 x → W.heap.size ≤ x ∧ x < w7.heap.size := fun x hx => by
          have := hg7.lt
          rcases hx with hx | hx
          · have := hE5 x hx; omega
          · omega
        have hEy7 : Gw E5 W5 w7 W.heap.size := .inl hEy
        have hEn : ∀ k, W5.heap.size ≤ k → k < w7.heap.size → Gw E5 W5 w7 k := fun k h1 h2 => .inr ⟨h1, h2⟩
        have hWz : W.heap.size ≤ W5.heap.size := by omega
        have hzz7 := hg7.lt
        have hbpl := World.block_lt_of_cell? _ _ hP.c17
        generalize Gw E5 W5 w7 = E7 at *
        have hKin : ∀ k, (Kr k ∨ (W5.heap.size ≤ k ∧ k < w7.heap.size)) → k < w7.heap.size := fun k h => by
          rcases h with h | h
          · have := hKr k h; omega
          · exact h.2
        have hseq := foll_seq V bp Bg (min last (endR V.r)) A n c tb (tb + 1) w7 (fun k => Kr k ∨ (W5.heap.size ≤ k ∧ k < w7.heap.size)) B0 x1 x2 hP hM7 (by omega) (hN.weak (fun k h1 h2 => .inr ⟨h2, h1⟩)) (.inr ⟨htb, by omega⟩) (.inr ⟨by omega, by omega⟩) (.inr ⟨hbp, hbpl⟩) (fun k h => .inl (kB k h)) hKin hdn hn hf hb
        have HH := Lib.hid (And.intro hseq (And.intro hKin (And.intro hj7 (And.intro hE7 (And.intro hEy7 (And.intro hEn cy7))))))
        clear hseq hKin hj7 hE7 hEy7 hEn hE5 hE0 hEy hj5 cP cE HW hP hN hM7 hM5 x1 x2 cB cL cy5 cy7
        gi_wp2
        obtain ⟨hseq, hKin, hj7, hE7, hEy7, hEn, cy7⟩ := HH.out
        refine rangeE (n := 5) (gf := 93) (lb := #[.pointer (some ⟨tb, 0, none⟩), .pointer (some ⟨tb + 1, 0, none⟩)]) rfl (enters_of Tryz.func93 (by kernel_rfl) rfl) (fun _ => rfl) hseq hKin
          (fun E' pi W' => (∀ x, E' x → w7.heap.size ≤ x) ∧ w7.heap.size ≤ W'.heap.size ∧ J (fun x => E7 x ∨ E' x) (Bg :: pi) W' ∧ W'.cell? ⟨W.heap.size, 0, none⟩ = some (.func (.yield lp) #[] #[]))
          (fun cc E' pi W' => cc = .ret ∧ (∀ x, E' x → w7.heap.size ≤ x) ∧ w7.heap.size ≤ W'.heap.size ∧ Jx (fun x => E7 x ∨ E' x) (Bg :: pi) W')
          ?hI ?hIx ⟨fun _ h => h.elim, Nat.le_refl _, by rw [or_falseE]; exact hj7, cy7⟩
          (fun x => { tmps := #[.func (.yield lp) #[] #[], .pointer (some ⟨bB, 0, none⟩), .pointer (some ⟨bL, 0, none⟩), .pointer (some ⟨bR, 0, none⟩), .pointer (some ⟨W.heap.size, 0, none⟩), .int .i64 x, .int .i64 Bg, .int .i64 last, .bool false, .bool false, .func (.yield lp) #[] #[], .int .i64 Bg, .bool true, .bool false, .bool false,
            .agg V.val, .int .i64 Bg, .pointer (some ⟨bp, 0, none⟩), .int .i64 last, .agg V.val, .int .i64 (endR V.r), .int .i64 (min last (endR V.r)), .func (.func 93) #[] #[.pointer (some ⟨tb, 0, none⟩), .pointer (some ⟨tb + 1, 0, none⟩)], .int .i64 x, undef, undef, undef, undef], defers := [] }) ?assign ?body ?done ?stop
        case hI =>
          rintro E' s A1 B1 ⟨e1, e2, e3, e4⟩ hs
          refine ⟨fun x hx => ?_, Nat.le_trans e2 hs.size, Ab.inner HJ.out.1 _ _ _ _ _ e3 hs, hs.cell (fun h => by have := e1 W.heap.size h; have := hE7 _ hEy7; omega) e4⟩
          rcases hx with hx | hx
          · exact e1 x hx
          · omega
        case hIx =>
          rintro cc E' s A1 B1 ⟨rfl, e1, e2, e3⟩ hs
          refine ⟨rfl, fun x hx => ?_, Nat.le_trans e2 hs.size, Ab.inner HJ.out.2 _ _ _ _ _ e3 hs⟩
          rcases hx with hx | hx
          · exact e1 x hx
          · omega
        case assign =>
          intro lq x W' K hK
          gi_wp2
          exact hK
        case body =>
          rintro lq E' pi x Wb hE' hzb ⟨e1, e2, hj, hy0⟩ ⟨t, ht⟩
          have hq : Bg :: pi ++ [x] <+: XS := by
            rw [hx, ← ht]
            exact ⟨t, by simp⟩
          have hEq : ∀ y, (E7 y ∨ E' y) → W.heap.size ≤ y ∧ y < Wb.heap.size := fun y hy => by
            rcases hy with hy | hy
            · have := hE7 y hy; omega
            · have := hE' y hy; omega
          obtain ⟨fn, tmps, assign, body, hy, hR⟩ := yield_deep 2 (HY.out (fun y => E7 y ∨ E' y) (Bg :: pi) x Wb hj hEq hq)
          try dsimp only at hy
          have HQ := Lib.hid (And.intro hq (And.intro e1 (And.intro e2 (And.intro hEy7 hEn))))
          clear hq hEq hseq hKin hj7 hE7 hEn hEy7 HH hj e1 e2 hE' cy7
          gi_wp2
          refine hR.mono ?_
          rintro e9 W9 ⟨hs5, (⟨rfl, hj5⟩ | ⟨rfl, hx5⟩)⟩
          · have HA := Lib.hid (show Sm (fun k => E' k ∨ (Kr k ∨ (W5.heap.size ≤ k ∧ k < w7.heap.size))) Wb W9 ∧ (∀ x, E' x → w7.heap.size ≤ x) ∧ w7.heap.size ≤ W9.heap.size ∧ J (fun x => E7 x ∨ E' x) (Bg :: (pi ++ [x])) W9 ∧ W9.cell? ⟨W.heap.size, 0, none⟩ = some (.func (.yield lp) #[] #[]) by
              obtain ⟨hq, e1, e2, hEy7, hEn⟩ := HQ.out
              refine ⟨hs5.weak (fun k h => ?_), e1, Nat.le_trans e2 hs5.size, hj5, hs5.cell (.inl (.inl hEy7)) hy0⟩
              rcases h with h | h | h
              · exact .inl (.inr h)
              · exact .inr h
              · exact .inl (.inl (hEn k h.1 h.2)))
            clear hs5 hj5 hy hR hy0
            gi_wp2
            exact HA.out
          · have HA := Lib.hid (show Sm (fun k => E' k ∨ (Kr k ∨ (W5.heap.size ≤ k ∧ k < w7.heap.size))) Wb W9 ∧ (∀ x, E' x → w7.heap.size ≤ x) ∧ w7.heap.size ≤ W9.heap.size ∧ Jx (fun x => E7 x ∨ E' x) (Bg :: (pi ++ [x])) W9 by
              obtain ⟨hq, e1, e2, hEy7, hEn⟩ := HQ.out
              refine ⟨hs5.weak (fun k h => ?_), e1, Nat.le_trans e2 hs5.size, hx5⟩
              rcases h with h | h | h
              · exact .inl (.inr h)
              · exact .inr h
              · exact .inl (.inl (hEn k h.1 h.2)))
            clear hs5 hx5 hy hR hy0
            gi_wp2
            exact ⟨HA.out.1, rfl, HA.out.2⟩
        case done =>
          rintro D E' W' rfl hED hE' ⟨e1, e2, hj, hy0⟩ hK
          have HA := Lib.hid (And.intro hED (And.intro hE' (And.intro e2 (And.intro hj hE7))))
          clear hED hE' e1 e2 hj hy0 hseq hKin hj7 hE7 hEn hEy7 HH cy7
          go_wp2
          show bodyPostM Fence.wide 5 Tryz.prog Tryz.f58 _ .ret _ _
          refine leave_mark rfl hK (results_none rfl _ _ _) ?_
          obtain ⟨hED, hE', e2, hj, hE7⟩ := HA.out
          refine ⟨⟨_, rfl⟩, fun k => E7 k ∨ E' k, fun k hk => ?_, .inl ?_⟩
          · have e : (W'.putObj w7.heap.size (.deferred none)).heap.size = W'.heap.size := by simp
            rw [e]
            rcases hk with hk | hk
            · have := hE7 k hk; omega
            · have := hE' k hk; omega
          · rw [hx]
            exact Ab.same HJ.out.1 _ _ _ _ hj (Sm.putObj (l := w7.heap.size) _ W' (.deferred none) (fun hn => hn (.inr hED))) (by simp)
        case stop =>
          rintro D cc E' pi W' rfl hED hE' hpre ⟨rfl, e1, e2, hj⟩ hK
          have HA := Lib.hid (And.intro hED (And.intro hE' (And.intro e2 (And.intro hj (And.intro hE7 hpre)))))
          clear hED hE' e1 e2 hj hseq hKin hj7 hE7 hEn hEy7 HH cy7 hpre
          refine wpIn_wide.2 ?_
          go_wp2
          refine leave_mark rfl hK (results_none rfl _ _ _) ?_
          obtain ⟨hED, hE', e2, hj, hE7, hpre⟩ := HA.out
          refine ⟨⟨_, rfl⟩, fun k => E7 k ∨ E' k, fun k hk => ?_, .inr ⟨Bg :: pi, by rw [hx]; exact (List.prefix_cons_inj _).2 hpre, ?_⟩⟩
          · have e : (W'.putObj w7.heap.size (.deferred none)).heap.size = W'.heap.size := by simp
            rw [e]
            rcases hk with hk | hk
            · have := hE7 k hk; omega
            · have := hE' k hk; omega
          · exact Ab.same HJ.out.2 _ _ _ _ hj (Sm.putObj (l := w7.heap.size) _ W' (.deferred none) (fun hn => hn (.inr hED))) (by simp)
    · clear hy hR
      have HS := Lib.hid hs5
      clear hs5
      gi_wp2
      exact ⟨_, results_none rfl _ _ _, ⟨_, rfl⟩, _, fun x hx => by
        have := HA.out.2.2.1 x hx
        have := HS.out.size
        omega, .inr ⟨_, HA.out.2.2.2.2.2.2, hx5⟩⟩
end Go.Proofs.YtmbmkldcedkbmaaGreat
namespace Go.Proofs.YtmbmkldcedkbmaaGreat
open Go.RowKit Go.Shelf
attribute [local go_sem] Oper.semAt_some

theorem info_i64 : (Tryz.prog.info? 2).map (fun i => (i.zero, i.size, i.bytes)) = some (some (.int .i64 0), 1, 8) := by kernel_rfl
/- the list that a loop over an iterator appends to: its box lies at b -/
structure ColI (E : Nat → Prop) (pre : List Int) (W' : World) (b z0 : Nat) : Prop where
  e : ∀ k, E k → z0 ≤ k
  f : W'.frozen? ⟨b, 0, none⟩ = false
  z : z0 ≤ W'.heap.size
  c : ∃ A n c, W'.cell? ⟨b, 0, none⟩ = some (.slice A n c) ∧ OwnV W' z0 2 A n c (ivs pre) ∧ ∀ g, ownB A = some g → ¬ E g
theorem ColI.ab {E : Nat → Prop} {pre : List Int} {A1 B1 : World} {b z0 : Nat} (h : ColI E pre A1 b z0) (hb : b < z0) (hs : Sm (fun k => ¬ E k) A1 B1) : ColI (Gw E A1 B1) pre B1 b z0 := by
  obtain ⟨A, n, c, h1, h2, h3⟩ := h.c
  have hbE : ¬ E b := fun he => by have := h.e b he; omega
  refine ⟨fun k hk => ?_, (hs.frozen (World.block_lt_of_cell? _ _ h1) hbE).trans h.f, Nat.le_trans h.z hs.size, A, n, c, hs.cell hbE h1, h2.smo hs h3, fun g hg => ?_⟩
  · rcases hk with hk | hk
    · exact h.e k hk
    · have := h.z; omega
  · intro hn
    rcases own_at h2 with rfl | ⟨g2, rfl, _, h4⟩
    · cases hg
    · have e : g2 = g := by simpa [ownB] using hg
      rcases hn with hn | hn
      · exact h3 g hg hn
      · omega
theorem ColI.push {E : Nat → Prop} {pre : List Int} {Wb w5 : World} {b z0 : Nat} {A : Option Addr} {n : Nat} {g cap : Nat} {x : Int} (h : ColI E pre Wb b z0) (hb : b < z0) (h1 : Wb.cell? ⟨b, 0, none⟩ = some (.slice A n cap)) (h3 : ∀ g, ownB A = some g → ¬ E g ∧ z0 ≤ g)
    (hE : ∀ k, E k → k < Wb.heap.size) {cap5 : Nat} (ha : ApR Wb w5 z0 2 A n (ivs pre) (.int .i64 x) g cap5) : ColI E (pre ++ [x]) (w5.setCell ⟨b, 0, none⟩ (.slice (some ⟨g, 0, none⟩) (n + 1) cap5)) b z0 := by
  have hgb : g ≠ b ∧ z0 ≤ g := by
    rcases ha.lies with h4 | h4
    · have := (h3 g h4).2; omega
    · have := h.z; omega
  have hc5 : w5.cell? ⟨b, 0, none⟩ = some (.slice A n cap) := ha.sm.cell (fun e => by have := (h3 b e.symm).2; omega) h1
  have hz : (w5.setCell ⟨b, 0, none⟩ (.slice (some ⟨g, 0, none⟩) (n + 1) cap5)).heap.size = w5.heap.size := by simp [World.setCell]
  refine ⟨h.e, ?_, by rw [hz]; exact Nat.le_trans h.z ha.sm.size, _, _, _, World.cell?_setCell_same _ _ _ hc5, ?_, ?_⟩
  · rw [World.frozen?_setCell]
    exact (ha.sm.frozen (World.block_lt_of_cell? _ _ h1) (fun e => by have := (h3 b e.symm).2; omega)).trans h.f
  · have := ha.own
    rw [show ivs (pre ++ [x]) = ivs pre ++ [.int .i64 x] from ivs_app _ _]
    exact this.smo (Sm.setCell (fun k => k ≠ b) _ _ _ (fun h => h rfl)) (fun k hk => by
      have : k = g := by simpa [ownB] using hk.symm
      omega)
  · intro g2 hg2 he
    have e : g2 = g := by simpa [ownB] using hg2.symm
    subst e
    rcases ha.lies with h4 | h4
    · exact (h3 g2 h4).1 he
    · have := hE g2 he; omega
set_option maxRecDepth 100000 in
set_option maxHeartbeats 8000000 in
theorem appSeq_any (gf : Nat) (lb : Array Value) (xs : List Int) (w : World) (heg : ∀ args w, (callFunc gf args).run Tryz.prog w = .ok (.enter gf args) w) (hseq : ∀ w', Gr w w' → SeqE 3 Tryz.prog gf lb encInt (fun k => k < w.heap.size) xs w') (hlen : xs.length ≤ 999999999999) :
    Calls Tryz.prog 40 #[.slice none 0 0, .func (.func gf) #[] lb] w fun e w' => ∃ A n c, e = .returned (.slice A n c) ∧ Gr w w' ∧ Hid (OwnV w' w.heap.size 2 A n c (ivs xs)) := by
  have hg0 : Gr w (w.alloc (.cells #[.slice none 0 0] 30)) := (Gr.refl w).allocO _
  have c0 : (w.alloc (.cells #[.slice none 0 0] 30)).cell? ⟨w.heap.size, 0, none⟩ = some (.slice none 0 0) := by simp
  have f0 : (w.alloc (.cells #[.slice none 0 0] 30)).frozen? ⟨w.heap.size, 0, none⟩ = false := box_free (Gr.refl _) 0
  have hz0 : (w.alloc (.cells #[.slice none 0 0] 30)).heap.size = w.heap.size + 1 := by simp
  have hsq := hseq _ hg0
  have HB0 := Lib.hid hg0.below
  have HSQ := Lib.hid (And.intro hsq (And.intro heg hlen))
  clear hsq heg hseq hlen hg0
  refine (callsIn_wide (n := 4)).1 ?_
  refine callsIn_of_wp_marks Tryz.func40 rfl trivial ?_ rfl
  refine wpIn_wide.2 ?_
  simp only [Tryz.ntmps40, List.size_toArray, List.length_cons, List.length_nil, Nat.reduceAdd, Nat.reduceSub, Array.replicate_succ, Array.replicate_zero, List.push_toArray, List.append_toArray, List.nil_append, List.cons_append]
  go_wp2
  generalize w.alloc (.cells #[.slice none 0 0] 30) = w1 at *
  obtain ⟨hsq, heg, hlen⟩ := HSQ.out
  refine (wpIn_wide (n := 4)).1 ?_
  refine rangeE (n := 4) (gf := gf) (lb := lb) rfl heg (fun _ => rfl) hsq (fun k hk => by omega)
    (fun E pre W' => ColI E pre W' w.heap.size w1.heap.size ∧ Below w.heap.size w W') (fun _ _ _ _ => False) ?hI (fun _ _ _ _ _ h _ => h.elim)
    ⟨⟨fun _ h => h.elim, f0, Nat.le_refl _, none, 0, 0, c0, OwnV.nil _ _ _, fun _ h => by cases h⟩, HB0.out⟩
    (fun x => { tmps := #[.slice none 0 0, .func (.func gf) #[] lb, .pointer (some ⟨w.heap.size, 0, none⟩), undef, .slice none 0 0, .int .i64 x, .func (.func gf) #[] lb, .int .i64 x, undef, undef, undef, undef, undef], defers := [] }) ?assign ?body ?done (fun _ _ _ _ _ _ _ _ _ h _ => h.elim)
  case hI =>
    rintro E s A1 B1 ⟨h, hb⟩ hs
    exact ⟨h.ab (by omega) hs, hb.trans (hs.below (fun k hk he => by have := h.e k he; omega) hb.size)⟩
  case assign =>
    intro lq x W' K hK
    gi_wp2
    exact hK
  case body =>
    rintro lq E pre x Wb hE hzb ⟨h, hb⟩ hpre
    have hle := hpre.length_le
    rw [List.length_append, List.length_singleton] at hle
    obtain ⟨A, n, c, h1, h2, h3⟩ := h.c
    have hln := ivs_len h2
    have h3' : ∀ g, ownB A = some g → ¬ E g ∧ w1.heap.size ≤ g := fun g hg => ⟨h3 g hg, by
      rcases own_at h2 with rfl | ⟨g2, rfl, h5, _⟩
      · cases hg
      · have e : g2 = g := by simpa [ownB] using hg
        omega⟩
    have hzz := h.z
    have HC := Lib.hid (And.intro h (And.intro hb (And.intro hE h3')))
    have h1f := h.f
    clear h hb hE h3 h3' hsq heg HSQ c0 f0 hpre
    gi_wp2_with (gi_at_builtin; refine apF Wb rfl (.tmp 8) (.tmp 10) 30 2 (.int .i64 0) Tryz.underlying30 info_i64 rfl rfl w1.heap.size A n c _ rfl h2 (.int .i64 x) rfl rfl (by omega) hzz ?_; intro g5 cap5 w5 hA5; have hc5 := hA5.sm.cell (a := ⟨w.heap.size, 0, none⟩) (fun e => by have := (HC.out.2.2.2 _ e.symm).2; dsimp only at this; omega) h1; have hf5 := (hA5.sm.frozen (a := ⟨w.heap.size, 0, none⟩) (World.block_lt_of_cell? _ _ h1) (fun e => by have := (HC.out.2.2.2 _ e.symm).2; dsimp only at this; omega)).trans h1f)
    obtain ⟨h, hb, hE, h3'⟩ := HC.out
    refine ⟨(hA5.sm.weak (fun k hk e => ?_)).trans (Sm.setCell _ _ _ _ (fun hk => ?_)), h.push (by omega) h1 h3' (fun k hk => (hE k hk).2) hA5, ?_⟩
    · have h9 := h3' k e.symm
      rcases hk with hk | hk
      · exact h9.1 hk
      · omega
    · rcases hk with hk | hk
      · have := h.e w.heap.size hk; omega
      · exact absurd hk (Nat.lt_irrefl _)
    · refine (hb.trans (hA5.sm.below (fun k hk e => by have := (h3' k e.symm).2; omega) hb.size)).setCell (p := ⟨w.heap.size, 0, none⟩) (Nat.le_refl _) _
  case done =>
    rintro D E W' rfl hED hE ⟨h, hb⟩ hK
    obtain ⟨A, n, c, h1, h2, h3⟩ := h.c
    clear hsq heg HSQ c0 f0
    have HH := Lib.hid (And.intro h2 (And.intro h3 (And.intro hb (And.intro hED (And.intro hE h)))))
    clear h2 h3 hb hED hE h
    go_wp2
    refine leave_mark rfl hK (results_tmp rfl _ _ _) ?_
    obtain ⟨h2, h3, hb, hED, hE, h⟩ := HH.out
    have hp : Sm (fun k => k ≠ w1.heap.size) W' (W'.putObj w1.heap.size (.deferred none)) := Sm.putObj _ _ _ (fun h => h rfl)
    refine ⟨A, n, c, rfl, ⟨hb.trans (hp.below (fun k hk => by omega) hb.size)⟩, Lib.hid ?_⟩
    have h9 := h2.smo hp (fun k hk e => h3 k hk (by rw [e]; exact hED))
    refine ⟨h9.1, ?_⟩
    rcases h9.2 with hn | ⟨g, cap, cur, hv, hb2, hh, rest⟩
    · exact .inl hn
    · exact .inr ⟨g, cap, cur, hv, by omega, hh, rest⟩
theorem tms_len (r : Rm.Ru) (db k b : Int) : (Ex.tms r db k (Ex.secs r b)).length ≤ 400000000000 := by
  refine Nat.le_trans (Ex.tms_sub r db k _).length_le ?_
  unfold Ex.all
  rw [Ex.flat_len]
  refine Nat.le_trans (Nat.mul_le_mul (List.length_filter_le _ _) (upto_secs r b)) ?_
  unfold Ex.days
  rw [List.length_map, List.length_range]
  have h : ((Mc.span r db k).2 + 1 - (Mc.span r db k).1).toNat ≤ 3652060 := by
    rcases Ex.span_day r db k with h | h
    · rw [h]; decide
    · omega
  calc ((Mc.span r db k).2 + 1 - (Mc.span r db k).1).toNat * 86400 ≤ 3652060 * 86400 := Nat.mul_le_mul_right _ h
    _ ≤ 400000000000 := by decide
theorem tms_any {r : Rm.Ru} {db k : Int} {ss : List Int} (hs : 0 ≤ r.st ∧ r.st ≤ 6) : Ex.tms r db k ss = Ex.picked r.pos ((Ex.dayL r db (Mc.span r db k).1 (Mc.span r db k).2).flatMap (Ex.ofDay ss)) := by
  by_cases h : k < 0 ∨ k % r.ivl ≠ 0
  · have e : Ex.dayL r db (Mc.span r db k).1 (Mc.span r db k).2 = [] := by
      unfold Ex.dayL
      rw [List.filter_eq_nil_iff]
      intro d hd
      rw [Ex.days_mem] at hd
      have := (Ex.span_num hs hd.1 hd.2).1
      unfold Mc.fits
      rw [this]
      simp only [Bool.and_eq_true, decide_eq_true_eq]
      omega
    unfold Ex.tms
    rw [if_pos h, e]
    unfold Ex.picked
    split <;> rfl
  · unfold Ex.tms
    rw [if_neg h, Ex.all_dayL]
set_option maxRecDepth 100000 in
set_option maxHeartbeats 8000000 in
theorem collect_any (gf : Nat) (lb : Array Value) (xs : List Int) (w : World) (heg : ∀ args w, (callFunc gf args).run Tryz.prog w = .ok (.enter gf args) w) (hseq : ∀ w', Gr w w' → SeqE 3 Tryz.prog gf lb encInt (fun k => k < w.heap.size) xs w') (hlen : xs.length ≤ 999999999999) :
    Calls Tryz.prog 22 #[.func (.func gf) #[] lb] w fun e w' => ∃ A n c, e = .returned (.slice A n c) ∧ Gr w w' ∧ Hid (OwnV w' w.heap.size 2 A n c (ivs xs)) := by
  have cA := appSeq_any gf lb xs w heg hseq hlen
  clear heg hseq hlen
  go_enter Tryz.func22, Tryz.ntmps22
  go_wp2_with fail
  refine cA.mono ?_
  rintro e w1 ⟨A, n, c, rfl, hg1, ho⟩
  go_wp2
  go_ret
  exact ⟨A, n, c, rfl, hg1, ho⟩
/- what Times returns: the list -/
def TmsR (V : Rm.Rv) (b k : Int) : List Int := if chk V.r b = 0 then Ex.tms V.r (b / 86400) k (Ex.secs V.r (b % 86400)) else []
set_option maxRecDepth 100000 in
set_option maxHeartbeats 16000000 in
theorem ptimes_any (V : Rm.Rv) (b k : Int) (w : World) (hM : RuM w w.heap.size V) (hdn : V.day.n ≤ 140737488355328) (hn : ∀ i, i < 8 → (V.sl i).n ≤ 1000000) :
    Calls Tryz.prog 9 #[.agg V.val, .int .i64 b, .int .i64 k] w fun e w' => ∃ A n c, e = .returned (.tuple #[.slice A n c, .int .i64 (chk V.r b)]) ∧ Gr w w' ∧ Hid (Nums w' w'.heap.size A n (TmsR V b k)) := by
  have HX := Lib.hid (RBx.now w V 27)
  have hg : Gr w (w.alloc (.cells V.val 27)) := (Gr.refl w).allocO _
  have cC := fun w' (h : Gr w w') => check_any V b w' (hM.gr h)
  have hR : TmsR V b k = if chk V.r b = 0 then Ex.tms V.r (b / 86400) k (Ex.secs V.r (b % 86400)) else [] := rfl
  generalize TmsR V b k = RS at *
  by_cases hc : chk V.r b = 0
  · have hfb : Rm.fm V.r = true ∧ Clk.okB b = true := by
      unfold chk at hc
      split at hc
      · cases hc
      · split at hc
        · cases hc
        · rename_i h1 h2; exact ⟨by simpa using h1, by simpa using h2⟩
    obtain ⟨hf, hb⟩ := hfb
    rw [hc] at cC ⊢
    rw [if_pos hc] at hR
    have hdb := Clk.okB_day hb
    obtain ⟨f1, ⟨i1, i2⟩, f3⟩ := fm_head hf
    have hsp := Ex.secs_pos (r := V.r) (b := b % 86400) hf (by omega) (by omega)
    have hsl := upto_secs V.r (b % 86400)
    have htl := tms_len V.r (b / 86400) k (b % 86400)
    have hss : ∀ s ∈ Ex.secs V.r (b % 86400), 0 ≤ s ∧ s < 86400 := fun s hs => Ex.secs_bd s hs
    have hta := tms_any (r := V.r) (db := b / 86400) (k := k) (ss := Ex.secs V.r (b % 86400)) f3
    have cP := fun w' (h : Gr w w') => pattern_any V b w' (hM.gr h) hf hb
    have hspc := spE_cases2 V.r (b / 86400) k
    have hfar : ¬ (-3652059 ≤ k ∧ k ≤ 3652059) → Mc.spE V.r (b / 86400) k = (0, 0, 2) := fun h => by
      rcases Ex.spE_cases V.r (b / 86400) k with h1 | h1
      · exact h1
      · exfalso
        obtain ⟨z1, z2, z3⟩ := Ex.spE_ok h1.1
        obtain ⟨n1, n2⟩ := Ex.span_num (r := V.r) (b := b / 86400) (k := k) f3 (Int.le_refl _) z3
        obtain ⟨d1, d2⟩ := Cal.dayB_iff.1 n2
        obtain ⟨d3, d4⟩ := Cal.dayB_iff.1 hdb
        have y1 := Cal.yr_bd d1 d2
        have y2 := Cal.yr_bd d3 d4
        have q1 := (Ex.mon_spec (Mc.span V.r (b / 86400) k).1).1
        have q2 := (Ex.mon_spec (b / 86400)).1
        unfold Mc.per at n1
        split at n1
        · omega
        split at n1
        · unfold Mc.beg at n1; omega
        split at n1
        · omega
        · omega
    have cS := fun (w' : World) (h : Gr w w') => (if hk : -3652059 ≤ k ∧ k ≤ 3652059 then span_near V (b / 86400) k w' (hM.gr h) hf hdb hk.1 hk.2 else (span_far V (b / 86400) k w' (hM.gr h) hf (.inr (by omega))).mono (by
      rintro e w'' ⟨rfl, hg⟩
      rw [hfar hk]
      exact ⟨rfl, hg⟩) : Calls Tryz.prog 21 #[.agg V.val, .int .i64 (b / 86400), .int .i64 k] w' fun e w'' => e = .returned (.tuple #[.int .i64 (Mc.spE V.r (b / 86400) k).1, .int .i64 (Mc.spE V.r (b / 86400) k).2.1, .int .i64 (Mc.spE V.r (b / 86400) k).2.2]) ∧ Gr w' w'')
    have HOK := Lib.hid (fun h => Ex.spE_ok (r := V.r) (B := b) (k := k) h)
    have HNO : Hid (¬ (Mc.spE V.r (b / 86400) k).2.2 = 0 → RS = []) := Lib.hid (fun h => by
      rw [hR, hta]
      have h9 : (Mc.span V.r (b / 86400) k).2 < (Mc.span V.r (b / 86400) k).1 := by
        unfold Mc.spE at h
        split at h
        · assumption
        · exact absurd rfl h
      unfold Ex.dayL
      rw [Ex.days_nil h9]
      unfold Ex.picked
      split <;> rfl)
    generalize (Mc.spE V.r (b / 86400) k).1 = fr at *
    generalize (Mc.spE V.r (b / 86400) k).2.1 = tt at *
    generalize (Mc.spE V.r (b / 86400) k).2.2 = er at *
    have HC := Lib.hid (And.intro hc (And.intro hR (And.intro hta (And.intro hss (And.intro htl hfar)))))
    clear hc hR hta hss htl hfar
    go_enter Tryz.func9, Tryz.ntmps9
    go_upto_region 1 with fail
    go_upto_region 5 with (first | (refine wpList_load_rule rfl (.tmp 3) rfl rfl HX.out ?_) | (go_at_call 19; refine (cC _ hg).mono ?_; rintro e w1 ⟨rfl, hg1⟩; have hX1 := HX.out.gr hg1) | (refine wpList_load_rule rfl (.tmp 3) rfl rfl hX1 ?_) | (go_at_call 20; refine (cP _ (hg.trans hg1)).mono ?_; rintro e w2 ⟨bp, A, n, c, rfl, hg2, hbp, hpb, hnk⟩))
    have hgw := (hg.trans hg1).trans hg2
    have hx := after_rule (hX1.gr hg2)
    have h18 := after_cell hpb.out.c18
    have cSA := fun (u : After w2) => cS u.wd (hgw.trans u.gr)
    refine wp_region_after (by kernel_rfl) (by kernel_rfl) ?_
    repeat (first | (go_big_quiet_want; (refine quiet_rule _ rfl rfl hx ?_); (try simp only [Act.put, List.setIfInBounds_toArray, List.set_cons_zero, List.set_cons_succ]); go_big_quiet_on) | go_big_quiet_step (first | (go_at_call 21; exact qafter (cSA _))))
    refine wpQuiet_nil ?_
    rintro _ ⟨u, rfl⟩
    have hg3 := u.gr
    generalize u.wd = w3 at *
    clear hx h18 cSA cP cC cS
    by_cases her : er = 0
    · subst her
      obtain ⟨z1, z2, z3⟩ := HOK.out rfl
      obtain ⟨y1, y2, y3⟩ : 1 ≤ fr ∧ fr ≤ tt ∧ tt ≤ 3652059 := by omega
      have hgw3 := hgw.trans hg3
      have hpb3 := hpb.out.gr hg3
      have hnk3 := hnk.out.sm (hg3.sm (fun _ => True)) (fun _ _ _ => trivial)
      have hM3 := hM.keep hgw3.below
      have hbl := World.block_lt_of_cell? _ _ hpb3.c17
      have hwl := hgw3.lt
      have hnn := hnk3.1
      have cT := timesF_any bp fr tt w3
      have cCo := fun (w6 : World) (g : Gr w3 w6) (z : w6.heap.size = w3.heap.size + 3) x1 x2 x3 => collect_any 41 #[.pointer (some ⟨w3.heap.size, 0, none⟩), .pointer (some ⟨w3.heap.size + 1, 0, none⟩), .pointer (some ⟨w3.heap.size + 1 + 1, 0, none⟩)] RS w6 (enters_of Tryz.func41 (by kernel_rfl) rfl)
        (fun w' g2 => by
          obtain ⟨hc, hR, hta, hss, htl, _⟩ := HC.out
          rw [hR, hta, ← z1, ← z2]
          exact times_seq V bp b (b / 86400) A n c (Ex.secs V.r (b % 86400)) w3.heap.size (w3.heap.size + 1) (w3.heap.size + 1 + 1) fr tt w' (fun k => k < w6.heap.size) w.heap.size (gr_cell g2 x1) (gr_cell g2 x2) (gr_cell g2 x3) (hpb3.gr (g.trans g2)) (hM3.keep ((g.trans g2).below.mono hwl)) (Nat.le_trans hwl (g.trans g2).lt)
            ((hnk3.sm ((g.trans g2).sm (fun _ => True)) (fun _ _ _ => trivial)).weak (fun _ _ _ => trivial) |> fun h => by
              have h8 := (hnk3.weak (K' := fun k => k < w6.heap.size) (fun k h1 _ => Nat.lt_of_lt_of_le h1 g.lt))
              exact h8.sm ((g.trans g2).sm (fun _ => True)) (fun _ _ _ => trivial))
            hss (by omega) (show w3.heap.size < w6.heap.size by omega) (show bp < w6.heap.size by have : bp < w3.heap.size := hbl; omega) (fun k h => Nat.lt_of_lt_of_le h g2.lt) hdn hn hf hdb y1 y3 (by omega)) (by have := HC.out.2.2.2.2.1; rw [← HC.out.2.1] at this; omega)
      have HCO := Lib.hid cCo
      have HGW := Lib.hid hgw3
      clear cCo HOK HNO hspc hgw hg1 hg2 hg3 hpb hnk hpb3 hnk3 hM3 hX1 HX hg z1 z2 z3
      go_wp2_with fail
      refine cT.mono ?_
      rintro e w6 ⟨rfl, hg6, hz6, x1, x2, x3⟩
      have cC6 := HCO.out w6 hg6 hz6 x1 x2 x3
      clear x1 x2 x3 cT
      go_wp2_with fail
      refine cC6.mono ?_
      rintro e w7 ⟨A7, n7, c7, rfl, hg7, ho7⟩
      have HN := Lib.hid (own_numK ho7.out).nums
      have HG7 := Lib.hid ((HGW.out.trans hg6).trans hg7)
      clear hg6 hg7 ho7 cC6
      go_wp2
      go_ret2
      exact ⟨A7, n7, c7, rfl, HG7.out, HN⟩
    · have hRn := HNO.out her
      have hgw3 := hgw.trans hg3
      clear HOK HNO hspc HC hpb hnk hgw hg1 hg2 hg3 hX1 HX hg
      subst hRn
      have herb : (er == 0) = false := beq_eq_false_iff_ne.2 her
      go_wp2
      go_ret2
      exact ⟨none, 0, 0, rfl, hgw3, Lib.hid (Nums.nil _ _ _)⟩
  · rw [if_neg hc] at hR
    subst hR
    have hcb : (chk V.r b == 0) = false := beq_eq_false_iff_ne.2 hc
    clear hc
    go_enter Tryz.func9, Tryz.ntmps9
    go_upto_region 1 with fail
    go_wp2_with (first | (refine wpList_load_rule rfl (.tmp 3) rfl rfl HX.out ?_) | (go_at_call 19; refine (cC _ hg).mono ?_; rintro e w1 ⟨rfl, hg1⟩))
    go_ret2
    exact ⟨none, 0, 0, rfl, hg.trans hg1, Lib.hid (Nums.nil _ _ _)⟩
end Go.Proofs.YtmbmkldcedkbmaaGreat
namespace Go.Proofs.YtmbmkldcedkbmaaGreat
open Go.RowKit Go.Shelf
attribute [local go_sem] Oper.semAt_some

namespace Ex
theorem rise_len : ∀ {l : List Int} {lo hi : Int}, Rise l → (∀ x ∈ l, lo ≤ x ∧ x ≤ hi) → l.length ≤ (hi - lo + 1).toNat
  | [], _, _, _, _ => Nat.zero_le _
  | x :: l, lo, hi, h, hb => by
    have h2 := List.pairwise_cons.1 h
    have hx := hb x (by simp)
    have ih := rise_len (lo := x + 1) (hi := hi) h2.2 (fun y hy => ⟨by have := h2.1 y hy; omega, (hb y (by simp [hy])).2⟩)
    rw [List.length_cons]
    omega
theorem rest_bd {r : Rm.Ru} {B e : Int} {f : Nat} {k x : Int} (h : x ∈ rest r B e f k) : 86400 ≤ x ∧ x ≤ 315537983999 := by
  obtain ⟨_, j, hj⟩ := rest_mem h
  have hd := tms_day secs_bd hj
  rcases span_day r (B / 86400) (k + j * r.ivl) with h9 | h9
  · rw [h9] at hd; dsimp only at hd; omega
  · omega
theorem expL_len {r : Rm.Ru} (hs : 0 ≤ r.st ∧ r.st ≤ 6) (hi : 1 ≤ r.ivl) (Bg last : Int) : (expL r Bg last).length ≤ 400000000000 := by
  unfold expL
  split
  · exact Nat.zero_le _
  · have := rise_len (rest_rise hs hi (B := Bg) (e := fin r last) 3652062 0) (fun x h => rest_bd h)
    rw [List.length_cons]
    omega
def cutC (r : Rm.Ru) (l : List Int) : List Int := if r.cnt = 0 then l else l.take r.cnt.toNat
def UL (r : Rm.Ru) (b last : Int) (m : Nat) : List Int := (cutC r (expL r b last)).take m
def UM (r : Rm.Ru) (b last : Int) (m : Nat) : Bool := decide (m < (cutC r (expL r b last)).length)
theorem UL_more {r : Rm.Ru} {b last x : Int} {m : Nat} {pre : List Int} (hp : pre ++ [x] <+: expL r b last) (hm : pre.length = m) (h : r.cnt = 0 ∨ pre.length < r.cnt.toNat) : UL r b last m = pre ∧ UM r b last m = true := by
  obtain ⟨t, ht⟩ := hp
  unfold UL UM cutC
  rw [← ht]
  by_cases h0 : r.cnt = 0
  · rw [if_pos h0]
    refine ⟨by rw [List.append_assoc, List.take_append, ← hm]; simp, ?_⟩
    simp; omega
  · rw [if_neg h0]
    have hlt : pre.length < r.cnt.toNat := h.resolve_left h0
    refine ⟨by rw [List.take_take, show min m r.cnt.toNat = pre.length by omega, List.append_assoc, List.take_append]; simp, ?_⟩
    simp; omega
theorem UL_cnt {r : Rm.Ru} {b last : Int} {m : Nat} {pre : List Int} (hp : pre <+: expL r b last) (hm : pre.length ≤ m) (h0 : r.cnt ≠ 0) (h : pre.length = r.cnt.toNat) : UL r b last m = pre ∧ UM r b last m = false := by
  obtain ⟨t, ht⟩ := hp
  have e : (expL r b last).take r.cnt.toNat = pre := by rw [← ht, ← h, List.take_append]; simp
  unfold UL UM cutC
  rw [if_neg h0, e]
  exact ⟨List.take_of_length_le hm, by simp; omega⟩
theorem UL_all {r : Rm.Ru} {b last : Int} {m : Nat} (hm : (expL r b last).length ≤ m) (h : r.cnt = 0 ∨ (expL r b last).length < r.cnt.toNat) : UL r b last m = expL r b last ∧ UM r b last m = false := by
  have e : cutC r (expL r b last) = expL r b last := by
    unfold cutC
    split
    · rfl
    · rename_i h0
      exact List.take_of_length_le (by have := h.resolve_left h0; omega)
  unfold UL UM
  rw [e]
  exact ⟨List.take_of_length_le hm, by simp; omega⟩
end Ex
theorem results_cells3 {fn : Func} {p q s : Tmp} {t u v : TypeId} (h : fn.results = #[.cell p t, .cell q u, .cell s v]) (tmps : Array Value) (w : World) {a b c : Addr} {x y z : Value} (hp : tmps.getD p undef = .pointer (some a)) (hq : tmps.getD q undef = .pointer (some b)) (hs : tmps.getD s undef = .pointer (some c))
    (hx : (loadVar t a).run Tryz.prog w = .ok x w) (hy : (loadVar u b).run Tryz.prog w = .ok y w) (hz : (loadVar v c).run Tryz.prog w = .ok z w) : (results fn tmps).run Tryz.prog w = .ok (.tuple #[x, y, z]) w := by
  have hp' : tmps[p]?.getD undef = .pointer (some a) := by simpa using hp
  have hq' : tmps[q]?.getD undef = .pointer (some b) := by simpa using hq
  have hs' : tmps[s]?.getD undef = .pointer (some c) := by simpa using hs
  simp [results, h, hp', hq', hs', asAddr, hx, hy, hz]
set_option maxRecDepth 100000 in
set_option maxHeartbeats 4000000 in
theorem expF_any (V : Rm.Rv) (b last : Int) (w : World) :
    Calls Tryz.prog 32 #[.agg V.val, .int .i64 b, .int .i64 last] w fun x w' =>
      x = .returned (.func (.func 58) #[] #[.pointer (some ⟨w.heap.size + 1, 0, none⟩), .pointer (some ⟨w.heap.size + 1 + 1, 0, none⟩), .pointer (some ⟨w.heap.size, 0, none⟩)]) ∧ Gr w w' ∧ w'.heap.size = w.heap.size + 3 ∧
      RBx w' w.heap.size V ∧ w'.cell? ⟨w.heap.size + 1, 0, none⟩ = some (.int .i64 b) ∧ w'.cell? ⟨w.heap.size + 1 + 1, 0, none⟩ = some (.int .i64 last) := by
  have hx := RBx.now w V 27
  have g0 : Gr w (w.alloc (.cells V.val 27)) := (Gr.refl w).allocO _
  have z0 : (w.alloc (.cells V.val 27)).heap.size = w.heap.size + 1 := by simp
  have H0 := Lib.hid (And.intro hx g0)
  clear hx g0
  go_enter Tryz.func32, Tryz.ntmps32
  go_wp2
  go_ret
  obtain ⟨hx, g0⟩ := H0.out
  have HA : ∀ W0 : World, W0 = w.alloc (.cells V.val 27) → Gr W0 ((W0.alloc (.cells #[.int .i64 b] 2)).alloc (.cells #[.int .i64 last] 2)) ∧ ((W0.alloc (.cells #[.int .i64 b] 2)).alloc (.cells #[.int .i64 last] 2)).heap.size = W0.heap.size + 2 ∧
      ((W0.alloc (.cells #[.int .i64 b] 2)).alloc (.cells #[.int .i64 last] 2)).cell? ⟨W0.heap.size, 0, none⟩ = some (.int .i64 b) ∧ ((W0.alloc (.cells #[.int .i64 b] 2)).alloc (.cells #[.int .i64 last] 2)).cell? ⟨W0.heap.size + 1, 0, none⟩ = some (.int .i64 last) := fun W0 _ => by
    have e1 : (W0.alloc (.cells #[.int .i64 b] 2)).heap.size = W0.heap.size + 1 := by simp
    have e2 : (W0.alloc (.cells #[.int .i64 b] 2)).cell? ⟨W0.heap.size, 0, none⟩ = some (.int .i64 b) := by simp
    have e3 : Gr (W0.alloc (.cells #[.int .i64 b] 2)) ((W0.alloc (.cells #[.int .i64 b] 2)).alloc (.cells #[.int .i64 last] 2)) := (Gr.refl _).allocO _
    exact ⟨((Gr.refl _).allocO _).allocO _, by simp, gr_cell e3 e2, by rw [← e1]; simp⟩
  obtain ⟨a1, a2, a3, a4⟩ := HA _ rfl
  rw [z0] at a2 a3 a4
  exact ⟨rfl, g0.trans a1, by rw [a2], hx.gr a1, a3, a4⟩
/- the five boxes of Until, just made -/
structure UB (w W : World) (V : Rm.Rv) (m : Int) (A : Option Addr) (n c : Nat) (q : Bool) (er : Int) : Prop where
  r : RBx W w.heap.size V
  m : W.cell? ⟨w.heap.size + 1, 0, none⟩ = some (.int .i64 m)
  c8 : W.cell? ⟨w.heap.size + 1 + 1, 0, none⟩ = some (.slice A n c)
  c9 : W.cell? ⟨w.heap.size + 1 + 1 + 1, 0, none⟩ = some (.bool q)
  c10 : W.cell? ⟨w.heap.size + 1 + 1 + 1 + 1, 0, none⟩ = some (.int .i64 er)
  f8 : W.frozen? ⟨w.heap.size + 1 + 1, 0, none⟩ = false
  f9 : W.frozen? ⟨w.heap.size + 1 + 1 + 1, 0, none⟩ = false
  f10 : W.frozen? ⟨w.heap.size + 1 + 1 + 1 + 1, 0, none⟩ = false
  z : w.heap.size + 5 ≤ W.heap.size
  b : Below w.heap.size w W
theorem UB.sm {w W W' : World} {V : Rm.Rv} {m : Int} {A : Option Addr} {n c : Nat} {q : Bool} {er : Int} {K : Nat → Prop} (h : UB w W V m A n c q er) (hs : Sm K W W') (hK : ∀ k, k < w.heap.size + 5 → K k) : UB w W' V m A n c q er := by
  have hz := h.z
  exact ⟨h.r.sm hs (hK _ (by omega)), hs.cell (hK _ (by dsimp only; omega)) h.m, hs.cell (hK _ (by dsimp only; omega)) h.c8, hs.cell (hK _ (by dsimp only; omega)) h.c9, hs.cell (hK _ (by dsimp only; omega)) h.c10,
    (hs.frozen (by dsimp only; omega) (hK _ (by dsimp only; omega))).trans h.f8, (hs.frozen (by dsimp only; omega) (hK _ (by dsimp only; omega))).trans h.f9, (hs.frozen (by dsimp only; omega) (hK _ (by dsimp only; omega))).trans h.f10, Nat.le_trans hz hs.size,
    h.b.trans (hs.below (fun k hk => hK k (by omega)) (by omega))⟩
theorem UB.gr {w W W' : World} {V : Rm.Rv} {m : Int} {A : Option Addr} {n c : Nat} {q : Bool} {er : Int} (h : UB w W V m A n c q er) (hg : Gr W W') : UB w W' V m A n c q er := h.sm (hg.sm (fun _ => True)) (fun _ _ => trivial)
/- the results are stored -/
theorem UB.ret {w W : World} {V : Rm.Rv} {m : Int} {A : Option Addr} {n c : Nat} {q : Bool} {er : Int} (h : UB w W V m A n c q er) (A2 : Option Addr) (n2 c2 : Nat) (q2 : Bool) (er2 : Int) :
    UB w (((W.setCell ⟨w.heap.size + 1 + 1, 0, none⟩ (.slice A2 n2 c2)).setCell ⟨w.heap.size + 1 + 1 + 1, 0, none⟩ (.bool q2)).setCell ⟨w.heap.size + 1 + 1 + 1 + 1, 0, none⟩ (.int .i64 er2)) V m A2 n2 c2 q2 er2 := by
  have hz := h.z
  have s1 : Sm (fun k => k ≠ w.heap.size + 2) W (W.setCell ⟨w.heap.size + 1 + 1, 0, none⟩ (.slice A2 n2 c2)) := Sm.setCell _ _ _ _ (fun h => h rfl)
  have s2 : Sm (fun k => k ≠ w.heap.size + 3) (W.setCell ⟨w.heap.size + 1 + 1, 0, none⟩ (.slice A2 n2 c2)) ((W.setCell ⟨w.heap.size + 1 + 1, 0, none⟩ (.slice A2 n2 c2)).setCell ⟨w.heap.size + 1 + 1 + 1, 0, none⟩ (.bool q2)) := Sm.setCell _ _ _ _ (fun h => h rfl)
  have s3 : Sm (fun k => k ≠ w.heap.size + 4) ((W.setCell ⟨w.heap.size + 1 + 1, 0, none⟩ (.slice A2 n2 c2)).setCell ⟨w.heap.size + 1 + 1 + 1, 0, none⟩ (.bool q2)) (((W.setCell ⟨w.heap.size + 1 + 1, 0, none⟩ (.slice A2 n2 c2)).setCell ⟨w.heap.size + 1 + 1 + 1, 0, none⟩ (.bool q2)).setCell ⟨w.heap.size + 1 + 1 + 1 + 1, 0, none⟩ (.int .i64 er2)) := Sm.setCell _ _ _ _ (fun h => h rfl)
  have hall : Sm (fun k => k < w.heap.size + 2) W (((W.setCell ⟨w.heap.size + 1 + 1, 0, none⟩ (.slice A2 n2 c2)).setCell ⟨w.heap.size + 1 + 1 + 1, 0, none⟩ (.bool q2)).setCell ⟨w.heap.size + 1 + 1 + 1 + 1, 0, none⟩ (.int .i64 er2)) :=
    ((s1.weak (fun k hk => by omega)).trans (s2.weak (fun k hk => by omega))).trans (s3.weak (fun k hk => by omega))
  refine ⟨h.r.sm hall (by omega), hall.cell (show w.heap.size + 1 < w.heap.size + 2 by omega) h.m, ?_, ?_, ?_, ?_, ?_, ?_, ?_, h.b.trans (hall.below (fun k hk => by omega) (by omega))⟩
  · exact s3.cell (show w.heap.size + 2 ≠ w.heap.size + 4 by omega) (s2.cell (show w.heap.size + 2 ≠ w.heap.size + 3 by omega) (World.cell?_setCell_same _ _ _ h.c8))
  · exact s3.cell (show w.heap.size + 3 ≠ w.heap.size + 4 by omega) (World.cell?_setCell_same _ _ _ (s1.cell (show w.heap.size + 3 ≠ w.heap.size + 2 by omega) h.c9))
  · exact World.cell?_setCell_same _ _ _ (s2.cell (show w.heap.size + 4 ≠ w.heap.size + 3 by omega) (s1.cell (show w.heap.size + 4 ≠ w.heap.size + 2 by omega) h.c10))
  · rw [World.frozen?_setCell, World.frozen?_setCell, World.frozen?_setCell]; exact h.f8
  · rw [World.frozen?_setCell, World.frozen?_setCell, World.frozen?_setCell]; exact h.f9
  · rw [World.frozen?_setCell, World.frozen?_setCell, World.frozen?_setCell]; exact h.f10
  · simpa [World.setCell] using hz
theorem boxesU (w : World) (V : Rm.Rv) (m : Int) : ∀ W, W = ((((w.alloc (.cells V.val 27)).alloc (.cells #[.int .i64 m] 3)).alloc (.cells #[.slice none 0 0] 30)).alloc (.cells #[.bool false] 4)).alloc (.cells #[.int .i64 0] 31) → UB w W V m none 0 0 false 0 ∧ W.heap.size = w.heap.size + 5 := by
  rintro W rfl
  have hx := RBx.now w V 27
  have g0 : Gr w (w.alloc (.cells V.val 27)) := (Gr.refl w).allocO _
  have z0 : (w.alloc (.cells V.val 27)).heap.size = w.heap.size + 1 := by simp
  generalize w.alloc (.cells V.val 27) = W0 at *
  have one : ∀ (A : World) (v : Value) (t : TypeId), Gr A (A.alloc (.cells #[v] t)) ∧ (A.alloc (.cells #[v] t)).heap.size = A.heap.size + 1 ∧ (A.alloc (.cells #[v] t)).cell? ⟨A.heap.size, 0, none⟩ = some v ∧ (A.alloc (.cells #[v] t)).frozen? ⟨A.heap.size, 0, none⟩ = false := fun A v t => ⟨(Gr.refl A).allocO _, by simp, by simp, box_free (Gr.refl _) 0⟩
  obtain ⟨a1, a2, a3, _⟩ := one W0 (.int .i64 m) 3
  generalize W0.alloc (.cells #[.int .i64 m] 3) = W1 at *
  obtain ⟨b1, b2, b3, b4⟩ := one W1 (.slice none 0 0) 30
  generalize W1.alloc (.cells #[.slice none 0 0] 30) = W2 at *
  obtain ⟨c1, c2, c3, c4⟩ := one W2 (.bool false) 4
  generalize W2.alloc (.cells #[.bool false] 4) = W3 at *
  obtain ⟨d1, d2, d3, d4⟩ := one W3 (.int .i64 0) 31
  generalize W3.alloc (.cells #[.int .i64 0] 31) = W4 at *
  rw [z0] at a3 a2
  rw [a2] at b3 b4 b2
  rw [b2] at c3 c4 c2
  rw [c2] at d3 d4 d2
  refine ⟨⟨hx.gr (((a1.trans b1).trans c1).trans d1), gr_cell ((b1.trans c1).trans d1) a3, gr_cell (c1.trans d1) b3, gr_cell d1 c3, d3, (c1.trans d1).frozen (World.block_lt_of_cell? _ _ b3) ▸ b4, d1.frozen (World.block_lt_of_cell? _ _ c3) ▸ c4, d4, by omega, ((((g0.trans a1).trans b1).trans c1).trans d1).below⟩, by omega⟩
/- what Until returns: the error, the list, whether there are more -/
def untE (r : Rm.Ru) (b most : Int) : Int := if chk r b = 0 then (if most < 0 then 1 else 0) else chk r b
set_option maxRecDepth 100000 in
set_option maxHeartbeats 16000000 in
theorem until_any (V : Rm.Rv) (b last most : Int) (w : World) (hM : RuM w w.heap.size V) (hdn : V.day.n ≤ 140737488355328) (hn : ∀ i, i < 8 → (V.sl i).n ≤ 1000000) (hl : last ≤ 9223372036854775807) :
    Calls Tryz.prog 16 #[.agg V.val, .int .i64 b, .int .i64 last, .int .i64 most] w fun e w' => ∃ A n c, e = .returned (.tuple #[.slice A n c, .bool (if untE V.r b most = 0 then Ex.UM V.r b last most.toNat else false), .int .i64 (untE V.r b most)]) ∧ Gr w w' ∧ Hid (Nums w' w'.heap.size A n (if untE V.r b most = 0 then Ex.UL V.r b last most.toNat else [])) ∧ n ≤ c := by
  have hU : untE V.r b most = if chk V.r b = 0 then (if most < 0 then 1 else 0) else chk V.r b := rfl
  have hUR := Lib.hid (show (if untE V.r b most = 0 then Ex.UM V.r b last most.toNat else false) = (if untE V.r b most = 0 then Ex.UM V.r b last most.toNat else false) from rfl)
  obtain ⟨MR, hMR⟩ : ∃ MR, (if untE V.r b most = 0 then Ex.UM V.r b last most.toNat else false) = MR := ⟨_, rfl⟩
  obtain ⟨LR, hLR⟩ : ∃ LR, (if untE V.r b most = 0 then Ex.UL V.r b last most.toNat else []) = LR := ⟨_, rfl⟩
  rw [hMR, hLR]
  clear hUR
  generalize untE V.r b most = er at *
  obtain ⟨hub, hsz⟩ := boxesU w V most _ rfl
  have cC := fun w' (h : Gr w w') => check_any V b w' (hM.gr h)
  have HX := Lib.hid (And.intro hU (And.intro hMR hLR))
  clear hU hMR hLR
  refine (callsIn_wide (n := 6)).1 ?_
  refine callsIn_of_wp_marks Tryz.func16 rfl trivial ?_ rfl
  refine wpIn_wide.2 ?_
  simp only [Tryz.ntmps16, List.size_toArray, List.length_cons, List.length_nil, Nat.reduceAdd, Nat.reduceSub, Array.replicate_succ, Array.replicate_zero, List.push_toArray, List.append_toArray, List.nil_append, List.cons_append]
  have HUB := Lib.hid hub
  clear hub
  go_upto_region 1 with fail
  have hU0 := HUB.out
  have hgw0 : Gr w (((((w.alloc (.cells V.val 27)).alloc (.cells #[.int .i64 most] 3)).alloc (.cells #[.slice none 0 0] 30)).alloc (.cells #[.bool false] 4)).alloc (.cells #[.int .i64 0] 31)) := ⟨hU0.b⟩
  clear HUB
  generalize ((((w.alloc (.cells V.val 27)).alloc (.cells #[.int .i64 most] 3)).alloc (.cells #[.slice none 0 0] 30)).alloc (.cells #[.bool false] 4)).alloc (.cells #[.int .i64 0] 31) = W0 at *
  have hXr := hU0.r
  have fin : ∀ (tm : Array Value) (W : World) (A : Option Addr) (n c : Nat), tm.getD 8 undef = .pointer (some ⟨w.heap.size + 1 + 1, 0, none⟩) → tm.getD 9 undef = .pointer (some ⟨w.heap.size + 1 + 1 + 1, 0, none⟩) → tm.getD 10 undef = .pointer (some ⟨w.heap.size + 1 + 1 + 1 + 1, 0, none⟩) → UB w W V most A n c MR er → Nums W W.heap.size A n LR → n ≤ c →
      bodyPostM Fence.wide 6 Tryz.prog Tryz.f16 (fun e w' => ∃ A n c, e = .returned (.tuple #[.slice A n c, .bool MR, .int .i64 er]) ∧ Gr w w' ∧ Hid (Nums w' w'.heap.size A n LR) ∧ n ≤ c) .ret { tmps := tm, defers := [] } W := fun tm W A n c t8 t9 t10 hub hnu hnc =>
    ⟨_, results_cells3 rfl _ _ t8 t9 t10 (load_var1 (Tryz.isAgg30 _) hub.c8) (load_var1 (Tryz.isAgg4 _) hub.c9) (load_var1 (Tryz.isAgg31 _) hub.c10), A, n, c, rfl, ⟨hub.b⟩, Lib.hid hnu, hnc⟩
  have HFin := Lib.hid fin
  clear fin
  by_cases hc : chk V.r b = 0
  · rw [hc] at cC
    by_cases hm : most < 0
    · have hE : er = 1 ∧ MR = false ∧ LR = [] := by
        obtain ⟨h1, h2, h3⟩ := HX.out
        rw [if_pos hc, if_pos hm] at h1
        rw [h1, if_neg (by decide)] at h2 h3
        exact ⟨h1, h2.symm, h3.symm⟩
      obtain ⟨rfl, rfl, rfl⟩ := hE
      clear HX hc
      go_upto_region 4 with (first | (refine wpList_load_rule rfl (.tmp 4) rfl rfl hXr ?_) | (go_at_call 19; refine (cC _ hgw0).mono ?_; rintro e w1 ⟨rfl, hg1⟩))
      have hU1 := hU0.gr hg1
      have cm := hU1.m
      have c8 := hU1.c8
      have c9 := hU1.c9
      have c10 := hU1.c10
      have f8 := hU1.f8
      have f9 := hU1.f9
      have f10 := hU1.f10
      have HU1 := Lib.hid hU1
      clear hU0 hU1 hXr cC hg1 hgw0 hM
      go_wp2
      exact HFin.out _ _ none 0 0 (by rfl) (by rfl) (by rfl) (HU1.out.ret none 0 0 false 1) (Nums.nil _ _ _) (Nat.le_refl _)
    · obtain ⟨m, rfl⟩ := Int.eq_ofNat_of_zero_le (by omega : 0 ≤ most)
      have hE : er = 0 ∧ MR = Ex.UM V.r b last m ∧ LR = Ex.UL V.r b last m := by
        obtain ⟨h1, h2, h3⟩ := HX.out
        rw [if_pos hc, if_neg hm] at h1
        rw [h1, if_pos rfl] at h2 h3
        exact ⟨h1, h2.symm, h3.symm⟩
      obtain ⟨rfl, hMR, hLR⟩ := hE
      have hfb : Rm.fm V.r = true ∧ Clk.okB b = true := by
        unfold chk at hc
        split at hc
        · cases hc
        · split at hc
          · cases hc
          · rename_i h1 h2; exact ⟨by simpa using h1, by simpa using h2⟩
      obtain ⟨hf, hb⟩ := hfb
      obtain ⟨f1, ⟨i1, i2⟩, f3⟩ := fm_head hf
      have hcnt : 0 ≤ V.r.cnt ∧ V.r.cnt ≤ 1000 := by
        unfold Rm.fm Rm.fm1 at hf
        simp only [Bool.and_eq_true, decide_eq_true_eq] at hf
        omega
      have hXL := Ex.expL_len (r := V.r) f3 i1 b last
      clear HX hc
      go_upto_region 6 with (first | (refine wpList_load_rule rfl (.tmp 4) rfl rfl hXr ?_) | (go_at_call 19; refine (cC _ hgw0).mono ?_; rintro e w1 ⟨rfl, hg1⟩; have cm := (hU0.gr hg1).m))
      go_upto_region 7 with fail
      have hga : Gr w1 (w1.alloc (.cells #[.slice none 0 0] 30)) := (Gr.refl w1).allocO _
      have cl : (w1.alloc (.cells #[.slice none 0 0] 30)).cell? ⟨w1.heap.size, 0, none⟩ = some (.slice none 0 0) := by simp
      have fl : (w1.alloc (.cells #[.slice none 0 0] 30)).frozen? ⟨w1.heap.size, 0, none⟩ = false := box_free (Gr.refl _) 0
      have hzl : (w1.alloc (.cells #[.slice none 0 0] 30)).heap.size = w1.heap.size + 1 := by simp
      have hU2 := hU0.gr (hg1.trans hga)
      have hz1 := (hU0.gr hg1).z
      have hgw2 := (hgw0.trans hg1).trans hga
      clear hU0 hXr cC hg1 hgw0 hga cm
      generalize w1.alloc (.cells #[.slice none 0 0] 30) = W2 at *
      generalize w1.heap.size = bl at *
      have hXr := hU2.r
      have cX := expF_any V b last W2
      have H2 := Lib.hid (And.intro hU2 (And.intro hgw2 (And.intro cl (And.intro fl (And.intro hzl hz1)))))
      clear hU2 hgw2 cl fl hzl hz1
      go_wp2_with (first | (refine wpList_load_rule rfl (.tmp 4) rfl rfl hXr ?_) | (go_at_call 32; refine cX.mono ?_; rintro e w7 ⟨rfl, hg7, hz7, x0, x1, x2⟩))
      obtain ⟨hU2, hgw2, cl, fl, hzl, hz1⟩ := H2.out
      have hU7 := hU2.gr hg7
      have cl7 := gr_cell hg7 cl
      have fl7 : w7.frozen? ⟨bl, 0, none⟩ = false := (hg7.frozen (World.block_lt_of_cell? _ _ cl)).trans fl
      have hM7 := hM.keep (hgw2.trans hg7).below
      have hw7 := (hgw2.trans hg7).lt
      have hseq := exp_seq V b last (W2.heap.size + 1) (W2.heap.size + 1 + 1) W2.heap.size w7 (fun k => k < w7.heap.size ∧ ¬ (w.heap.size + 2 ≤ k ∧ k ≤ w.heap.size + 4) ∧ k ≠ bl) w.heap.size x1 x2 x0 hM7 hw7 ⟨by omega, by omega, by omega⟩ ⟨by omega, by omega, by omega⟩ ⟨by omega, by omega, by omega⟩ (fun k h => ⟨by omega, by omega, by omega⟩) (fun k h => h.1) hdn hn hf hb hl
      have hblz : bl < w7.heap.size := by have := hg7.lt; omega
      have hUm := fun pre x h1 h2 h3 => Ex.UL_more (r := V.r) (b := b) (last := last) (x := x) (m := m) (pre := pre) h1 h2 h3
      have hUc := fun pre h1 h2 h3 h4 => Ex.UL_cnt (r := V.r) (b := b) (last := last) (m := m) (pre := pre) h1 h2 h3 h4
      have hUa := fun h1 h2 => Ex.UL_all (r := V.r) (b := b) (last := last) (m := m) h1 h2
      rw [← hMR, ← hLR] at hUm hUc hUa
      have HU := Lib.hid (And.intro hUm (And.intro hUc hUa))
      generalize Ex.expL V.r b last = XS at *
      clear x0 x1 x2 hM7 cX hXr cl fl H2 hU2 hgw2 hg7 hM hMR hLR hUm hUc hUa hz7 hzl
      have hz7 : w.heap.size + 5 ≤ w7.heap.size := hU7.z
      refine (wpIn_wide (n := 6)).1 ?_
      refine rangeE (n := 6) (gf := 58) (lb := #[.pointer (some ⟨W2.heap.size + 1, 0, none⟩), .pointer (some ⟨W2.heap.size + 1 + 1, 0, none⟩), .pointer (some ⟨W2.heap.size, 0, none⟩)]) rfl (enters_of Tryz.func58 (by kernel_rfl) rfl) (fun _ => rfl) hseq (fun k h => h.1)
        (fun E pre W' => ColI E pre W' bl w7.heap.size ∧ UB w W' V (m : Int) none 0 0 false 0 ∧ Hid (pre.length ≤ m ∧ (V.r.cnt = 0 ∨ pre.length < V.r.cnt.toNat)))
        (fun cc E pre W' => (∀ k, E k → w7.heap.size ≤ k) ∧ w7.heap.size ≤ W'.heap.size ∧ ((cc = .ret ∧ ∃ A n c, UB w W' V (m : Int) A n c true 0 ∧ OwnV W' w7.heap.size 2 A n c (ivs LR) ∧ (∀ g, ownB A = some g → ¬ E g) ∧ MR = true) ∨ (cc = .exit 0 ∧ ColI E pre W' bl w7.heap.size ∧ UB w W' V (m : Int) none 0 0 false 0 ∧ pre = LR ∧ MR = false)))
        ?hI ?hIx ⟨⟨fun _ h => h.elim, fl7, Nat.le_refl _, none, 0, 0, cl7, OwnV.nil _ _ _, fun _ h => by cases h⟩, hU7, Lib.hid ⟨Nat.zero_le _, by simp; omega⟩⟩
        (fun x => { tmps := #[.agg V.val, .int .i64 b, .int .i64 last, .int .i64 (m : Int), .pointer (some ⟨w.heap.size, 0, none⟩), undef, undef, .pointer (some ⟨w.heap.size + 1, 0, none⟩), .pointer (some ⟨w.heap.size + 1 + 1, 0, none⟩), .pointer (some ⟨w.heap.size + 1 + 1 + 1, 0, none⟩), .pointer (some ⟨w.heap.size + 1 + 1 + 1 + 1, 0, none⟩), .int .i64 0, .pointer (some ⟨bl, 0, none⟩), .int .i64 x,
          .agg V.val, .int .i64 b, .int .i64 0, .int .i64 0, .bool false, undef, .int .i64 (m : Int), .bool (decide ((m : Int) < 0)), .agg V.val, .int .i64 b, .int .i64 last, .func (.func 58) #[] #[.pointer (some ⟨W2.heap.size + 1, 0, none⟩), .pointer (some ⟨W2.heap.size + 1 + 1, 0, none⟩), .pointer (some ⟨W2.heap.size, 0, none⟩)], .int .i64 x, undef, undef, undef, undef, undef, undef, undef, undef, undef, undef, undef, undef, undef, undef, undef], defers := [] }) ?assign ?body ?done ?stop
      case hI =>
        rintro E s A1 B1 ⟨h, hu, hq⟩ hs
        exact ⟨h.ab (by omega) hs, hu.sm hs (fun k hk he => by have := h.e k he; omega), hq⟩
      case hIx =>
        rintro cc E s A1 B1 ⟨e1, e2, h⟩ hs
        refine ⟨fun x hx => ?_, Nat.le_trans e2 hs.size, ?_⟩
        · rcases hx with hx | hx
          · exact e1 x hx
          · omega
        · rcases h with ⟨rfl, A, n, c, hu, ho, hg, hm⟩ | ⟨rfl, h, hu, hq⟩
          · refine .inl ⟨rfl, A, n, c, hu.sm hs (fun k hk he => by have := e1 k he; omega), ho.smo hs hg, fun g h9 hx => ?_, hm⟩
            rcases hx with hx | hx
            · exact hg g h9 hx
            · rcases own_at ho with rfl | ⟨g2, rfl, _, h4⟩
              · cases h9
              · have e : g2 = g := by simpa [ownB] using h9
                omega
          · exact .inr ⟨rfl, h.ab (by omega) hs, hu.sm hs (fun k hk he => by have := e1 k he; omega), hq⟩
      case assign =>
        intro lq x W' K hK
        gi_wp2
        exact hK
      case body =>
        rintro lq E pre x Wb hE hzb ⟨h, hu, hq⟩ hpre
        have hle := hpre.length_le
        rw [List.length_append, List.length_singleton] at hle
        obtain ⟨A, n, c, h1, h2, h3⟩ := h.c
        have hln := ivs_len h2
        have h3' : ∀ g, ownB A = some g → ¬ E g ∧ w7.heap.size ≤ g := fun g hg => ⟨h3 g hg, by
          rcases own_at h2 with rfl | ⟨g2, rfl, h5, _⟩
          · cases hg
          · have e : g2 = g := by simpa [ownB] using hg
            omega⟩
        have hzz := h.z
        have hf1 := h.f
        have cm := hu.m
        have cc := hu.r.c2
        obtain ⟨hq1, hq2⟩ := hq.out
        obtain ⟨hUm, hUc, hUa⟩ := HU.out
        by_cases hnm : n = m
        · obtain ⟨e1, e2⟩ := hUm pre x hpre (by omega) (by omega)
          have c8 := hu.c8
          have c9 := hu.c9
          have c10 := hu.c10
          have f8 := hu.f8
          have f9 := hu.f9
          have f10 := hu.f10
          have hnmb : ((n : Int) == (m : Int)) = true := by rw [hnm]; exact beq_self_eq_true _
          have HA := Lib.hid (show Sm (fun k => E k ∨ (k < w7.heap.size ∧ ¬ (w.heap.size + 2 ≤ k ∧ k ≤ w.heap.size + 4) ∧ k ≠ bl)) Wb (((Wb.setCell ⟨w.heap.size + 1 + 1, 0, none⟩ (.slice A n c)).setCell ⟨w.heap.size + 1 + 1 + 1, 0, none⟩ (.bool true)).setCell ⟨w.heap.size + 1 + 1 + 1 + 1, 0, none⟩ (.int .i64 0)) ∧
              (∀ k, E k → w7.heap.size ≤ k) ∧ w7.heap.size ≤ (((Wb.setCell ⟨w.heap.size + 1 + 1, 0, none⟩ (.slice A n c)).setCell ⟨w.heap.size + 1 + 1 + 1, 0, none⟩ (.bool true)).setCell ⟨w.heap.size + 1 + 1 + 1 + 1, 0, none⟩ (.int .i64 0)).heap.size ∧
              ∃ A2 n2 c2, UB w (((Wb.setCell ⟨w.heap.size + 1 + 1, 0, none⟩ (.slice A n c)).setCell ⟨w.heap.size + 1 + 1 + 1, 0, none⟩ (.bool true)).setCell ⟨w.heap.size + 1 + 1 + 1 + 1, 0, none⟩ (.int .i64 0)) V (m : Int) A2 n2 c2 true 0 ∧ OwnV (((Wb.setCell ⟨w.heap.size + 1 + 1, 0, none⟩ (.slice A n c)).setCell ⟨w.heap.size + 1 + 1 + 1, 0, none⟩ (.bool true)).setCell ⟨w.heap.size + 1 + 1 + 1 + 1, 0, none⟩ (.int .i64 0)) w7.heap.size 2 A2 n2 c2 (ivs LR) ∧ (∀ g, ownB A2 = some g → ¬ E g) ∧ MR = true by
            have sx : ∀ (X : World) (o : Nat) (v : Value), (w.heap.size + 2 ≤ o ∧ o ≤ w.heap.size + 4) → Sm (fun k => E k ∨ (k < w7.heap.size ∧ ¬ (w.heap.size + 2 ≤ k ∧ k ≤ w.heap.size + 4) ∧ k ≠ bl)) X (X.setCell ⟨o, 0, none⟩ v) := fun X o v ho => Sm.setCell _ _ _ _ (fun hk => by
              rcases hk with hk | hk
              · have := h.e o hk; omega
              · exact hk.2.1 ho)
            have s3 := ((sx Wb (w.heap.size + 1 + 1) (.slice A n c) (by omega)).trans (sx _ (w.heap.size + 1 + 1 + 1) (.bool true) (by omega))).trans (sx _ (w.heap.size + 1 + 1 + 1 + 1) (.int .i64 0) (by omega))
            have sy : ∀ (X : World) (o : Nat) (v : Value), o < w7.heap.size → Sm (fun k => w7.heap.size ≤ k) X (X.setCell ⟨o, 0, none⟩ v) := fun X o v ho => Sm.setCell _ _ _ _ (fun hk => by dsimp only at hk; omega)
            have s4 := ((sy Wb (w.heap.size + 1 + 1) (.slice A n c) (by omega)).trans (sy _ (w.heap.size + 1 + 1 + 1) (.bool true) (by omega))).trans (sy _ (w.heap.size + 1 + 1 + 1 + 1) (.int .i64 0) (by omega))
            refine ⟨s3, h.e, Nat.le_trans hzz s3.size, A, n, c, hu.ret A n c true 0, ?_, h3, e2⟩
            rw [e1]
            exact h2.smo s4 (fun k hk => (h3' k hk).2))
          clear h hu hq hE h3 h3' hseq hpre hUm hUc hUa HU e1 e2 h2 hnm
          gi_wp2
          exact ⟨HA.out.1, HA.out.2.1, HA.out.2.2.1, .inl ⟨rfl, HA.out.2.2.2⟩⟩
        · have hnmb : ((n : Int) == (m : Int)) = false := beq_eq_false_iff_ne.2 (by omega)
          have HC := Lib.hid (And.intro h (And.intro hu (And.intro hE (And.intro h3' (And.intro hpre (And.intro hUc hq.out))))))
          have key : ∀ (g5 cap5 : Nat) (w5 : World), ApR Wb w5 w7.heap.size 2 A n (ivs pre) (.int .i64 x) g5 cap5 → (Sm (fun k => E k ∨ (k < w7.heap.size ∧ ¬ (w.heap.size + 2 ≤ k ∧ k ≤ w.heap.size + 4) ∧ k ≠ bl)) Wb (w5.setCell ⟨bl, 0, none⟩ (.slice (some ⟨g5, 0, none⟩) (n + 1) cap5)) ∧ ColI E (pre ++ [x]) (w5.setCell ⟨bl, 0, none⟩ (.slice (some ⟨g5, 0, none⟩) (n + 1) cap5)) bl w7.heap.size ∧ UB w (w5.setCell ⟨bl, 0, none⟩ (.slice (some ⟨g5, 0, none⟩) (n + 1) cap5)) V (m : Int) none 0 0 false 0) ∧
              w5.cell? ⟨bl, 0, none⟩ = some (.slice A n c) ∧ w5.frozen? ⟨bl, 0, none⟩ = false ∧ w5.cell? ⟨w.heap.size, 2, none⟩ = some (.int .i64 V.r.cnt) := fun g5 cap5 w5 hA5 => by
            obtain ⟨h, hu, hE, h3', hpre, hUc, hq⟩ := HC.out
            have hne : some bl ≠ ownB A := fun e => by have := (h3' bl e.symm).2; omega
            have hall : Sm (fun k => k < w7.heap.size) Wb w5 := hA5.sm.weak (fun k hk e => by have := (h3' k e.symm).2; omega)
            have hu5 := hu.sm hall (fun k hk => by omega)
            have hu6 : UB w (w5.setCell ⟨bl, 0, none⟩ (.slice (some ⟨g5, 0, none⟩) (n + 1) cap5)) V (m : Int) none 0 0 false 0 := hu5.sm (Sm.setCell (fun k => k < w.heap.size + 5) _ _ _ (fun hk => by dsimp only at hk; omega)) (fun k hk => hk)
            refine ⟨⟨(hA5.sm.weak (fun k hk e => ?_)).trans (Sm.setCell _ _ _ _ (fun hk => ?_)), h.push (by omega) h1 h3' (fun k hk => (hE k hk).2) hA5, hu6⟩, hA5.sm.cell hne h1, (hA5.sm.frozen (World.block_lt_of_cell? _ _ h1) hne).trans hf1, hu5.r.c2⟩
            · have h9 := h3' k e.symm
              rcases hk with hk | hk
              · exact h9.1 hk
              · omega
            · rcases hk with hk | hk
              · have := h.e bl hk; omega
              · exact hk.2.2 rfl
          have HKey := Lib.hid key
          clear h hu hE h3 h3' hseq hpre hUm hUc hUa HU key hq
          by_cases hcn : (n : Int) + 1 = V.r.cnt
          · have hcnb : ((n : Int) + 1 == V.r.cnt) = true := by rw [hcn]; exact beq_self_eq_true _
            gi_wp2_with (gi_at_builtin; refine apF Wb rfl (.tmp 32) (.tmp 34) 30 2 (.int .i64 0) Tryz.underlying30 info_i64 rfl rfl w7.heap.size A n c _ rfl h2 (.int .i64 x) rfl rfl (by omega) hzz ?_; intro g5 cap5 w5 hA5; obtain ⟨hK5, hc5, hf5, hcc5⟩ := HKey.out g5 cap5 w5 hA5)
            obtain ⟨h, hu, hE, h3', hpre, hUc, hq⟩ := HC.out
            obtain ⟨e1, e2⟩ := hUc (pre ++ [x]) hpre (by rw [List.length_append, List.length_singleton]; omega) (by omega) (by rw [List.length_append, List.length_singleton]; omega)
            exact ⟨hK5.1, hK5.2.1.e, hK5.2.1.z, .inr ⟨rfl, hK5.2.1, hK5.2.2, e1.symm, e2⟩⟩
          · have hcnb : ((n : Int) + 1 == V.r.cnt) = false := beq_eq_false_iff_ne.2 hcn
            gi_wp2_with (gi_at_builtin; refine apF Wb rfl (.tmp 32) (.tmp 34) 30 2 (.int .i64 0) Tryz.underlying30 info_i64 rfl rfl w7.heap.size A n c _ rfl h2 (.int .i64 x) rfl rfl (by omega) hzz ?_; intro g5 cap5 w5 hA5; obtain ⟨hK5, hc5, hf5, hcc5⟩ := HKey.out g5 cap5 w5 hA5)
            exact ⟨hK5.1, hK5.2.1, hK5.2.2, Lib.hid ⟨by rw [List.length_append, List.length_singleton]; omega, by rw [List.length_append, List.length_singleton]; omega⟩⟩
      case done =>
        rintro D E W' rfl hED hE ⟨h, hu, hq⟩ hK
        obtain ⟨e1, e2⟩ := HU.out.2.2 hq.out.1 hq.out.2
        rw [← e1] at h
        obtain ⟨A, n, c, h1, h2, h3⟩ := h.c
        have c8 := hu.c8
        have c9 := hu.c9
        have c10 := hu.c10
        have f8 := hu.f8
        have f9 := hu.f9
        have f10 := hu.f10
        have hw7 := h.z
        have HT := Lib.hid (And.intro (hu.ret A n c false 0) (And.intro h2 (And.intro h3 (And.intro hED hK))))
        clear h hu h2 h3 hED hE hseq HU hU7 cl7 fl7 hK
        subst e2
        go_wp2
        obtain ⟨hub, h2, h3, hED, hK⟩ := HT.out
        have hK2 : (((W'.setCell ⟨w.heap.size + 1 + 1, 0, none⟩ (.slice A n c)).setCell ⟨w.heap.size + 1 + 1 + 1, 0, none⟩ (.bool false)).setCell ⟨w.heap.size + 1 + 1 + 1 + 1, 0, none⟩ (.int .i64 0)).heap[w7.heap.size]? = some (.deferred (some [])) := by
          rw [Below.heap_setCell _ _ _ _ (by dsimp only; omega), Below.heap_setCell _ _ _ _ (by dsimp only; omega), Below.heap_setCell _ _ _ _ (by dsimp only; omega)]
          exact hK
        have sy : ∀ (X : World) (o : Nat) (v : Value), o < w7.heap.size → Sm (fun k => w7.heap.size ≤ k) X (X.setCell ⟨o, 0, none⟩ v) := fun X o v ho => Sm.setCell _ _ _ _ (fun hk => by dsimp only at hk; omega)
        have s4 := ((sy W' (w.heap.size + 1 + 1) (.slice A n c) (by omega)).trans (sy _ (w.heap.size + 1 + 1 + 1) (.bool false) (by omega))).trans (sy _ (w.heap.size + 1 + 1 + 1 + 1) (.int .i64 0) (by omega))
        have h2' := h2.smo s4 (fun k hk => by
          rcases own_at h2 with rfl | ⟨g2, rfl, h5, _⟩
          · cases hk
          · have e : g2 = k := by simpa [ownB] using hk
            omega)
        generalize ((W'.setCell ⟨w.heap.size + 1 + 1, 0, none⟩ (.slice A n c)).setCell ⟨w.heap.size + 1 + 1 + 1, 0, none⟩ (.bool false)).setCell ⟨w.heap.size + 1 + 1 + 1 + 1, 0, none⟩ (.int .i64 0) = W9 at *
        have hp : Sm (fun k => k ≠ w7.heap.size) W9 (W9.putObj w7.heap.size (.deferred none)) := Sm.putObj _ _ _ (fun h => h rfl)
        refine leave_mark rfl hK2 (results_cells3 rfl _ _ rfl rfl rfl (load_var1 (Tryz.isAgg30 _) (putObj_cell hK2 hub.c8)) (load_var1 (Tryz.isAgg4 _) (putObj_cell hK2 hub.c9)) (load_var1 (Tryz.isAgg31 _) (putObj_cell hK2 hub.c10))) ?_
        refine ⟨A, n, c, rfl, ⟨hub.b.trans (hp.below (fun k hk => by omega) (by have := hub.z; omega))⟩, Lib.hid (own_numK (h2'.smo hp (fun k hk e => h3 k hk (by rw [e]; exact hED)))).nums, h2.cap⟩
      case stop =>
        rintro D cc E pre W' rfl hED hE hpre ⟨_, _, ⟨rfl, A, n, c, hu, ho, hg, hm⟩ | ⟨rfl, h, hu, e1, e2⟩⟩ hK
        · have HT := Lib.hid (And.intro hu (And.intro ho (And.intro hg (And.intro hED hK))))
          clear hu ho hg hED hE hseq HU hU7 cl7 fl7 hK hpre
          subst hm
          refine wpIn_wide.2 ?_
          go_wp2
          obtain ⟨hub, h2, h3, hED, hK2⟩ := HT.out
          have hp : Sm (fun k => k ≠ w7.heap.size) W' (W'.putObj w7.heap.size (.deferred none)) := Sm.putObj _ _ _ (fun h => h rfl)
          refine leave_mark rfl hK2 (results_cells3 rfl _ _ rfl rfl rfl (load_var1 (Tryz.isAgg30 _) (putObj_cell hK2 hub.c8)) (load_var1 (Tryz.isAgg4 _) (putObj_cell hK2 hub.c9)) (load_var1 (Tryz.isAgg31 _) (putObj_cell hK2 hub.c10))) ?_
          refine ⟨A, n, c, rfl, ⟨hub.b.trans (hp.below (fun k hk => by omega) (by have := hub.z; omega))⟩, Lib.hid (own_numK (h2.smo hp (fun k hk e => h3 k hk (by rw [e]; exact hED)))).nums, h2.cap⟩
        · subst e1
          obtain ⟨A, n, c, h1, h2, h3⟩ := h.c
          have c8 := hu.c8
          have c9 := hu.c9
          have c10 := hu.c10
          have f8 := hu.f8
          have f9 := hu.f9
          have f10 := hu.f10
          have hw7 := h.z
          have HT := Lib.hid (And.intro (hu.ret A n c false 0) (And.intro h2 (And.intro h3 (And.intro hED hK))))
          clear h hu h2 h3 hED hE hseq HU hU7 cl7 fl7 hK
          subst e2
          refine wpIn_wide.2 ?_
          go_wp2
          obtain ⟨hub, h2, h3, hED, hK⟩ := HT.out
          have hK2 : (((W'.setCell ⟨w.heap.size + 1 + 1, 0, none⟩ (.slice A n c)).setCell ⟨w.heap.size + 1 + 1 + 1, 0, none⟩ (.bool false)).setCell ⟨w.heap.size + 1 + 1 + 1 + 1, 0, none⟩ (.int .i64 0)).heap[w7.heap.size]? = some (.deferred (some [])) := by
            rw [Below.heap_setCell _ _ _ _ (by dsimp only; omega), Below.heap_setCell _ _ _ _ (by dsimp only; omega), Below.heap_setCell _ _ _ _ (by dsimp only; omega)]
            exact hK
          have sy : ∀ (X : World) (o : Nat) (v : Value), o < w7.heap.size → Sm (fun k => w7.heap.size ≤ k) X (X.setCell ⟨o, 0, none⟩ v) := fun X o v ho => Sm.setCell _ _ _ _ (fun hk => by dsimp only at hk; omega)
          have s4 := ((sy W' (w.heap.size + 1 + 1) (.slice A n c) (by omega)).trans (sy _ (w.heap.size + 1 + 1 + 1) (.bool false) (by omega))).trans (sy _ (w.heap.size + 1 + 1 + 1 + 1) (.int .i64 0) (by omega))
          have h2' := h2.smo s4 (fun k hk => by
            rcases own_at h2 with rfl | ⟨g2, rfl, h5, _⟩
            · cases hk
            · have e : g2 = k := by simpa [ownB] using hk
              omega)
          generalize ((W'.setCell ⟨w.heap.size + 1 + 1, 0, none⟩ (.slice A n c)).setCell ⟨w.heap.size + 1 + 1 + 1, 0, none⟩ (.bool false)).setCell ⟨w.heap.size + 1 + 1 + 1 + 1, 0, none⟩ (.int .i64 0) = W9 at *
          have hp : Sm (fun k => k ≠ w7.heap.size) W9 (W9.putObj w7.heap.size (.deferred none)) := Sm.putObj _ _ _ (fun h => h rfl)
          refine leave_mark rfl hK2 (results_cells3 rfl _ _ rfl rfl rfl (load_var1 (Tryz.isAgg30 _) (putObj_cell hK2 hub.c8)) (load_var1 (Tryz.isAgg4 _) (putObj_cell hK2 hub.c9)) (load_var1 (Tryz.isAgg31 _) (putObj_cell hK2 hub.c10))) ?_
          refine ⟨A, n, c, rfl, ⟨hub.b.trans (hp.below (fun k hk => by omega) (by have := hub.z; omega))⟩, Lib.hid (own_numK (h2'.smo hp (fun k hk e => h3 k hk (by rw [e]; exact hED)))).nums, h2.cap⟩
  · have hE : er = chk V.r b ∧ MR = false ∧ LR = [] := by
      obtain ⟨h1, h2, h3⟩ := HX.out
      rw [if_neg hc] at h1
      rw [h1, if_neg hc] at h2 h3
      exact ⟨h1, h2.symm, h3.symm⟩
    obtain ⟨rfl, rfl, rfl⟩ := hE
    have hcb : (chk V.r b == 0) = false := beq_eq_false_iff_ne.2 hc
    clear HX hc
    go_upto_region 2 with (first | (refine wpList_load_rule rfl (.tmp 4) rfl rfl hXr ?_) | (go_at_call 19; refine (cC _ hgw0).mono ?_; rintro e w1 ⟨rfl, hg1⟩))
    have hU1 := hU0.gr hg1
    have c8 := hU1.c8
    have c9 := hU1.c9
    have c10 := hU1.c10
    have f8 := hU1.f8
    have f9 := hU1.f9
    have f10 := hU1.f10
    have HU1 := Lib.hid hU1
    clear hU0 hU1 hXr cC hg1 hgw0 hM
    go_wp2
    exact HFin.out _ _ none 0 0 (by rfl) (by rfl) (by rfl) (HU1.out.ret none 0 0 false (chk V.r b)) (Nums.nil _ _ _) (Nat.le_refl _)
end Go.Proofs.YtmbmkldcedkbmaaGreat
