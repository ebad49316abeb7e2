/- What expand's times gives: the iterator's contract. -/
import Derived.Test.YtmbmkldcedkbmaaGreatZXD
import Derived.Test.YtmbmkldcedkbmaaGreatZF
namespace Go.Proofs.YtmbmkldcedkbmaaGreat
open Go.RowKit Go.Shelf
attribute [local go_sem] Oper.semAt_some

theorem upto_secs (r : Rm.Ru) (b : Int) : (Ex.secs r b).length ≤ 86400 := by
  unfold Ex.secs
  refine Nat.le_trans (List.length_filter_le _ _) ?_
  rw [Ex.upto_len]; exact Nat.le_refl _
theorem days_len (r : Rm.Ru) (db f l : Int) (h1 : 1 ≤ f ∧ l ≤ 3652059) : (Ex.dayL r db f l).length ≤ 3652059 := by
  unfold Ex.dayL Ex.days
  refine Nat.le_trans (List.length_filter_le _ _) ?_
  rw [List.length_map, List.length_range]; omega
theorem dayL_mem {r : Rm.Ru} {db f l x : Int} (h : x ∈ Ex.dayL r db f l) : f ≤ x ∧ x ≤ l := Ex.days_mem.1 (List.mem_filter.1 h).1
/- one box -/
structure OneB (W0 w : World) (b : Nat) (v : Value) : Prop where
  c : w.cell? ⟨b, 0, none⟩ = some v
  f : w.frozen? ⟨b, 0, none⟩ = false
  h : W0.heap.size ≤ b
theorem OneB.lt {W0 w : World} {b : Nat} {v : Value} (h : OneB W0 w b v) : b < w.heap.size := World.block_lt_of_cell? _ _ h.c
theorem OneB.gr {W0 w w' : World} {b : Nat} {v : Value} (h : OneB W0 w b v) (hg : Gr w w') : OneB W0 w' b v := ⟨gr_cell hg h.c, (hg.frozen h.lt).trans h.f, h.h⟩
theorem OneB.new {W0 w : World} (hg : Gr W0 w) (v : Value) (t : TypeId) : OneB W0 (w.alloc (.cells #[v] t)) w.heap.size v :=
  ⟨by simp, box_free (Gr.refl _) 0, hg.lt⟩
/- what a round reads -/
structure TiF (w : World) (by_ b1 b5 b6 bp lp : Nat) (A : Option Addr) (n c : Nat) (ss : List Int) (Ad : Option Addr) (nd cd : Nat) (ds : List Int) (K : Nat → Prop) : Prop where
  y : w.cell? ⟨by_, 0, none⟩ = some (.func (.yield lp) #[] #[])
  p : w.cell? ⟨b1, 0, none⟩ = some (.pointer (some ⟨bp, 0, none⟩))
  l5 : w.cell? ⟨b5, 0, none⟩ = some (.slice Ad nd cd)
  l6 : w.cell? ⟨b6, 0, none⟩ = some (.int .i64 (n : Int))
  c19 : w.cell? ⟨bp, 19, none⟩ = some (.slice A n c)
  s : NumK w K A n ss
  d : NumK w K Ad nd ds
  ky : K by_
  k1 : K b1
  k5 : K b5
  k6 : K b6
  kp : K bp
theorem TiF.sm {w w' : World} {by_ b1 b5 b6 bp lp : Nat} {A : Option Addr} {n c : Nat} {ss : List Int} {Ad : Option Addr} {nd cd : Nat} {ds : List Int} {K K' : Nat → Prop} (h : TiF w by_ b1 b5 b6 bp lp A n c ss Ad nd cd ds K) (hs : Sm K' w w') (hK : ∀ k, K k → K' k) :
    TiF w' by_ b1 b5 b6 bp lp A n c ss Ad nd cd ds K :=
  ⟨hs.cell (hK _ h.ky) h.y, hs.cell (hK _ h.k1) h.p, hs.cell (hK _ h.k5) h.l5, hs.cell (hK _ h.k6) h.l6, hs.cell (hK _ h.kp) h.c19, h.s.sm hs (fun k hk _ => hK k hk), h.d.sm hs (fun k hk _ => hK k hk), h.ky, h.k1, h.k5, h.k6, h.kp⟩
theorem or_falseE (E : Nat → Prop) : (fun k => E k ∨ (fun _ : Nat => False) k) = E := funext fun _ => propext ⟨fun h => h.elim id False.elim, .inl⟩
/- what abides carries over to a loop within -/
theorem Ab.inner {α : Type} {J : (Nat → Prop) → List α → World → Prop} (hJ : Ab J) (E0 E : Nat → Prop) (s : List α) (A B : World) (h : J (fun k => E0 k ∨ E k) s A) (hs : Sm (fun k => ¬ E k) A B) : J (fun k => E0 k ∨ Gw E A B k) s B := by
  have := hJ _ _ _ _ h (hs.weak (fun k hk he => hk (.inr he)))
  rwa [Gw_or] at this
theorem Ab.same {α : Type} {J : (Nat → Prop) → List α → World → Prop} (hJ : Ab J) (E : Nat → Prop) (s : List α) (A B : World) (h : J E s A) (hs : Sm (fun k => ¬ E k) A B) (hz : B.heap.size = A.heap.size) : J E s B := by
  have := hJ _ _ _ _ h hs
  rwa [Gw_same hz] at this
set_option maxRecDepth 100000 in
set_option maxHeartbeats 8000000 in
theorem times_seq (V : Rm.Rv) (bp : Nat) (beg db : Int) (A : Option Addr) (n c : Nat) (ss : List Int) (b1 b2 b3 : Nat) (f l : Int) (w : World) (Kr : Nat → Prop) (B : Nat)
    (h1 : w.cell? ⟨b1, 0, none⟩ = some (.pointer (some ⟨bp, 0, none⟩))) (h2 : w.cell? ⟨b2, 0, none⟩ = some (.int .i64 f)) (h3 : w.cell? ⟨b3, 0, none⟩ = some (.int .i64 l))
    (hP : PatB w bp V beg db A n c) (hM : RuM w B V) (hB : B ≤ w.heap.size) (hS : NumK w Kr A n ss) (hss : ∀ s ∈ ss, 0 ≤ s ∧ s < 86400) (hns : 0 < n ∧ n ≤ 86400)
    (k1 : Kr b1) (kp : Kr bp) (hKr : ∀ k, Kr k → k < w.heap.size)
    (hdn : V.day.n ≤ 140737488355328) (hn : ∀ i, i < 8 → (V.sl i).n ≤ 1000000) (hf : Rm.fm V.r = true) (hdb : Cal.dayB db = true) (f1 : 1 ≤ f) (l1 : l ≤ 3652059) (hfl : f ≤ l + 1) :
    SeqE 3 Tryz.prog 41 #[.pointer (some ⟨b1, 0, none⟩), .pointer (some ⟨b2, 0, none⟩), .pointer (some ⟨b3, 0, none⟩)] encInt Kr (Ex.picked V.r.pos ((Ex.dayL V.r db f l).flatMap (Ex.ofDay ss))) w := by
  intro lp J Jx W hg hJ hJx hY h0
  replace h1 := gr_cell hg h1
  replace h2 := gr_cell hg h2
  replace h3 := gr_cell hg h3
  replace hP := hP.gr hg
  replace hM := (hM.keep (hg.below.mono hB)).more (Nat.le_trans hB hg.lt)
  replace hS := hS.sm (hg.sm (fun _ => True)) (fun _ _ _ => trivial)
  have hKr : ∀ k, Kr k → k < W.heap.size := fun k h => Nat.lt_of_lt_of_le (hKr k h) hg.lt
  clear hg
  have hpos := hM.l 7 (by omega)
  change Nums W W.heap.size V.pos.A V.pos.n V.r.pos at hpos
  have hp7 : Rm.fine 7 V.r.pos = true := by
    unfold Rm.fm Rm.fmL at hf
    simp only [Bool.and_eq_true] at hf
    exact hf.1.2.2
  obtain ⟨p40, _, _, _, hp⟩ := Ex.fine_bd hp7
  have hp := hp rfl
  have hpn : V.pos.n ≤ 1000 := by rw [← hpos.1]; omega
  have cD := fun w' (h : Gr W w') => days_any V bp beg db A n c f l w' (hP.gr h) (hM.gr h) hdn hn hf hdb f1 l1 hfl
  have cK := fun N w' (h : Gr W w') h0 hN => kept_any V.pos.A V.pos.n V.pos.c V.r.pos N w' (hpos.gr h) hpn hp h0 hN
  have hdl := days_len V.r db f l ⟨f1, l1⟩
  have hdm : ∀ x ∈ Ex.dayL V.r db f l, 1 ≤ x ∧ x ≤ 3652059 := fun x hx => by have := dayL_mem hx; omega
  have hxs := Ex.picked_tm (pos := V.r.pos) (ds := Ex.dayL V.r db f l) (ss := ss) (by rw [hS.1]; exact hns.1)
  rw [hxs] at hY ⊢
  clear hxs hp7 p40 hp hpos
  have HXS : Hid ((Ex.ks V.r.pos (((Ex.dayL V.r db f l).length * ss.length : Nat) : Int)).map (Ex.tmK (Ex.dayL V.r db f l) ss) = (Ex.ks V.r.pos (((Ex.dayL V.r db f l).length * ss.length : Nat) : Int)).map (Ex.tmK (Ex.dayL V.r db f l) ss)) := Lib.hid rfl
  revert HXS
  generalize hXS : (Ex.ks V.r.pos (((Ex.dayL V.r db f l).length * ss.length : Nat) : Int)).map (Ex.tmK (Ex.dayL V.r db f l) ss) = XS at hY ⊢
  intro HXS0
  clear HXS0
  have HXS := Lib.hid hXS
  clear hXS
  have HY := Lib.hid hY
  have HJ := Lib.hid (And.intro hJ hJx)
  have H0 := Lib.hid h0
  clear hY hJ hJx h0
  refine callsIn_of_wp_marks Tryz.func41 rfl trivial ?_ rfl
  refine wpIn_wide.2 ?_
  simp only [Tryz.ntmps41, List.size_toArray, List.length_cons, List.length_nil, Nat.reduceAdd, Nat.reduceSub, Array.replicate_succ, Array.replicate_zero, List.push_toArray, List.append_toArray, List.nil_append, List.cons_append]
  go_upto_region 1 with fail
  have hga : Gr W (W.alloc (.cells #[.func (.yield lp) #[] #[]] 34)) := (Gr.refl W).allocO _
  have cy : (W.alloc (.cells #[.func (.yield lp) #[] #[]] 34)).cell? ⟨W.heap.size, 0, none⟩ = some (.func (.yield lp) #[] #[]) := by simp
  have c1 := gr_cell hga h1
  have c2 := gr_cell hga h2
  have c3 := gr_cell hga h3
  have c19 := gr_cell hga hP.c19
  have HZ0 := Lib.hid (show (W.alloc (.cells #[.func (.yield lp) #[] #[]] 34)).heap.size = W.heap.size + 1 by simp)
  generalize W.alloc (.cells #[.func (.yield lp) #[] #[]] 34) = W0 at *
  refine Code.wp_mono (Q := fun e a w' => e = .normal ∧ ∃ (b5 b6 : Nat) (Ad : Option Addr) (nd cd : Nat), a = { tmps := #[.func (.yield lp) #[] #[], .pointer (some ⟨b1, 0, none⟩), .pointer (some ⟨b2, 0, none⟩), .pointer (some ⟨b3, 0, none⟩), .pointer (some ⟨W.heap.size, 0, none⟩), .pointer (some ⟨b5, 0, none⟩), .pointer (some ⟨b6, 0, none⟩), undef, undef, undef,
      .pointer (some ⟨bp, 0, none⟩), .int .i64 f, .int .i64 l, .slice Ad nd cd, .pointer (some ⟨bp, 0, none⟩), .pointer (some ⟨bp, 0, none⟩), .pointer (some ⟨bp, 19, none⟩), .slice A n c, .int .i64 (n : Int), undef, undef, undef, undef, undef, undef, undef, undef, undef, undef, undef, undef, undef, undef, undef, undef, undef, undef, undef, undef, undef, undef, undef, undef, undef, undef, undef, undef, undef, undef, undef, undef, undef, undef], defers := [] } ∧
      Gr W0 w' ∧ w'.cell? ⟨b5, 0, none⟩ = some (.slice Ad nd cd) ∧ w'.cell? ⟨b6, 0, none⟩ = some (.int .i64 (n : Int)) ∧ W0.heap.size ≤ b5 ∧ W0.heap.size ≤ b6 ∧ NumK w' (fun k => W0.heap.size ≤ k) Ad nd (Ex.dayL V.r db f l)) ?rest ?region
  case region =>
    refine wp_region_S 13 (fun w' : World => Gr W0 w') (by kernel_rfl) rfl ?_
    have hS0 : (fun w' : World => Gr W0 w') W0.drew := (Gr.refl _).drew
    generalize W0.drew = W1 at *
    refine WkS.take (i := 0) (v := ?_) (at_lit rfl) (by kernel_rfl) (by kernel_rfl) (by kernel_rfl) rfl (fun _ _ _ h => by first | exact h | (cases h.1)) ?_ hS0 ?_
    rotate_left 1
    · intro w' hw
      have k0 := gr_cell hw c1
      clear hw
      go_simp
      first | done | rfl
    try simp only [Act.put, List.setIfInBounds_toArray, List.set_cons_zero, List.set_cons_succ]
    refine WkS.take (i := 1) (v := ?_) (at_lit rfl) (by kernel_rfl) (by kernel_rfl) (by kernel_rfl) rfl (fun _ _ _ h => by first | exact h | (cases h.1)) ?_ hS0 ?_
    rotate_left 1
    · intro w' hw
      have k0 := gr_cell hw c2
      clear hw
      go_simp
      first | done | rfl
    try simp only [Act.put, List.setIfInBounds_toArray, List.set_cons_zero, List.set_cons_succ]
    refine WkS.take (i := 2) (v := ?_) (at_lit rfl) (by kernel_rfl) (by kernel_rfl) (by kernel_rfl) rfl (fun _ _ _ h => by first | exact h | (cases h.1)) ?_ hS0 ?_
    rotate_left 1
    · intro w' hw
      have k0 := gr_cell hw c3
      clear hw
      go_simp
      first | done | rfl
    try simp only [Act.put, List.setIfInBounds_toArray, List.set_cons_zero, List.set_cons_succ]
    refine WkS.take (i := 4) (v := ?_) (at_lit rfl) (by kernel_rfl) (by kernel_rfl) (by kernel_rfl) rfl (fun _ _ _ h => by first | exact h | (cases h.1)) ?_ hS0 ?_
    rotate_left 1
    · intro w' hw
      have k0 := gr_cell hw c1
      clear hw
      go_simp
      first | done | rfl
    try simp only [Act.put, List.setIfInBounds_toArray, List.set_cons_zero, List.set_cons_succ]
    refine WkS.take (i := 5) (v := ?_) (at_lit rfl) (by kernel_rfl) (by kernel_rfl) (by kernel_rfl) rfl (fun _ _ _ h => by first | exact h | (cases h.1)) ?_ hS0 ?_
    rotate_left 1
    · intro w' hw
      clear hw
      go_simp
      first | done | rfl
    try simp only [Act.put, List.setIfInBounds_toArray, List.set_cons_zero, List.set_cons_succ]
    refine WkS.take (i := 6) (v := ?_) (at_lit rfl) (by kernel_rfl) (by kernel_rfl) (by kernel_rfl) rfl (fun _ _ _ h => by first | exact h | (cases h.1)) ?_ hS0 ?_
    rotate_left 1
    · intro w' hw
      clear hw
      go_simp
      first | done | rfl
    try simp only [Act.put, List.setIfInBounds_toArray, List.set_cons_zero, List.set_cons_succ]
    refine WkS.take (i := 7) (v := ?_) (at_lit rfl) (by kernel_rfl) (by kernel_rfl) (by kernel_rfl) rfl (fun _ _ _ h => by first | exact h | (cases h.1)) ?_ hS0 ?_
    rotate_left 1
    · intro w' hw
      have k0 := gr_cell hw c19
      clear hw
      go_simp
      first | done | rfl
    try simp only [Act.put, List.setIfInBounds_toArray, List.set_cons_zero, List.set_cons_succ]
    refine WkS.take (i := 8) (v := ?_) (at_lit rfl) (by kernel_rfl) (by kernel_rfl) (by kernel_rfl) rfl (fun _ _ _ h => by first | exact h | (cases h.1)) ?_ hS0 ?_
    rotate_left 1
    · intro w' hw
      clear hw
      go_simp
      first | done | rfl
    try simp only [Act.put, List.setIfInBounds_toArray, List.set_cons_zero, List.set_cons_succ]
    refine WkS.these (is := [3, 9, 10]) (by kernel_rfl) (by simp) (fun i hi => ?_)
    simp only [List.mem_cons, List.not_mem_nil, or_false] at hi
    rcases hi with rfl | rfl | rfl
    · refine WkS.op (at_lit rfl) rfl (fun K hK => ?_)
      go_simp
      refine (cD _ (hga.trans hS0)).mono ?_
      rintro e y1 ⟨Ad, nd, cd, rfl, hg2, ho⟩
      have hS1 : Gr W0 y1 := hS0.trans hg2
      refine hK _ _ ⟨hS1, ?_⟩
      clear hK K
      have hlS := hS0.lt
      have hk3 : NumK y1 (fun k => W0.heap.size ≤ k) Ad nd (Ex.dayL V.r db f l) := (own_numK ho.out).weak (fun k _ h => by omega)
      clear ho hg2 hlS
      try simp only [Act.put, List.setIfInBounds_toArray, List.set_cons_zero, List.set_cons_succ]
      refine WkS.these (is := [9, 10]) (by kernel_rfl) (by simp) (fun i hi => ?_)
      simp only [List.mem_cons, List.not_mem_nil, or_false] at hi
      rcases hi with rfl | rfl
      · refine WkS.op (at_lit rfl) rfl (fun K hK => ?_)
        go_simp
        have o5 := OneB.new hS1 (.slice none 0 0) 24
        have hgn : Gr y1 (y1.alloc (.cells #[.slice none 0 0] 24)) := (Gr.refl _).allocO _
        have hS2 : Gr W0 (y1.alloc (.cells #[.slice none 0 0] 24)) := hS1.trans hgn
        have hk3 := (hk3.weak (K' := fun k => W0.heap.size ≤ k ∧ k ≠ y1.heap.size) (fun k hk h => by omega)).sm (hgn.sm (fun _ => True)) (fun _ _ _ => trivial)
        refine hK _ _ ⟨hS2, ?_⟩
        clear hK K hgn
        generalize y1.alloc (Obj.cells #[Value.slice none 0 0] 24) = y2 at *
        generalize y1.heap.size = b5 at *
        try simp only [Act.put, List.setIfInBounds_toArray, List.set_cons_zero, List.set_cons_succ]
        refine WkS.these (is := [10]) (by kernel_rfl) (by simp) (fun i hi => ?_)
        obtain rfl := List.mem_singleton.1 hi
        clear hi
        refine WkS.op (at_lit rfl) rfl (fun K hK => ?_)
        go_simp
        have o6 := OneB.new hS2 (.int .i64 0) 3
        have hgn : Gr y2 (y2.alloc (.cells #[.int .i64 0] 3)) := (Gr.refl _).allocO _
        have hS3 : Gr W0 (y2.alloc (.cells #[.int .i64 0] 3)) := hS2.trans hgn
        have hk3 := (hk3.weak (K' := fun k => W0.heap.size ≤ k ∧ k ≠ b5 ∧ k ≠ y2.heap.size) (fun k hk h => by omega)).sm (hgn.sm (fun _ => True)) (fun _ _ _ => trivial)
        have hne : b5 ≠ y2.heap.size := Nat.ne_of_lt o5.lt
        have o5 := o5.gr hgn
        refine hK _ _ ⟨hS3, ?_⟩
        clear hK K hgn
        generalize y2.alloc (Obj.cells #[Value.int .i64 0] 3) = y3 at *
        generalize y2.heap.size = b6 at *
        try simp only [Act.put, List.setIfInBounds_toArray, List.set_cons_zero, List.set_cons_succ]
        clear cD
        have hk3 := hk3.weak (K' := fun k => W0.heap.size ≤ k ∧ k ≠ b5 ∧ k ≠ b6) (fun k _ h => by omega)
        obtain ⟨hc5, hf5, hh5⟩ := o5
        obtain ⟨hc6, hf6, hh6⟩ := o6
        refine WkS.these (is := [11]) (by kernel_rfl) (by simp) (fun i hi => ?_)
        obtain rfl := List.mem_singleton.1 hi
        clear hi
        refine WkS.op (at_lit rfl) rfl (fun K hK => ?_)
        go_simp
        have hT : Gr W0 (y3.setCell ⟨b5, 0, none⟩ (.slice Ad nd cd)) := ⟨hS3.below.setCell (p := ⟨b5, 0, none⟩) hh5 _⟩
        have hk3 := hk3.sm (Sm.setCell (fun k => k ≠ b5) y3 ⟨b5, 0, none⟩ (.slice Ad nd cd) (fun h => h rfl)) (fun k h _ => h.2.1)
        have g5 : (y3.setCell ⟨b5, 0, none⟩ (.slice Ad nd cd)).cell? ⟨b5, 0, none⟩ = some (.slice Ad nd cd) := World.cell?_setCell_same _ _ _ hc5
        have g6 : (y3.setCell ⟨b5, 0, none⟩ (.slice Ad nd cd)).cell? ⟨b6, 0, none⟩ = some (.int .i64 0) := by rw [World.cell?_setCell_other (h := fun e => absurd (congrArg Addr.block e) (by dsimp only; omega))]; exact hc6
        have f6 : (y3.setCell ⟨b5, 0, none⟩ (.slice Ad nd cd)).frozen? ⟨b6, 0, none⟩ = false := by rw [World.frozen?_setCell]; exact hf6
        refine hK _ _ ⟨hT, ?_⟩
        clear hK K hc5 hf5 hc6 hf6
        generalize y3.setCell _ _ = Y at *
        try simp only [Act.put, List.setIfInBounds_toArray, List.set_cons_zero, List.set_cons_succ]
        refine WkS.these (is := [12]) (by kernel_rfl) (by simp) (fun i hi => ?_)
        obtain rfl := List.mem_singleton.1 hi
        clear hi
        refine WkS.op (at_lit rfl) rfl (fun K hK => ?_)
        go_simp
        have hT2 : Gr W0 (Y.setCell ⟨b6, 0, none⟩ (.int .i64 (n : Int))) := ⟨hT.below.setCell (p := ⟨b6, 0, none⟩) hh6 _⟩
        have hk3 := hk3.sm (Sm.setCell (fun k => k ≠ b6) Y ⟨b6, 0, none⟩ (.int .i64 (n : Int)) (fun h => h rfl)) (fun k h _ => h.2.2)
        have e6 : (Y.setCell ⟨b6, 0, none⟩ (.int .i64 (n : Int))).cell? ⟨b6, 0, none⟩ = some (.int .i64 (n : Int)) := World.cell?_setCell_same _ _ _ g6
        have e5 : (Y.setCell ⟨b6, 0, none⟩ (.int .i64 (n : Int))).cell? ⟨b5, 0, none⟩ = some (.slice Ad nd cd) := by rw [World.cell?_setCell_other (h := fun e => absurd (congrArg Addr.block e) (by dsimp only; omega))]; exact g5
        refine hK _ _ ⟨hT2, ?_⟩
        clear hK K
        refine WkS.done (by kernel_rfl) ?_
        exact ⟨rfl, b5, b6, Ad, nd, cd, rfl, hT2, e5, e6, hh5, hh6, hk3.weak (fun k _ h => h.1)⟩
      · refine WkS.op (at_lit rfl) rfl (fun K hK => ?_)
        go_simp
        have o6 := OneB.new hS1 (.int .i64 0) 3
        have hgn : Gr y1 (y1.alloc (.cells #[.int .i64 0] 3)) := (Gr.refl _).allocO _
        have hS2 : Gr W0 (y1.alloc (.cells #[.int .i64 0] 3)) := hS1.trans hgn
        have hk3 := (hk3.weak (K' := fun k => W0.heap.size ≤ k ∧ k ≠ y1.heap.size) (fun k hk h => by omega)).sm (hgn.sm (fun _ => True)) (fun _ _ _ => trivial)
        refine hK _ _ ⟨hS2, ?_⟩
        clear hK K hgn
        generalize y1.alloc (Obj.cells #[Value.int .i64 0] 3) = y2 at *
        generalize y1.heap.size = b6 at *
        try simp only [Act.put, List.setIfInBounds_toArray, List.set_cons_zero, List.set_cons_succ]
        refine WkS.these (is := [9]) (by kernel_rfl) (by simp) (fun i hi => ?_)
        obtain rfl := List.mem_singleton.1 hi
        clear hi
        refine WkS.op (at_lit rfl) rfl (fun K hK => ?_)
        go_simp
        have o5 := OneB.new hS2 (.slice none 0 0) 24
        have hgn : Gr y2 (y2.alloc (.cells #[.slice none 0 0] 24)) := (Gr.refl _).allocO _
        have hS3 : Gr W0 (y2.alloc (.cells #[.slice none 0 0] 24)) := hS2.trans hgn
        have hk3 := (hk3.weak (K' := fun k => W0.heap.size ≤ k ∧ k ≠ b6 ∧ k ≠ y2.heap.size) (fun k hk h => by omega)).sm (hgn.sm (fun _ => True)) (fun _ _ _ => trivial)
        have hne : b6 ≠ y2.heap.size := Nat.ne_of_lt o6.lt
        have o6 := o6.gr hgn
        refine hK _ _ ⟨hS3, ?_⟩
        clear hK K hgn
        generalize y2.alloc (Obj.cells #[Value.slice none 0 0] 24) = y3 at *
        generalize y2.heap.size = b5 at *
        try simp only [Act.put, List.setIfInBounds_toArray, List.set_cons_zero, List.set_cons_succ]
        clear cD
        have hk3 := hk3.weak (K' := fun k => W0.heap.size ≤ k ∧ k ≠ b5 ∧ k ≠ b6) (fun k _ h => by omega)
        obtain ⟨hc5, hf5, hh5⟩ := o5
        obtain ⟨hc6, hf6, hh6⟩ := o6
        refine WkS.these (is := [11]) (by kernel_rfl) (by simp) (fun i hi => ?_)
        obtain rfl := List.mem_singleton.1 hi
        clear hi
        refine WkS.op (at_lit rfl) rfl (fun K hK => ?_)
        go_simp
        have hT : Gr W0 (y3.setCell ⟨b5, 0, none⟩ (.slice Ad nd cd)) := ⟨hS3.below.setCell (p := ⟨b5, 0, none⟩) hh5 _⟩
        have hk3 := hk3.sm (Sm.setCell (fun k => k ≠ b5) y3 ⟨b5, 0, none⟩ (.slice Ad nd cd) (fun h => h rfl)) (fun k h _ => h.2.1)
        have g5 : (y3.setCell ⟨b5, 0, none⟩ (.slice Ad nd cd)).cell? ⟨b5, 0, none⟩ = some (.slice Ad nd cd) := World.cell?_setCell_same _ _ _ hc5
        have g6 : (y3.setCell ⟨b5, 0, none⟩ (.slice Ad nd cd)).cell? ⟨b6, 0, none⟩ = some (.int .i64 0) := by rw [World.cell?_setCell_other (h := fun e => absurd (congrArg Addr.block e) (by dsimp only; omega))]; exact hc6
        have f6 : (y3.setCell ⟨b5, 0, none⟩ (.slice Ad nd cd)).frozen? ⟨b6, 0, none⟩ = false := by rw [World.frozen?_setCell]; exact hf6
        refine hK _ _ ⟨hT, ?_⟩
        clear hK K hc5 hf5 hc6 hf6
        generalize y3.setCell _ _ = Y at *
        try simp only [Act.put, List.setIfInBounds_toArray, List.set_cons_zero, List.set_cons_succ]
        refine WkS.these (is := [12]) (by kernel_rfl) (by simp) (fun i hi => ?_)
        obtain rfl := List.mem_singleton.1 hi
        clear hi
        refine WkS.op (at_lit rfl) rfl (fun K hK => ?_)
        go_simp
        have hT2 : Gr W0 (Y.setCell ⟨b6, 0, none⟩ (.int .i64 (n : Int))) := ⟨hT.below.setCell (p := ⟨b6, 0, none⟩) hh6 _⟩
        have hk3 := hk3.sm (Sm.setCell (fun k => k ≠ b6) Y ⟨b6, 0, none⟩ (.int .i64 (n : Int)) (fun h => h rfl)) (fun k h _ => h.2.2)
        have e6 : (Y.setCell ⟨b6, 0, none⟩ (.int .i64 (n : Int))).cell? ⟨b6, 0, none⟩ = some (.int .i64 (n : Int)) := World.cell?_setCell_same _ _ _ g6
        have e5 : (Y.setCell ⟨b6, 0, none⟩ (.int .i64 (n : Int))).cell? ⟨b5, 0, none⟩ = some (.slice Ad nd cd) := by rw [World.cell?_setCell_other (h := fun e => absurd (congrArg Addr.block e) (by dsimp only; omega))]; exact g5
        refine hK _ _ ⟨hT2, ?_⟩
        clear hK K
        refine WkS.done (by kernel_rfl) ?_
        exact ⟨rfl, b5, b6, Ad, nd, cd, rfl, hT2, e5, e6, hh5, hh6, hk3.weak (fun k _ h => h.1)⟩
    · refine WkS.op (at_lit rfl) rfl (fun K hK => ?_)
      go_simp
      have o5 := OneB.new hS0 (.slice none 0 0) 24
      have hgn : Gr W1 (W1.alloc (.cells #[.slice none 0 0] 24)) := (Gr.refl _).allocO _
      have hS1 : Gr W0 (W1.alloc (.cells #[.slice none 0 0] 24)) := hS0.trans hgn
      refine hK _ _ ⟨hS1, ?_⟩
      clear hK K hgn
      generalize W1.alloc (Obj.cells #[Value.slice none 0 0] 24) = y1 at *
      generalize W1.heap.size = b5 at *
      try simp only [Act.put, List.setIfInBounds_toArray, List.set_cons_zero, List.set_cons_succ]
      refine WkS.these (is := [3, 10]) (by kernel_rfl) (by simp) (fun i hi => ?_)
      simp only [List.mem_cons, List.not_mem_nil, or_false] at hi
      rcases hi with rfl | rfl
      · refine WkS.op (at_lit rfl) rfl (fun K hK => ?_)
        go_simp
        refine (cD _ (hga.trans hS1)).mono ?_
        rintro e y2 ⟨Ad, nd, cd, rfl, hg2, ho⟩
        have hS2 : Gr W0 y2 := hS1.trans hg2
        refine hK _ _ ⟨hS2, ?_⟩
        clear hK K
        have hlS := hS1.lt
        have hl5 := o5.lt
        have hk3 : NumK y2 (fun k => W0.heap.size ≤ k ∧ k ≠ b5) Ad nd (Ex.dayL V.r db f l) := (own_numK ho.out).weak (fun k _ h => by omega)
        have o5 := o5.gr hg2
        clear ho hg2 hlS hl5
        try simp only [Act.put, List.setIfInBounds_toArray, List.set_cons_zero, List.set_cons_succ]
        refine WkS.these (is := [10]) (by kernel_rfl) (by simp) (fun i hi => ?_)
        obtain rfl := List.mem_singleton.1 hi
        clear hi
        refine WkS.op (at_lit rfl) rfl (fun K hK => ?_)
        go_simp
        have o6 := OneB.new hS2 (.int .i64 0) 3
        have hgn : Gr y2 (y2.alloc (.cells #[.int .i64 0] 3)) := (Gr.refl _).allocO _
        have hS3 : Gr W0 (y2.alloc (.cells #[.int .i64 0] 3)) := hS2.trans hgn
        have hne : b5 ≠ y2.heap.size := Nat.ne_of_lt o5.lt
        have o5 := o5.gr hgn
        have hk3 := (hk3.weak (K' := fun k => W0.heap.size ≤ k ∧ k ≠ b5 ∧ k ≠ y2.heap.size) (fun k hk h => by omega)).sm (hgn.sm (fun _ => True)) (fun _ _ _ => trivial)
        refine hK _ _ ⟨hS3, ?_⟩
        clear hK K hgn
        generalize y2.alloc (Obj.cells #[Value.int .i64 0] 3) = y3 at *
        generalize y2.heap.size = b6 at *
        try simp only [Act.put, List.setIfInBounds_toArray, List.set_cons_zero, List.set_cons_succ]
        clear cD
        have hk3 := hk3.weak (K' := fun k => W0.heap.size ≤ k ∧ k ≠ b5 ∧ k ≠ b6) (fun k _ h => by omega)
        obtain ⟨hc5, hf5, hh5⟩ := o5
        obtain ⟨hc6, hf6, hh6⟩ := o6
        refine WkS.these (is := [11]) (by kernel_rfl) (by simp) (fun i hi => ?_)
        obtain rfl := List.mem_singleton.1 hi
        clear hi
        refine WkS.op (at_lit rfl) rfl (fun K hK => ?_)
        go_simp
        have hT : Gr W0 (y3.setCell ⟨b5, 0, none⟩ (.slice Ad nd cd)) := ⟨hS3.below.setCell (p := ⟨b5, 0, none⟩) hh5 _⟩
        have hk3 := hk3.sm (Sm.setCell (fun k => k ≠ b5) y3 ⟨b5, 0, none⟩ (.slice Ad nd cd) (fun h => h rfl)) (fun k h _ => h.2.1)
        have g5 : (y3.setCell ⟨b5, 0, none⟩ (.slice Ad nd cd)).cell? ⟨b5, 0, none⟩ = some (.slice Ad nd cd) := World.cell?_setCell_same _ _ _ hc5
        have g6 : (y3.setCell ⟨b5, 0, none⟩ (.slice Ad nd cd)).cell? ⟨b6, 0, none⟩ = some (.int .i64 0) := by rw [World.cell?_setCell_other (h := fun e => absurd (congrArg Addr.block e) (by dsimp only; omega))]; exact hc6
        have f6 : (y3.setCell ⟨b5, 0, none⟩ (.slice Ad nd cd)).frozen? ⟨b6, 0, none⟩ = false := by rw [World.frozen?_setCell]; exact hf6
        refine hK _ _ ⟨hT, ?_⟩
        clear hK K hc5 hf5 hc6 hf6
        generalize y3.setCell _ _ = Y at *
        try simp only [Act.put, List.setIfInBounds_toArray, List.set_cons_zero, List.set_cons_succ]
        refine WkS.these (is := [12]) (by kernel_rfl) (by simp) (fun i hi => ?_)
        obtain rfl := List.mem_singleton.1 hi
        clear hi
        refine WkS.op (at_lit rfl) rfl (fun K hK => ?_)
        go_simp
        have hT2 : Gr W0 (Y.setCell ⟨b6, 0, none⟩ (.int .i64 (n : Int))) := ⟨hT.below.setCell (p := ⟨b6, 0, none⟩) hh6 _⟩
        have hk3 := hk3.sm (Sm.setCell (fun k => k ≠ b6) Y ⟨b6, 0, none⟩ (.int .i64 (n : Int)) (fun h => h rfl)) (fun k h _ => h.2.2)
        have e6 : (Y.setCell ⟨b6, 0, none⟩ (.int .i64 (n : Int))).cell? ⟨b6, 0, none⟩ = some (.int .i64 (n : Int)) := World.cell?_setCell_same _ _ _ g6
        have e5 : (Y.setCell ⟨b6, 0, none⟩ (.int .i64 (n : Int))).cell? ⟨b5, 0, none⟩ = some (.slice Ad nd cd) := by rw [World.cell?_setCell_other (h := fun e => absurd (congrArg Addr.block e) (by dsimp only; omega))]; exact g5
        refine hK _ _ ⟨hT2, ?_⟩
        clear hK K
        refine WkS.done (by kernel_rfl) ?_
        exact ⟨rfl, b5, b6, Ad, nd, cd, rfl, hT2, e5, e6, hh5, hh6, hk3.weak (fun k _ h => h.1)⟩
      · refine WkS.op (at_lit rfl) rfl (fun K hK => ?_)
        go_simp
        have o6 := OneB.new hS1 (.int .i64 0) 3
        have hgn : Gr y1 (y1.alloc (.cells #[.int .i64 0] 3)) := (Gr.refl _).allocO _
        have hS2 : Gr W0 (y1.alloc (.cells #[.int .i64 0] 3)) := hS1.trans hgn
        have hne : b5 ≠ y1.heap.size := Nat.ne_of_lt o5.lt
        have o5 := o5.gr hgn
        refine hK _ _ ⟨hS2, ?_⟩
        clear hK K hgn
        generalize y1.alloc (Obj.cells #[Value.int .i64 0] 3) = y2 at *
        generalize y1.heap.size = b6 at *
        try simp only [Act.put, List.setIfInBounds_toArray, List.set_cons_zero, List.set_cons_succ]
        refine WkS.these (is := [3]) (by kernel_rfl) (by simp) (fun i hi => ?_)
        obtain rfl := List.mem_singleton.1 hi
        clear hi
        refine WkS.op (at_lit rfl) rfl (fun K hK => ?_)
        go_simp
        refine (cD _ (hga.trans hS2)).mono ?_
        rintro e y3 ⟨Ad, nd, cd, rfl, hg2, ho⟩
        have hS3 : Gr W0 y3 := hS2.trans hg2
        refine hK _ _ ⟨hS3, ?_⟩
        clear hK K
        have hlS := hS2.lt
        have hl5 := o5.lt
        have hl6 := o6.lt
        have hk3 : NumK y3 (fun k => W0.heap.size ≤ k ∧ k ≠ b5 ∧ k ≠ b6) Ad nd (Ex.dayL V.r db f l) := (own_numK ho.out).weak (fun k _ h => by omega)
        have o5 := o5.gr hg2
        have o6 := o6.gr hg2
        clear ho hg2 hlS hl5 hl6
        try simp only [Act.put, List.setIfInBounds_toArray, List.set_cons_zero, List.set_cons_succ]
        clear cD
        have hk3 := hk3.weak (K' := fun k => W0.heap.size ≤ k ∧ k ≠ b5 ∧ k ≠ b6) (fun k _ h => by omega)
        obtain ⟨hc5, hf5, hh5⟩ := o5
        obtain ⟨hc6, hf6, hh6⟩ := o6
        refine WkS.these (is := [11]) (by kernel_rfl) (by simp) (fun i hi => ?_)
        obtain rfl := List.mem_singleton.1 hi
        clear hi
        refine WkS.op (at_lit rfl) rfl (fun K hK => ?_)
        go_simp
        have hT : Gr W0 (y3.setCell ⟨b5, 0, none⟩ (.slice Ad nd cd)) := ⟨hS3.below.setCell (p := ⟨b5, 0, none⟩) hh5 _⟩
        have hk3 := hk3.sm (Sm.setCell (fun k => k ≠ b5) y3 ⟨b5, 0, none⟩ (.slice Ad nd cd) (fun h => h rfl)) (fun k h _ => h.2.1)
        have g5 : (y3.setCell ⟨b5, 0, none⟩ (.slice Ad nd cd)).cell? ⟨b5, 0, none⟩ = some (.slice Ad nd cd) := World.cell?_setCell_same _ _ _ hc5
        have g6 : (y3.setCell ⟨b5, 0, none⟩ (.slice Ad nd cd)).cell? ⟨b6, 0, none⟩ = some (.int .i64 0) := by rw [World.cell?_setCell_other (h := fun e => absurd (congrArg Addr.block e) (by dsimp only; omega))]; exact hc6
        have f6 : (y3.setCell ⟨b5, 0, none⟩ (.slice Ad nd cd)).frozen? ⟨b6, 0, none⟩ = false := by rw [World.frozen?_setCell]; exact hf6
        refine hK _ _ ⟨hT, ?_⟩
        clear hK K hc5 hf5 hc6 hf6
        generalize y3.setCell _ _ = Y at *
        try simp only [Act.put, List.setIfInBounds_toArray, List.set_cons_zero, List.set_cons_succ]
        refine WkS.these (is := [12]) (by kernel_rfl) (by simp) (fun i hi => ?_)
        obtain rfl := List.mem_singleton.1 hi
        clear hi
        refine WkS.op (at_lit rfl) rfl (fun K hK => ?_)
        go_simp
        have hT2 : Gr W0 (Y.setCell ⟨b6, 0, none⟩ (.int .i64 (n : Int))) := ⟨hT.below.setCell (p := ⟨b6, 0, none⟩) hh6 _⟩
        have hk3 := hk3.sm (Sm.setCell (fun k => k ≠ b6) Y ⟨b6, 0, none⟩ (.int .i64 (n : Int)) (fun h => h rfl)) (fun k h _ => h.2.2)
        have e6 : (Y.setCell ⟨b6, 0, none⟩ (.int .i64 (n : Int))).cell? ⟨b6, 0, none⟩ = some (.int .i64 (n : Int)) := World.cell?_setCell_same _ _ _ g6
        have e5 : (Y.setCell ⟨b6, 0, none⟩ (.int .i64 (n : Int))).cell? ⟨b5, 0, none⟩ = some (.slice Ad nd cd) := by rw [World.cell?_setCell_other (h := fun e => absurd (congrArg Addr.block e) (by dsimp only; omega))]; exact g5
        refine hK _ _ ⟨hT2, ?_⟩
        clear hK K
        refine WkS.done (by kernel_rfl) ?_
        exact ⟨rfl, b5, b6, Ad, nd, cd, rfl, hT2, e5, e6, hh5, hh6, hk3.weak (fun k _ h => h.1)⟩
    · refine WkS.op (at_lit rfl) rfl (fun K hK => ?_)
      go_simp
      have o6 := OneB.new hS0 (.int .i64 0) 3
      have hgn : Gr W1 (W1.alloc (.cells #[.int .i64 0] 3)) := (Gr.refl _).allocO _
      have hS1 : Gr W0 (W1.alloc (.cells #[.int .i64 0] 3)) := hS0.trans hgn
      refine hK _ _ ⟨hS1, ?_⟩
      clear hK K hgn
      generalize W1.alloc (Obj.cells #[Value.int .i64 0] 3) = y1 at *
      generalize W1.heap.size = b6 at *
      try simp only [Act.put, List.setIfInBounds_toArray, List.set_cons_zero, List.set_cons_succ]
      refine WkS.these (is := [3, 9]) (by kernel_rfl) (by simp) (fun i hi => ?_)
      simp only [List.mem_cons, List.not_mem_nil, or_false] at hi
      rcases hi with rfl | rfl
      · refine WkS.op (at_lit rfl) rfl (fun K hK => ?_)
        go_simp
        refine (cD _ (hga.trans hS1)).mono ?_
        rintro e y2 ⟨Ad, nd, cd, rfl, hg2, ho⟩
        have hS2 : Gr W0 y2 := hS1.trans hg2
        refine hK _ _ ⟨hS2, ?_⟩
        clear hK K
        have hlS := hS1.lt
        have hl6 := o6.lt
        have hk3 : NumK y2 (fun k => W0.heap.size ≤ k ∧ k ≠ b6) Ad nd (Ex.dayL V.r db f l) := (own_numK ho.out).weak (fun k _ h => by omega)
        have o6 := o6.gr hg2
        clear ho hg2 hlS hl6
        try simp only [Act.put, List.setIfInBounds_toArray, List.set_cons_zero, List.set_cons_succ]
        refine WkS.these (is := [9]) (by kernel_rfl) (by simp) (fun i hi => ?_)
        obtain rfl := List.mem_singleton.1 hi
        clear hi
        refine WkS.op (at_lit rfl) rfl (fun K hK => ?_)
        go_simp
        have o5 := OneB.new hS2 (.slice none 0 0) 24
        have hgn : Gr y2 (y2.alloc (.cells #[.slice none 0 0] 24)) := (Gr.refl _).allocO _
        have hS3 : Gr W0 (y2.alloc (.cells #[.slice none 0 0] 24)) := hS2.trans hgn
        have hne : b6 ≠ y2.heap.size := Nat.ne_of_lt o6.lt
        have o6 := o6.gr hgn
        have hk3 := (hk3.weak (K' := fun k => W0.heap.size ≤ k ∧ k ≠ b6 ∧ k ≠ y2.heap.size) (fun k hk h => by omega)).sm (hgn.sm (fun _ => True)) (fun _ _ _ => trivial)
        refine hK _ _ ⟨hS3, ?_⟩
        clear hK K hgn
        generalize y2.alloc (Obj.cells #[Value.slice none 0 0] 24) = y3 at *
        generalize y2.heap.size = b5 at *
        try simp only [Act.put, List.setIfInBounds_toArray, List.set_cons_zero, List.set_cons_succ]
        clear cD
        have hk3 := hk3.weak (K' := fun k => W0.heap.size ≤ k ∧ k ≠ b5 ∧ k ≠ b6) (fun k _ h => by omega)
        obtain ⟨hc5, hf5, hh5⟩ := o5
        obtain ⟨hc6, hf6, hh6⟩ := o6
        refine WkS.these (is := [11]) (by kernel_rfl) (by simp) (fun i hi => ?_)
        obtain rfl := List.mem_singleton.1 hi
        clear hi
        refine WkS.op (at_lit rfl) rfl (fun K hK => ?_)
        go_simp
        have hT : Gr W0 (y3.setCell ⟨b5, 0, none⟩ (.slice Ad nd cd)) := ⟨hS3.below.setCell (p := ⟨b5, 0, none⟩) hh5 _⟩
        have hk3 := hk3.sm (Sm.setCell (fun k => k ≠ b5) y3 ⟨b5, 0, none⟩ (.slice Ad nd cd) (fun h => h rfl)) (fun k h _ => h.2.1)
        have g5 : (y3.setCell ⟨b5, 0, none⟩ (.slice Ad nd cd)).cell? ⟨b5, 0, none⟩ = some (.slice Ad nd cd) := World.cell?_setCell_same _ _ _ hc5
        have g6 : (y3.setCell ⟨b5, 0, none⟩ (.slice Ad nd cd)).cell? ⟨b6, 0, none⟩ = some (.int .i64 0) := by rw [World.cell?_setCell_other (h := fun e => absurd (congrArg Addr.block e) (by dsimp only; omega))]; exact hc6
        have f6 : (y3.setCell ⟨b5, 0, none⟩ (.slice Ad nd cd)).frozen? ⟨b6, 0, none⟩ = false := by rw [World.frozen?_setCell]; exact hf6
        refine hK _ _ ⟨hT, ?_⟩
        clear hK K hc5 hf5 hc6 hf6
        generalize y3.setCell _ _ = Y at *
        try simp only [Act.put, List.setIfInBounds_toArray, List.set_cons_zero, List.set_cons_succ]
        refine WkS.these (is := [12]) (by kernel_rfl) (by simp) (fun i hi => ?_)
        obtain rfl := List.mem_singleton.1 hi
        clear hi
        refine WkS.op (at_lit rfl) rfl (fun K hK => ?_)
        go_simp
        have hT2 : Gr W0 (Y.setCell ⟨b6, 0, none⟩ (.int .i64 (n : Int))) := ⟨hT.below.setCell (p := ⟨b6, 0, none⟩) hh6 _⟩
        have hk3 := hk3.sm (Sm.setCell (fun k => k ≠ b6) Y ⟨b6, 0, none⟩ (.int .i64 (n : Int)) (fun h => h rfl)) (fun k h _ => h.2.2)
        have e6 : (Y.setCell ⟨b6, 0, none⟩ (.int .i64 (n : Int))).cell? ⟨b6, 0, none⟩ = some (.int .i64 (n : Int)) := World.cell?_setCell_same _ _ _ g6
        have e5 : (Y.setCell ⟨b6, 0, none⟩ (.int .i64 (n : Int))).cell? ⟨b5, 0, none⟩ = some (.slice Ad nd cd) := by rw [World.cell?_setCell_other (h := fun e => absurd (congrArg Addr.block e) (by dsimp only; omega))]; exact g5
        refine hK _ _ ⟨hT2, ?_⟩
        clear hK K
        refine WkS.done (by kernel_rfl) ?_
        exact ⟨rfl, b5, b6, Ad, nd, cd, rfl, hT2, e5, e6, hh5, hh6, hk3.weak (fun k _ h => h.1)⟩
      · refine WkS.op (at_lit rfl) rfl (fun K hK => ?_)
        go_simp
        have o5 := OneB.new hS1 (.slice none 0 0) 24
        have hgn : Gr y1 (y1.alloc (.cells #[.slice none 0 0] 24)) := (Gr.refl _).allocO _
        have hS2 : Gr W0 (y1.alloc (.cells #[.slice none 0 0] 24)) := hS1.trans hgn
        have hne : b6 ≠ y1.heap.size := Nat.ne_of_lt o6.lt
        have o6 := o6.gr hgn
        refine hK _ _ ⟨hS2, ?_⟩
        clear hK K hgn
        generalize y1.alloc (Obj.cells #[Value.slice none 0 0] 24) = y2 at *
        generalize y1.heap.size = b5 at *
        try simp only [Act.put, List.setIfInBounds_toArray, List.set_cons_zero, List.set_cons_succ]
        refine WkS.these (is := [3]) (by kernel_rfl) (by simp) (fun i hi => ?_)
        obtain rfl := List.mem_singleton.1 hi
        clear hi
        refine WkS.op (at_lit rfl) rfl (fun K hK => ?_)
        go_simp
        refine (cD _ (hga.trans hS2)).mono ?_
        rintro e y3 ⟨Ad, nd, cd, rfl, hg2, ho⟩
        have hS3 : Gr W0 y3 := hS2.trans hg2
        refine hK _ _ ⟨hS3, ?_⟩
        clear hK K
        have hlS := hS2.lt
        have hl6 := o6.lt
        have hl5 := o5.lt
        have hk3 : NumK y3 (fun k => W0.heap.size ≤ k ∧ k ≠ b6 ∧ k ≠ b5) Ad nd (Ex.dayL V.r db f l) := (own_numK ho.out).weak (fun k _ h => by omega)
        have o6 := o6.gr hg2
        have o5 := o5.gr hg2
        clear ho hg2 hlS hl6 hl5
        try simp only [Act.put, List.setIfInBounds_toArray, List.set_cons_zero, List.set_cons_succ]
        clear cD
        have hk3 := hk3.weak (K' := fun k => W0.heap.size ≤ k ∧ k ≠ b5 ∧ k ≠ b6) (fun k _ h => by omega)
        obtain ⟨hc5, hf5, hh5⟩ := o5
        obtain ⟨hc6, hf6, hh6⟩ := o6
        refine WkS.these (is := [11]) (by kernel_rfl) (by simp) (fun i hi => ?_)
        obtain rfl := List.mem_singleton.1 hi
        clear hi
        refine WkS.op (at_lit rfl) rfl (fun K hK => ?_)
        go_simp
        have hT : Gr W0 (y3.setCell ⟨b5, 0, none⟩ (.slice Ad nd cd)) := ⟨hS3.below.setCell (p := ⟨b5, 0, none⟩) hh5 _⟩
        have hk3 := hk3.sm (Sm.setCell (fun k => k ≠ b5) y3 ⟨b5, 0, none⟩ (.slice Ad nd cd) (fun h => h rfl)) (fun k h _ => h.2.1)
        have g5 : (y3.setCell ⟨b5, 0, none⟩ (.slice Ad nd cd)).cell? ⟨b5, 0, none⟩ = some (.slice Ad nd cd) := World.cell?_setCell_same _ _ _ hc5
        have g6 : (y3.setCell ⟨b5, 0, none⟩ (.slice Ad nd cd)).cell? ⟨b6, 0, none⟩ = some (.int .i64 0) := by rw [World.cell?_setCell_other (h := fun e => absurd (congrArg Addr.block e) (by dsimp only; omega))]; exact hc6
        have f6 : (y3.setCell ⟨b5, 0, none⟩ (.slice Ad nd cd)).frozen? ⟨b6, 0, none⟩ = false := by rw [World.frozen?_setCell]; exact hf6
        refine hK _ _ ⟨hT, ?_⟩
        clear hK K hc5 hf5 hc6 hf6
        generalize y3.setCell _ _ = Y at *
        try simp only [Act.put, List.setIfInBounds_toArray, List.set_cons_zero, List.set_cons_succ]
        refine WkS.these (is := [12]) (by kernel_rfl) (by simp) (fun i hi => ?_)
        obtain rfl := List.mem_singleton.1 hi
        clear hi
        refine WkS.op (at_lit rfl) rfl (fun K hK => ?_)
        go_simp
        have hT2 : Gr W0 (Y.setCell ⟨b6, 0, none⟩ (.int .i64 (n : Int))) := ⟨hT.below.setCell (p := ⟨b6, 0, none⟩) hh6 _⟩
        have hk3 := hk3.sm (Sm.setCell (fun k => k ≠ b6) Y ⟨b6, 0, none⟩ (.int .i64 (n : Int)) (fun h => h rfl)) (fun k h _ => h.2.2)
        have e6 : (Y.setCell ⟨b6, 0, none⟩ (.int .i64 (n : Int))).cell? ⟨b6, 0, none⟩ = some (.int .i64 (n : Int)) := World.cell?_setCell_same _ _ _ g6
        have e5 : (Y.setCell ⟨b6, 0, none⟩ (.int .i64 (n : Int))).cell? ⟨b5, 0, none⟩ = some (.slice Ad nd cd) := by rw [World.cell?_setCell_other (h := fun e => absurd (congrArg Addr.block e) (by dsimp only; omega))]; exact g5
        refine hK _ _ ⟨hT2, ?_⟩
        clear hK K
        refine WkS.done (by kernel_rfl) ?_
        exact ⟨rfl, b5, b6, Ad, nd, cd, rfl, hT2, e5, e6, hh5, hh6, hk3.weak (fun k _ h => h.1)⟩
  case rest =>
    rintro e a W2 ⟨rfl, b5, b6, Ad, nd, cd, rfl, hg2, e5, e6, hh5, hh6, hk⟩
    go_upto_region 2 with fail
    have hgW := hga.trans hg2
    have hndl := hk.1
    have hP2 := (hP.gr hgW)
    have c1 := gr_cell hg2 c1
    have cy := gr_cell hg2 cy
    have hnn : (0 : Int) ≤ (nd : Int) * (n : Int) ∧ (nd : Int) * (n : Int) ≤ 400000000000 := by
      refine ⟨Int.mul_nonneg (by omega) (by omega), ?_⟩
      have h9 : (nd : Int) * (n : Int) ≤ 3652059 * 86400 := Int.mul_le_mul (by omega) (by omega) (by omega) (by omega)
      omega
    obtain ⟨hnn1, hnn2⟩ := hnn
    have cK := fun w' (h : Gr W w') => cK ((nd : Int) * (n : Int)) w' h hnn1 (by omega)
    have hks := fun x (hx : x ∈ Ex.ks V.r.pos ((nd : Int) * (n : Int))) => Ex.ks_mem hx
    have emul : (((Ex.dayL V.r db f l).length * ss.length : Nat) : Int) = (nd : Int) * (n : Int) := by rw [hk.1, hS.1]; push_cast; rfl
    rw [emul] at HXS
    clear hg2 cD emul
    refine Code.wp_mono (Q := fun e a w' => e = .normal ∧ ∃ (gf : Nat) (lb : Array Value), a = { tmps := #[.func (.yield lp) #[] #[], .pointer (some ⟨b1, 0, none⟩), .pointer (some ⟨b2, 0, none⟩), .pointer (some ⟨b3, 0, none⟩), .pointer (some ⟨W.heap.size, 0, none⟩), .pointer (some ⟨b5, 0, none⟩), .pointer (some ⟨b6, 0, none⟩), undef, undef, undef,
        .pointer (some ⟨bp, 0, none⟩), .int .i64 f, .int .i64 l, .slice Ad nd cd, .pointer (some ⟨bp, 0, none⟩), .pointer (some ⟨bp, 0, none⟩), .pointer (some ⟨bp, 19, none⟩), .slice A n c, .int .i64 (n : Int), .pointer (some ⟨bp, 0, none⟩), .pointer (some ⟨bp, 0, none⟩), .pointer (some ⟨bp, 0, none⟩), .pointer (some ⟨bp, 16, none⟩), .slice V.pos.A V.pos.n V.pos.c, .slice Ad nd cd, .int .i64 (nd : Int), .int .i64 (n : Int), .int .i64 ((nd : Int) * (n : Int)), .func (.func gf) #[] lb, undef, undef, undef, undef, undef, undef, undef, undef, undef, undef, undef, undef, undef, undef, undef, undef, undef, undef, undef, undef, undef, undef, undef, undef], defers := [] } ∧
        Gr W2 w' ∧ IsSeq gf lb (Ex.ks V.r.pos ((nd : Int) * (n : Int))) w' (fun k => W2.heap.size ≤ k)) ?rest2 ?region2
    case region2 =>
      refine wp_region_S 10 (fun w' : World => Gr W2 w') (by kernel_rfl) rfl ?_
      have hS0 : (fun w' : World => Gr W2 w') W2.drew := (Gr.refl _).drew
      have c16 := hP2.r.c16
      generalize W2.drew = W1 at *
      refine WkS.take (i := 0) (v := ?_) (at_lit rfl) (by kernel_rfl) (by kernel_rfl) (by kernel_rfl) rfl (fun _ _ _ h => by first | exact h | (cases h.1)) ?_ hS0 ?_
      rotate_left 1
      · intro w' hw
        have k0 := gr_cell hw c1
        clear hw
        go_simp
        first | done | rfl
      try simp only [Act.put, List.setIfInBounds_toArray, List.set_cons_zero, List.set_cons_succ]
      refine WkS.take (i := 1) (v := ?_) (at_lit rfl) (by kernel_rfl) (by kernel_rfl) (by kernel_rfl) rfl (fun _ _ _ h => by first | exact h | (cases h.1)) ?_ hS0 ?_
      rotate_left 1
      · intro w' hw
        clear hw
        go_simp
        first | done | rfl
      try simp only [Act.put, List.setIfInBounds_toArray, List.set_cons_zero, List.set_cons_succ]
      refine WkS.take (i := 2) (v := ?_) (at_lit rfl) (by kernel_rfl) (by kernel_rfl) (by kernel_rfl) rfl (fun _ _ _ h => by first | exact h | (cases h.1)) ?_ hS0 ?_
      rotate_left 1
      · intro w' hw
        clear hw
        go_simp
        first | done | rfl
      try simp only [Act.put, List.setIfInBounds_toArray, List.set_cons_zero, List.set_cons_succ]
      refine WkS.take (i := 3) (v := ?_) (at_lit rfl) (by kernel_rfl) (by kernel_rfl) (by kernel_rfl) rfl (fun _ _ _ h => by first | exact h | (cases h.1)) ?_ hS0 ?_
      rotate_left 1
      · intro w' hw
        clear hw
        go_simp
        first | done | rfl
      try simp only [Act.put, List.setIfInBounds_toArray, List.set_cons_zero, List.set_cons_succ]
      refine WkS.take (i := 4) (v := ?_) (at_lit rfl) (by kernel_rfl) (by kernel_rfl) (by kernel_rfl) rfl (fun _ _ _ h => by first | exact h | (cases h.1)) ?_ hS0 ?_
      rotate_left 1
      · intro w' hw
        have k0 := gr_cell hw c16
        clear hw
        go_simp
        first | done | rfl
      try simp only [Act.put, List.setIfInBounds_toArray, List.set_cons_zero, List.set_cons_succ]
      refine WkS.take (i := 5) (v := ?_) (at_lit rfl) (by kernel_rfl) (by kernel_rfl) (by kernel_rfl) rfl (fun _ _ _ h => by first | exact h | (cases h.1)) ?_ hS0 ?_
      rotate_left 1
      · intro w' hw
        have k0 := gr_cell hw e5
        clear hw
        go_simp
        first | done | rfl
      try simp only [Act.put, List.setIfInBounds_toArray, List.set_cons_zero, List.set_cons_succ]
      refine WkS.take (i := 6) (v := ?_) (at_lit rfl) (by kernel_rfl) (by kernel_rfl) (by kernel_rfl) rfl (fun _ _ _ h => by first | exact h | (cases h.1)) ?_ hS0 ?_
      rotate_left 1
      · intro w' hw
        clear hw
        go_simp
        first | done | rfl
      try simp only [Act.put, List.setIfInBounds_toArray, List.set_cons_zero, List.set_cons_succ]
      refine WkS.take (i := 7) (v := ?_) (at_lit rfl) (by kernel_rfl) (by kernel_rfl) (by kernel_rfl) rfl (fun _ _ _ h => by first | exact h | (cases h.1)) ?_ hS0 ?_
      rotate_left 1
      · intro w' hw
        have k0 := gr_cell hw e6
        clear hw
        go_simp
        first | done | rfl
      try simp only [Act.put, List.setIfInBounds_toArray, List.set_cons_zero, List.set_cons_succ]
      refine WkS.take (i := 8) (v := .int .i64 ((nd : Int) * (n : Int))) (at_lit rfl) (by kernel_rfl) (by kernel_rfl) (by kernel_rfl) rfl (fun _ _ _ h => by first | exact h | (cases h.1)) ?_ hS0 ?_
      · intro w' hw
        clear hw
        go_simp
        exact IntWalk.i64_in _ ⟨by omega, by omega⟩
      try simp only [Act.put, List.setIfInBounds_toArray, List.set_cons_zero, List.set_cons_succ]
      refine WkS.these (is := [9]) (by kernel_rfl) (by simp) (fun i hi => ?_)
      obtain rfl := List.mem_singleton.1 hi
      clear hi
      refine WkS.op (at_lit rfl) rfl (fun K hK => ?_)
      go_simp
      refine (cK _ (hgW.trans hS0)).mono ?_
      rintro e w3 ⟨gf, lb, rfl, hg3, hs3⟩
      have hI := hs3.out
      have hI2 : IsSeq gf lb (Ex.ks V.r.pos ((nd : Int) * (n : Int))) w3 (fun k => W2.heap.size ≤ k) := ⟨hI.1, fun Kr hk => hI.2 Kr (fun k h1 h2 => hk k (Nat.le_trans hS0.lt h1) h2)⟩
      refine hK _ _ ⟨hS0.trans hg3, ?_⟩
      clear hK K
      refine WkS.done (by kernel_rfl) ?_
      exact ⟨rfl, gf, lb, rfl, hS0.trans hg3, hI2⟩
    case rest2 =>
      rintro e a W3 ⟨rfl, gf, lb, rfl, hg3, hI⟩
      have hgW3 := hgW.trans hg3
      have hz3 := hgW3.lt
      have hF0 : TiF W3 W.heap.size b1 b5 b6 bp lp A n c ss Ad nd cd (Ex.dayL V.r db f l) (fun k => Kr k ∨ (W.heap.size ≤ k ∧ k < W3.heap.size)) := by
        have z1 := HZ0.out
        have z2 := hg3.lt
        have l5 := World.block_lt_of_cell? _ _ e5
        have l6 := World.block_lt_of_cell? _ _ e6
        have ly := World.block_lt_of_cell? _ _ cy
        dsimp only at l5 l6 ly
        refine ⟨gr_cell hg3 cy, gr_cell hg3 c1, gr_cell hg3 e5, gr_cell hg3 e6, gr_cell hgW3 hP.c19, (hS.sm (hgW3.sm (fun _ => True)) (fun _ _ _ => trivial)).weak (fun k _ h => .inl h), ?_, .inr ⟨by omega, by omega⟩, .inl k1, .inr ⟨by omega, by omega⟩, .inr ⟨by omega, by omega⟩, .inl kp⟩
        exact (hk.sm (hg3.sm (fun _ => True)) (fun _ _ _ => trivial)).weak (fun k h1 h2 => .inr ⟨by omega, h1⟩)
      have hKin : ∀ k, (Kr k ∨ (W.heap.size ≤ k ∧ k < W3.heap.size)) → k < W3.heap.size := fun k h => h.elim (fun h => by have := hKr k h; omega) (fun h => h.2)
      have HKr := Lib.hid hKr
      have hj0 : J (fun k => Gw (fun _ => False) W W3 k ∨ (fun _ => False) k) [] W3 := by
        rw [or_falseE]
        exact HJ.out.1 _ _ _ _ H0.out (hgW3.sm _)
      have hzw2 := hgW.lt
      have hI2 := hI.2 (fun k => Kr k ∨ (W.heap.size ≤ k ∧ k < W3.heap.size)) (fun k h1 h2 => .inr ⟨by omega, h2⟩)
      have hI1 := hI.1
      clear hI hKr cK hg3 hgW hgW3 e5 e6 hh5 hh6 hk c1 cy c2 c3 c19 hga hP2 hM hP h1 h2 h3 H0
      have HH := Lib.hid (And.intro hF0 (And.intro hj0 (And.intro hKin (And.intro hI2 hI1))))
      clear hF0 hj0 hKin hI2 hI1
      go_wp2
      obtain ⟨hF0, hj0, hKin, hI2, hI1⟩ := HH.out
      refine (wpIn_wide (n := 3)).1 ?_
      refine rangeE (n := 3) (gf := gf) (lb := lb) rfl hI1 (fun _ => rfl) hI2 hKin
        (fun E pre W' => (∀ k, E k → W3.heap.size ≤ k) ∧ W3.heap.size ≤ W'.heap.size ∧ J (fun k => Gw (fun _ => False) W W3 k ∨ E k) (pre.map (Ex.tmK (Ex.dayL V.r db f l) ss)) W' ∧ TiF W' W.heap.size b1 b5 b6 bp lp A n c ss Ad nd cd (Ex.dayL V.r db f l) (fun k => Kr k ∨ (W.heap.size ≤ k ∧ k < W3.heap.size)))
        (fun c E pre W' => c = .ret ∧ (∀ k, E k → W3.heap.size ≤ k) ∧ W3.heap.size ≤ W'.heap.size ∧ Jx (fun k => Gw (fun _ => False) W W3 k ∨ E k) (pre.map (Ex.tmK (Ex.dayL V.r db f l) ss)) W')
        ?hI ?hIx ⟨fun _ h => h.elim, Nat.le_refl _, hj0, hF0⟩ (fun x => { tmps := #[.func (.yield lp) #[] #[], .pointer (some ⟨b1, 0, none⟩), .pointer (some ⟨b2, 0, none⟩), .pointer (some ⟨b3, 0, none⟩), .pointer (some ⟨W.heap.size, 0, none⟩), .pointer (some ⟨b5, 0, none⟩), .pointer (some ⟨b6, 0, none⟩), .int .i64 x, undef, undef,
          .pointer (some ⟨bp, 0, none⟩), .int .i64 f, .int .i64 l, .slice Ad nd cd, .pointer (some ⟨bp, 0, none⟩), .pointer (some ⟨bp, 0, none⟩), .pointer (some ⟨bp, 19, none⟩), .slice A n c, .int .i64 (n : Int), .pointer (some ⟨bp, 0, none⟩), .pointer (some ⟨bp, 0, none⟩), .pointer (some ⟨bp, 0, none⟩), .pointer (some ⟨bp, 16, none⟩), .slice V.pos.A V.pos.n V.pos.c, .slice Ad nd cd, .int .i64 (nd : Int), .int .i64 (n : Int), .int .i64 ((nd : Int) * (n : Int)), .func (.func gf) #[] lb, .int .i64 x, undef, undef, undef, undef, undef, undef, undef, undef, undef, undef, undef, undef, undef, undef, undef, undef, undef, undef, undef, undef, undef, undef, undef], defers := [] }) ?assign ?body ?done ?stop
      case hI =>
        rintro E s A1 B1 ⟨e1, e2, e3, e4⟩ hs
        refine ⟨fun k hk => ?_, Nat.le_trans e2 hs.size, Ab.inner HJ.out.1 _ _ _ _ _ e3 hs, e4.sm hs (fun k hk he => ?_)⟩
        · rcases hk with hk | hk
          · exact e1 k hk
          · omega
        · have := hKin k hk; have := e1 k he; omega
      case hIx =>
        rintro cc E s A1 B1 ⟨rfl, e1, e2, e3⟩ hs
        refine ⟨rfl, fun k hk => ?_, Nat.le_trans e2 hs.size, Ab.inner HJ.out.2 _ _ _ _ _ e3 hs⟩
        rcases hk with hk | hk
        · exact e1 k hk
        · omega
      case assign =>
        intro lq x W' K hK
        gi_wp2
        exact hK
      case body =>
        rintro lq E pre x Wb hE hzb ⟨e1, e2, hj, hF⟩ hpre
        have hx := hks x (hpre.subset (by simp))
        have hnp : (0 : Int) < (n : Int) := by omega
        have q1 : x.tdiv (n : Int) = x / (n : Int) := Int.tdiv_eq_ediv_of_nonneg hx.1
        have q2 : x.tmod (n : Int) = x % (n : Int) := Int.tmod_eq_emod_of_nonneg hx.1
        have q3 : 0 ≤ x / (n : Int) := Int.ediv_nonneg hx.1 (by omega)
        have q4 : x / (n : Int) < (nd : Int) := Int.ediv_lt_of_lt_mul hnp hx.2
        have q5 : 0 ≤ x % (n : Int) := Int.emod_nonneg _ (by omega)
        have q6 : x % (n : Int) < (n : Int) := Int.emod_lt_of_pos _ hnp
        have HTM : Hid (Ex.tmK (Ex.dayL V.r db f l) ss x = 86400 * (Ex.dayL V.r db f l).getD (x / (n : Int)).toNat 0 + ss.getD (x % (n : Int)).toNat 0) := Lib.hid (by unfold Ex.tmK; rw [hS.1])
        obtain ⟨i, hi⟩ := Int.eq_ofNat_of_zero_le q3
        obtain ⟨j, hj2⟩ := Int.eq_ofNat_of_zero_le q5
        rw [hi] at q1 q3 q4 HTM
        rw [hj2] at q2 q5 q6 HTM
        obtain ⟨ad, hi2, rfl, d0⟩ := hF.d.at_ (k := i) (by omega)
        obtain ⟨a2, hj3, rfl, d1⟩ := hF.s.at_ (k := j) (by omega)
        rw [Int.toNat_natCast, Int.toNat_natCast, List.getD_eq_getElem?_getD, List.getD_eq_getElem?_getD, List.getElem?_eq_getElem hi2, List.getElem?_eq_getElem hj3, Option.getD_some, Option.getD_some] at HTM
        have hdd := hdm _ (List.getElem_mem hi2)
        have hsd := hss _ (List.getElem_mem hj3)
        have hpre2 : pre.map (Ex.tmK (Ex.dayL V.r db f l) ss) ++ [Ex.tmK (Ex.dayL V.r db f l) ss x] <+: XS := by
          rw [← HXS.out]
          obtain ⟨t, ht⟩ := hpre
          exact ⟨t.map (Ex.tmK (Ex.dayL V.r db f l) ss), by rw [← ht]; simp⟩
        have hpm : (pre ++ [x]).map (Ex.tmK (Ex.dayL V.r db f l) ss) = pre.map (Ex.tmK (Ex.dayL V.r db f l) ss) ++ [Ex.tmK (Ex.dayL V.r db f l) ss x] := by simp
        have HPM := Lib.hid hpm
        have cA := fun w' => cat_yes (Ex.dayL V.r db f l)[i] ss[j] w' (Cal.dayB_iff.2 hdd) (Clk.secB_iff.2 hsd)
        generalize (Ex.dayL V.r db f l)[i] = dv at *
        generalize ss[j] = sv at *
        have HTM : Hid (Ex.tmK (Ex.dayL V.r db f l) ss x = dv * 86400 + sv) := Lib.hid (by rw [HTM.out]; omega)
        rw [HTM.out] at hpre2 HPM
        have HE := Lib.hid hE
        have HF := Lib.hid hF
        have HJ0 := Lib.hid hj
        have HE1 := Lib.hid (And.intro e1 e2)
        have HPRE := Lib.hid hpre2
        have HKI := Lib.hid hKin
        have HHX := Lib.hid hx
        have y5 := hF.l5
        have y6 := hF.l6
        have y19 := hF.c19
        have y1 := hF.p
        have yy := hF.y
        have hin : (i : Int) < (nd : Int) := q4
        have hjn : (j : Int) < (n : Int) := q6
        clear hE hF hj e1 e2 hpre hpm hpre2 hKin hks hx hj0 hF0 hI1 hI2 hdm hss q4 q6
        gi_wp2_with fail
        refine wpIn_region_quiet_lit (by kernel_rfl) (by kernel_rfl) (by kernel_rfl) ?_
        repeat (go_big_quiet_step (first | (go_at_call 44; exact qsame (cA _))))
        refine wpQuiet_nil ?_
        rintro _ ⟨nq, rfl⟩
        have hgq : Gr Wb (Wb.drewN nq) := (Gr.refl Wb).drewN nq
        have hsq : ∀ K : Nat → Prop, Sm K Wb (Wb.drewN nq) := fun K => hgq.sm K
        have hzq : (Wb.drewN nq).heap.size = Wb.heap.size := rfl
        have hjq := Ab.same HJ.out.1 _ _ _ _ HJ0.out (hsq _) hzq
        have hFq := HF.out.sm (hsq (fun _ => True)) (fun _ _ => trivial)
        have yq := gr_cell hgq yy
        have hEq : ∀ k, (Gw (fun _ => False) W W3 k ∨ E k) → W.heap.size ≤ k ∧ k < (Wb.drewN nq).heap.size := fun k hk => by
          rw [hzq]
          have := HE1.out.2
          rcases hk with hk | hk
          · rcases hk with hk | hk
            · exact hk.elim
            · omega
          · have := HE.out k hk; have := HE1.out.1 k hk; omega
        obtain ⟨fn, tmps, assign, body, hy, hR⟩ := yield_deep 0 (HY.out (fun k => Gw (fun _ => False) W W3 k ∨ E k) _ _ (Wb.drewN nq) hjq hEq HPRE.out)
        try dsimp only at hy
        have HSQ := Lib.hid hsq
        have HFQ := Lib.hid hFq
        clear hsq hFq hjq hEq hgq cA y5 y6 y19 y1 d0 d1 hzq
        generalize Wb.drewN nq = Wc at *
        gi_wp2
        refine hR.mono ?_
        rintro e W5 ⟨hs5, (⟨rfl, hj5⟩ | ⟨rfl, hx5⟩)⟩
        · have HS5 := Lib.hid hs5
          clear hs5 hR hy
          gi_wp2
          have hs5 := HS5.out
          have hk5 : Sm (fun k => E k ∨ (Kr k ∨ (W.heap.size ≤ k ∧ k < W3.heap.size))) Wc W5 := hs5.weak (fun k hk => by
            rcases hk with hk | hk | hk
            · exact .inl (.inr hk)
            · exact .inr hk
            · exact .inl (.inl (.inr hk)))
          refine ⟨(HSQ.out _).trans hk5, HE1.out.1, Nat.le_trans HE1.out.2 (Nat.le_trans (HSQ.out (fun _ => True)).size hs5.size), by rw [HPM.out]; exact hj5, HFQ.out.sm hk5 (fun k hk => .inr hk)⟩
        · have HS5 := Lib.hid hs5
          clear hs5 hR hy
          gi_wp2
          have hs5 := HS5.out
          have hk5 : Sm (fun k => E k ∨ (Kr k ∨ (W.heap.size ≤ k ∧ k < W3.heap.size))) Wc W5 := hs5.weak (fun k hk => by
            rcases hk with hk | hk | hk
            · exact .inl (.inr hk)
            · exact .inr hk
            · exact .inl (.inl (.inr hk)))
          refine ⟨(HSQ.out _).trans hk5, rfl, HE1.out.1, Nat.le_trans HE1.out.2 (Nat.le_trans (HSQ.out (fun _ => True)).size hs5.size), by rw [HPM.out]; exact hx5⟩
      case done =>
        rintro D E W' rfl hED hE ⟨e1, e2, hj, hF⟩ hK
        have HD := Lib.hid (And.intro hED (And.intro hE (And.intro e1 (And.intro e2 hj))))
        clear hED hE e1 e2 hj hF hj0 hF0 hI1 hI2 hKin hks
        go_wp2
        show bodyPostM Fence.wide 3 Tryz.prog Tryz.f41 _ .ret _ _
        refine leave_mark rfl hK (results_none rfl _ _ _) ?_
        obtain ⟨hED, hE, e1, e2, hj⟩ := HD.out
        refine ⟨⟨_, rfl⟩, fun k => Gw (fun _ => False) W W3 k ∨ E k, fun k hk => ?_, .inl ?_⟩
        · have e : (W'.putObj W3.heap.size (.deferred none)).heap.size = W'.heap.size := by simp
          rw [e]
          rcases hk with hk | hk
          · rcases hk with hk | hk
            · exact hk.elim
            · omega
          · have := hE k hk; omega
        · rw [HXS.out] at hj
          exact Ab.same HJ.out.1 _ _ _ _ hj (Sm.putObj (l := W3.heap.size) _ W' (.deferred none) (fun hn => hn (.inr hED))) (by simp)
      case stop =>
        rintro D c E pre W' rfl hED hE hpre ⟨rfl, e1, e2, hj⟩ hK
        have HD := Lib.hid (And.intro hED (And.intro hE (And.intro e1 (And.intro e2 (And.intro hj hpre)))))
        clear hED hE e1 e2 hj hj0 hF0 hI1 hI2 hKin hks hpre
        refine wpIn_wide.2 ?_
        go_wp2
        refine leave_mark rfl hK (results_none rfl _ _ _) ?_
        obtain ⟨hED, hE, e1, e2, hj, hpre⟩ := HD.out
        refine ⟨⟨_, rfl⟩, fun k => Gw (fun _ => False) W W3 k ∨ E k, fun k hk => ?_, .inr ⟨pre.map (Ex.tmK (Ex.dayL V.r db f l) ss), ?_, ?_⟩⟩
        · have e : (W'.putObj W3.heap.size (.deferred none)).heap.size = W'.heap.size := by simp
          rw [e]
          rcases hk with hk | hk
          · rcases hk with hk | hk
            · exact hk.elim
            · omega
          · have := hE k hk; omega
        · rw [← HXS.out]
          obtain ⟨t, ht⟩ := hpre
          exact ⟨t.map (Ex.tmK (Ex.dayL V.r db f l) ss), by rw [← ht]; simp⟩
        · exact Ab.same HJ.out.2 _ _ _ _ hj (Sm.putObj (l := W3.heap.size) _ W' (.deferred none) (fun hn => hn (.inr hED))) (by simp)
end Go.Proofs.YtmbmkldcedkbmaaGreat
