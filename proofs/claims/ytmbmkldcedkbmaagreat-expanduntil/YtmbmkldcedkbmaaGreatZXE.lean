/- The texts Xf, Xg, one behind the other. -/
import Derived.Test.YtmbmkldcedkbmaaGreatZXt
import Derived.Test.YtmbmkldcedkbmaaGreatZGh
namespace Go.Proofs.YtmbmkldcedkbmaaGreat
open Go.RowKit Go.Shelf
attribute [local go_sem] Oper.semAt_some

/- a function that ranged more than once leaves all its marks -/
def mk (D : Nat) : Deferred := { target := .collected D, args := #[] }
theorem leave_all {fn : Func} {n : Nat} {tmps : Array Value} {R : Ending → World → Prop} {v : Value} {E : Nat → Prop} (hr : ∀ w, (results fn tmps).run Tryz.prog w = .ok v w) :
    ∀ (Ds : List Nat) (W : World), Ds.Pairwise (fun a b => a ≠ b) → (∀ D ∈ Ds, E D ∧ W.heap[D]? = some (.deferred (some []))) → (∀ W', Sm (fun k => ¬ E k) W W' → W'.heap.size = W.heap.size → R (.returned v) W') →
      LeavesInM Fence.wide n Tryz.prog fn tmps R (Ds.map mk) .returning W
  | [], W, _, _, hR => ⟨_, hr W, hR W (Sm.refl _ _) rfl⟩
  | D :: Ds, W, hp, hD, hR => by
    have hp2 := List.pairwise_cons.1 hp
    obtain ⟨hE, hK⟩ := hD D (by simp)
    refine ⟨by simp, .inl ⟨_, _, rfl, run_takeDeferred hK, ?_⟩⟩
    refine leave_all hr Ds _ hp2.2 (fun D2 h2 => ?_) (fun W' hs hz => hR W' ((Sm.putObj (l := D) (fun k => ¬ E k) W (.deferred none) (fun h => h hE)).trans hs) (by rw [hz]; simp))
    obtain ⟨h3, h4⟩ := hD D2 (by simp [h2])
    exact ⟨h3, (World.putObj_heap_other (fun e => hp2.1 D2 h2 e.symm)).trans h4⟩
theorem lit84 (T : Array Value) (h : T.size = 84) : ∃ u : Nat → Value, T = (u 0 :: u 1 :: u 2 :: u 3 :: u 4 :: u 5 :: u 6 :: u 7 :: u 8 :: u 9 :: u 10 :: u 11 :: u 12 :: u 13 :: u 14 :: u 15 :: u 16 :: u 17 :: u 18 :: u 19 :: u 20 :: u 21 :: u 22 :: u 23 :: u 24 :: u 25 :: u 26 :: u 27 :: u 28 :: u 29 :: u 30 :: u 31 :: u 32 :: u 33 :: u 34 :: u 35 :: u 36 :: u 37 :: u 38 :: u 39 :: u 40 :: u 41 :: u 42 :: u 43 :: u 44 :: u 45 :: u 46 :: u 47 :: u 48 :: u 49 :: u 50 :: u 51 :: u 52 :: u 53 :: u 54 :: u 55 :: u 56 :: u 57 :: u 58 :: u 59 :: u 60 :: u 61 :: u 62 :: u 63 :: u 64 :: u 65 :: u 66 :: u 67 :: u 68 :: u 69 :: u 70 :: u 71 :: u 72 :: u 73 :: u 74 :: u 75 :: u 76 :: u 77 :: u 78 :: u 79 :: u 80 :: u 81 :: u 82 :: u 83 :: [] : List Value).toArray ∧ ∀ i, u i = T.getD i undef := by
  refine ⟨fun i => T.getD i undef, ?_, fun _ => rfl⟩
  have e : T = ((List.range 84).map (fun i => T.getD i undef)).toArray := by
    refine Array.ext (by simp [h]) (fun i h1 h2 => ?_)
    simp [h1]
  exact e.trans rfl
namespace Ex
theorem restU {r : Rm.Ru} {B e k : Int} (hb : Cal.dayB (B / 86400) = true) (hs : 0 ≤ r.st ∧ r.st ≤ 6) (hi : 1 ≤ r.ivl) (h0 : 0 ≤ k) :
    rest r B e 3652062 k = if stop r B e k = true then [] else (tms r (B / 86400) k (secs r (B % 86400))).filter (inB B e) ++ rest r B e 3652062 (k + r.ivl) := by
  rw [show (3652062 : Nat) = 3652061 + 1 from rfl]
  conv => lhs; unfold rest
  rw [rest_more r B e hb hs hi 3652061 1 (k + r.ivl) (by omega) (by omega)]
/- behind a time that is too late nothing comes -/
theorem rest_late {r : Rm.Ru} {B e k x : Int} {pre t : List Int} (hs : 0 ≤ r.st ∧ r.st ≤ 6) (hi : 1 ≤ r.ivl) (ht : tms r (B / 86400) k (secs r (B % 86400)) = pre ++ x :: t) (hx : e < x) (f : Nat) :
    (tms r (B / 86400) k (secs r (B % 86400))).filter (inB B e) ++ rest r B e f (k + r.ivl) = pre.filter (inB B e) := by
  have hr := tms_rise (r := r) (db := B / 86400) (n := k) (ss := secs r (B % 86400)) (secs_rise _ _) secs_bd
  rw [ht] at hr
  have hr2 := (List.pairwise_append.1 hr).2.1
  have hr3 := List.pairwise_cons.1 hr2
  have e1 : (x :: t).filter (inB B e) = [] := by
    rw [List.filter_eq_nil_iff]
    intro y hy
    have : x ≤ y := by
      rcases List.mem_cons.1 hy with h | h
      · omega
      · have := hr3.1 y h; omega
    unfold inB
    simp; omega
  have e2 : rest r B e f (k + r.ivl) = [] := by
    cases hc : rest r B e f (k + r.ivl) with
    | nil => rfl
    | cons y l =>
      exfalso
      have hy : y ∈ rest r B e f (k + r.ivl) := by rw [hc]; simp
      obtain ⟨h1, j, hj⟩ := rest_mem hy
      have hj0 : 0 ≤ (j : Int) * r.ivl := Int.mul_nonneg (by omega) (by omega)
      have := tms_lt hs secs_bd (show k < k + r.ivl + j * r.ivl by omega) (by rw [ht]; simp : x ∈ tms r (B / 86400) k (secs r (B % 86400))) hj
      omega
  rw [e2, List.append_nil, ht, List.filter_append, e1, List.append_nil]
theorem tms_eq {r : Rm.Ru} {db k : Int} {ss : List Int} (h0 : 0 ≤ k) (hk : k % r.ivl = 0) : tms r db k ss = picked r.pos ((dayL r db (Mc.span r db k).1 (Mc.span r db k).2).flatMap (ofDay ss)) := by
  unfold tms
  rw [if_neg (by omega), all_dayL]
end Ex
/- what the iterator holds between two periods -/
structure FoF (w : World) (by_ bs b1 b2 bp lp : Nat) (V : Rm.Rv) (beg e sv : Int) (A : Option Addr) (n c : Nat) (ss : List Int) (B0 : Nat) (Kr E : Nat → Prop) : Prop where
  y : w.cell? ⟨by_, 0, none⟩ = some (.func (.yield lp) #[] #[])
  s : w.cell? ⟨bs, 0, none⟩ = some (.int .i64 sv)
  f : w.frozen? ⟨bs, 0, none⟩ = false
  p : w.cell? ⟨b1, 0, none⟩ = some (.pointer (some ⟨bp, 0, none⟩))
  l : w.cell? ⟨b2, 0, none⟩ = some (.int .i64 e)
  P : PatB w bp V beg (beg / 86400) A n c
  M : RuM w B0 V
  N : NumK w Kr A n ss
  ky : E by_
  ks : E bs
  k1 : Kr b1
  k2 : Kr b2
  kp : Kr bp
  ne : by_ ≠ bs
  kB : ∀ k, k < B0 → Kr k
  z : B0 ≤ w.heap.size
theorem FoF.sm {w w' : World} {by_ bs b1 b2 bp lp : Nat} {V : Rm.Rv} {beg e sv : Int} {A : Option Addr} {n c : Nat} {ss : List Int} {B0 : Nat} {Kr E K : Nat → Prop} (h : FoF w by_ bs b1 b2 bp lp V beg e sv A n c ss B0 Kr E) (hs : Sm K w w') (h1 : ∀ k, E k → K k) (h2 : ∀ k, Kr k → K k) :
    FoF w' by_ bs b1 b2 bp lp V beg e sv A n c ss B0 Kr E :=
  ⟨hs.cell (h1 _ h.ky) h.y, hs.cell (h1 _ h.ks) h.s, (hs.frozen (World.block_lt_of_cell? _ _ h.s) (h1 _ h.ks)).trans h.f, hs.cell (h2 _ h.k1) h.p, hs.cell (h2 _ h.k2) h.l, h.P.sm hs (h2 _ h.kp),
    h.M.keep (hs.below (fun k hk => h2 _ (h.kB k hk)) h.z), h.N.sm hs (fun k hk _ => h2 k hk), h.ky, h.ks, h.k1, h.k2, h.kp, h.ne, h.kB, Nat.le_trans h.z hs.size⟩
theorem FoF.more {w : World} {by_ bs b1 b2 bp lp : Nat} {V : Rm.Rv} {beg e sv : Int} {A : Option Addr} {n c : Nat} {ss : List Int} {B0 : Nat} {Kr E E2 : Nat → Prop} (h : FoF w by_ bs b1 b2 bp lp V beg e sv A n c ss B0 Kr E) (hE : ∀ k, E k → E2 k) :
    FoF w by_ bs b1 b2 bp lp V beg e sv A n c ss B0 Kr E2 := ⟨h.y, h.s, h.f, h.p, h.l, h.P, h.M, h.N, hE _ h.ky, hE _ h.ks, h.k1, h.k2, h.kp, h.ne, h.kB, h.z⟩
/- the marks of the ranges that are over -/
structure Mks (Ds : List Nat) (E : Nat → Prop) (w : World) : Prop where
  p : Ds.Pairwise (fun a b => a ≠ b)
  d : ∀ D ∈ Ds, E D ∧ w.heap[D]? = some (.deferred (some []))
theorem Mks.sm {Ds : List Nat} {E E2 K : Nat → Prop} {w w' : World} (h : Mks Ds E w) (hs : Sm K w w') (hK : ∀ k, E k → K k) (hE : ∀ k, E k → E2 k) : Mks Ds E2 w' :=
  ⟨h.p, fun D hD => ⟨hE _ (h.d D hD).1, hs.obj (hK _ (h.d D hD).1) (h.d D hD).2⟩⟩
set_option maxRecDepth 100000 in
set_option maxHeartbeats 4000000 in
theorem timesF_any (bp : Nat) (f l : Int) (w : World) :
    Calls Tryz.prog 23 #[.pointer (some ⟨bp, 0, none⟩), .int .i64 f, .int .i64 l] w fun e w' =>
      e = .returned (.func (.func 41) #[] #[.pointer (some ⟨w.heap.size, 0, none⟩), .pointer (some ⟨w.heap.size + 1, 0, none⟩), .pointer (some ⟨w.heap.size + 1 + 1, 0, none⟩)]) ∧ Gr w w' ∧ w'.heap.size = w.heap.size + 3 ∧
      w'.cell? ⟨w.heap.size, 0, none⟩ = some (.pointer (some ⟨bp, 0, none⟩)) ∧ w'.cell? ⟨w.heap.size + 1, 0, none⟩ = some (.int .i64 f) ∧ w'.cell? ⟨w.heap.size + 1 + 1, 0, none⟩ = some (.int .i64 l) := by
  obtain ⟨z, g, x1, x2, x3, _⟩ := boxes3 w (.pointer (some ⟨bp, 0, none⟩)) (.int .i64 f) (.int .i64 l) 50 3 3 _ rfl
  have H := Lib.hid (And.intro g (And.intro z (And.intro x1 (And.intro x2 x3))))
  clear z g x1 x2 x3
  go_enter Tryz.func23, Tryz.ntmps23
  go_wp2
  go_ret
  exact ⟨rfl, H.out⟩
end Go.Proofs.YtmbmkldcedkbmaaGreat
namespace Go.Proofs.YtmbmkldcedkbmaaGreat
open Go.RowKit Go.Shelf
attribute [local go_sem] Oper.semAt_some

namespace Ex
theorem flat_ne {f : Int → List Int} : ∀ {l : List Int}, l ≠ [] → (∀ a ∈ l, f a ≠ []) → l.flatMap f ≠ []
  | [], h, _ => absurd rfl h
  | a :: l, _, h => by
    rw [List.flatMap_cons]
    intro e
    exact h a (by simp) (List.append_eq_nil_iff.1 e).1
theorem secs_pos {r : Rm.Ru} {b : Int} (hf : Rm.fm r = true) (b0 : 0 ≤ b) (b1 : b < 86400) : 0 < (secs r b).length := by
  unfold Rm.fm Rm.fmL at hf
  simp only [Bool.and_eq_true] at hf
  obtain ⟨⟨_, h⟩, _⟩ := hf
  rw [secs_prod h.1.1.1.1.1.1.1.1 h.1.1.1.1.1.1.1.2 h.1.1.1.1.1.1.2 b0 b1]
  refine List.length_pos_iff.2 ?_
  unfold prodS
  refine flat_ne (ob_ne _ _) (fun a _ => flat_ne (ob_ne _ _) (fun b _ => ?_))
  intro e
  exact ob_ne _ _ (List.map_eq_nil_iff.1 e)
theorem spE_stop {r : Rm.Ru} {B e k : Int} (h : (Mc.spE r (B / 86400) k).2.2 ≠ 0) : stop r B e k = true := by
  unfold Mc.spE at h
  split at h
  · rename_i c
    unfold stop
    rw [decide_eq_true c]; rfl
  · exact absurd rfl h
theorem spE_ok {r : Rm.Ru} {B k : Int} (h : (Mc.spE r (B / 86400) k).2.2 = 0) : (Mc.spE r (B / 86400) k).1 = (Mc.span r (B / 86400) k).1 ∧ (Mc.spE r (B / 86400) k).2.1 = (Mc.span r (B / 86400) k).2 ∧ (Mc.span r (B / 86400) k).1 ≤ (Mc.span r (B / 86400) k).2 := by
  unfold Mc.spE at h ⊢
  split at h
  · simp at h
  · rename_i c
    rw [if_neg c]
    exact ⟨rfl, rfl, by omega⟩
theorem spE_cases (r : Rm.Ru) (b k : Int) : (Mc.spE r b k = (0, 0, 2)) ∨ ((Mc.spE r b k).2.2 = 0 ∧ 1 ≤ (Mc.spE r b k).1 ∧ (Mc.spE r b k).1 ≤ (Mc.spE r b k).2.1 ∧ (Mc.spE r b k).2.1 ≤ 3652059) := by
  unfold Mc.spE
  split
  · exact .inl rfl
  · rename_i c
    rcases span_day r b k with h | h
    · rw [h] at c; simp at c
    · exact .inr ⟨rfl, h⟩
end Ex
theorem spE_cases2 (r : Rm.Ru) (b k : Int) : ((Mc.spE r b k).1 = 0 ∧ (Mc.spE r b k).2.1 = 0 ∧ (Mc.spE r b k).2.2 = 2) ∨ ((Mc.spE r b k).2.2 = 0 ∧ 1 ≤ (Mc.spE r b k).1 ∧ (Mc.spE r b k).1 ≤ (Mc.spE r b k).2.1 ∧ (Mc.spE r b k).2.1 ≤ 3652059) := by
  rcases Ex.spE_cases r b k with h | h
  · rw [h]; exact .inl ⟨rfl, rfl, rfl⟩
  · exact .inr h
theorem FoF.put {w : World} {by_ bs b1 b2 bp lp : Nat} {V : Rm.Rv} {beg e sv : Int} {A : Option Addr} {n c : Nat} {ss : List Int} {B0 : Nat} {Kr E : Nat → Prop} (h : FoF w by_ bs b1 b2 bp lp V beg e sv A n c ss B0 Kr E) (hk : ∀ k, Kr k → k ≠ bs) (t : Int) :
    FoF (w.setCell ⟨bs, 0, none⟩ (.int .i64 t)) by_ bs b1 b2 bp lp V beg e t A n c ss B0 Kr E := by
  have hs : Sm (fun k => k ≠ bs) w (w.setCell ⟨bs, 0, none⟩ (.int .i64 t)) := Sm.setCell _ _ _ _ (fun h => h rfl)
  exact ⟨hs.cell h.ne h.y, World.cell?_setCell_same _ _ _ h.s, by rw [World.frozen?_setCell]; exact h.f, hs.cell (hk _ h.k1) h.p, hs.cell (hk _ h.k2) h.l, h.P.sm hs (hk _ h.kp),
    h.M.keep (hs.below (fun k hk2 => hk _ (h.kB k hk2)) h.z), h.N.sm hs (fun k hk2 _ => hk k hk2), h.ky, h.ks, h.k1, h.k2, h.kp, h.ne, h.kB, Nat.le_trans h.z hs.size⟩
set_option maxRecDepth 100000 in
set_option maxHeartbeats 16000000 in
theorem foll_seq (V : Rm.Rv) (bp : Nat) (Bg e : Int) (A : Option Addr) (n c : Nat) (b1 b2 : Nat) (w : World) (Kr : Nat → Prop) (B0 : Nat)
    (h1 : w.cell? ⟨b1, 0, none⟩ = some (.pointer (some ⟨bp, 0, none⟩))) (h2 : w.cell? ⟨b2, 0, none⟩ = some (.int .i64 e))
    (hP : PatB w bp V Bg (Bg / 86400) A n c) (hM : RuM w B0 V) (hB : B0 ≤ w.heap.size) (hS : NumK w Kr A n (Ex.secs V.r (Bg % 86400)))
    (k1 : Kr b1) (k2 : Kr b2) (kp : Kr bp) (kB : ∀ k, k < B0 → Kr k) (hKr : ∀ k, Kr k → k < w.heap.size)
    (hdn : V.day.n ≤ 140737488355328) (hn : ∀ i, i < 8 → (V.sl i).n ≤ 1000000) (hf : Rm.fm V.r = true) (hb : Clk.okB Bg = true) :
    SeqE 4 Tryz.prog 93 #[.pointer (some ⟨b1, 0, none⟩), .pointer (some ⟨b2, 0, none⟩)] encInt Kr (Ex.rest V.r Bg e 3652062 0) w := by
  intro lp J Jx W hg hJ hJx hY h0
  have hdb := Clk.okB_day hb
  obtain ⟨f1, ⟨i1, i2⟩, f3⟩ := fm_head hf
  have hsp := Ex.secs_pos (r := V.r) (b := Bg % 86400) hf (by omega) (by omega)
  have hsl := upto_secs V.r (Bg % 86400)
  have hss : ∀ s ∈ Ex.secs V.r (Bg % 86400), 0 ≤ s ∧ s < 86400 := fun s hs => Ex.secs_bd s hs
  replace h1 := gr_cell hg h1
  replace h2 := gr_cell hg h2
  replace hP := hP.gr hg
  replace hM := hM.keep (hg.below.mono hB)
  replace hS := hS.sm (hg.sm (fun _ => True)) (fun _ _ _ => trivial)
  replace hKr : ∀ k, Kr k → k < W.heap.size := fun k h => Nat.lt_of_lt_of_le (hKr k h) hg.lt
  replace hB := Nat.le_trans hB hg.lt
  have hnl := hS.1
  obtain ⟨XS, hXS⟩ : ∃ XS, Ex.rest V.r Bg e 3652062 0 = XS := ⟨_, rfl⟩
  rw [hXS] at hY ⊢
  have HXS := Lib.hid hXS
  have HY := Lib.hid hY
  have HJ := Lib.hid (And.intro hJ hJx)
  have H0 := Lib.hid h0
  clear hY hJ hJx h0 hXS hg
  have cSp := fun k (h0 : 0 ≤ k) (w' : World) (h : Gr W w' ∨ RuM w' w'.heap.size V) => (if hk : k ≤ 3652059 then span_near V (Bg / 86400) k w' (h.elim (fun g => (hM.more hB).gr g) id) hf hdb (by omega) hk else (span_far V (Bg / 86400) k w' (h.elim (fun g => (hM.more hB).gr g) id) hf (.inr (.inr (by omega)))).mono (by
    rintro e w'' ⟨rfl, hg⟩
    have e9 : Mc.spE V.r (Bg / 86400) k = (0, 0, 2) := by
      have := Ex.stop_far (r := V.r) (B := Bg) (e := 315537983999999) (k := k) hdb f3 (by omega)
      rcases Ex.spE_cases V.r (Bg / 86400) k with h | h
      · exact h
      · exfalso
        obtain ⟨z1, z2, z3⟩ := Ex.spE_ok h.1
        unfold Ex.stop at this
        simp only [Bool.or_eq_true, decide_eq_true_eq] at this
        omega
    rw [e9]
    exact ⟨rfl, hg⟩) : Calls Tryz.prog 21 #[.agg V.val, .int .i64 (Bg / 86400), .int .i64 k] w' fun e w'' => e = .returned (.tuple #[.int .i64 (Mc.spE V.r (Bg / 86400) k).1, .int .i64 (Mc.spE V.r (Bg / 86400) k).2.1, .int .i64 (Mc.spE V.r (Bg / 86400) k).2.2]) ∧ Gr w' w'')
  refine callsIn_of_wp_marks Tryz.func93 rfl trivial ?_ rfl
  refine wpIn_wide.2 ?_
  simp only [Tryz.ntmps93, List.size_toArray, List.length_cons, List.length_nil, Nat.reduceAdd, Nat.reduceSub, Array.replicate_succ, Array.replicate_zero, List.push_toArray, List.append_toArray, List.nil_append, List.cons_append]
  go_upto_region 1 with fail
  have hga : Gr W (W.alloc (.cells #[.func (.yield lp) #[] #[]] 34)) := (Gr.refl W).allocO _
  have cy : (W.alloc (.cells #[.func (.yield lp) #[] #[]] 34)).cell? ⟨W.heap.size, 0, none⟩ = some (.func (.yield lp) #[] #[]) := by simp
  have hz0 : (W.alloc (.cells #[.func (.yield lp) #[] #[]] 34)).heap.size = W.heap.size + 1 := by simp
  have c1 := gr_cell hga h1
  have c18 := gr_cell hga hP.c18
  generalize W.alloc (.cells #[.func (.yield lp) #[] #[]] 34) = W0 at *
  go_wp2
  have hgb : Gr W0 (W0.alloc (.cells #[.int .i64 (Bg / 86400)] 3)) := (Gr.refl W0).allocO _
  have cs : (W0.alloc (.cells #[.int .i64 (Bg / 86400)] 3)).cell? ⟨W0.heap.size, 0, none⟩ = some (.int .i64 (Bg / 86400)) := by simp
  have fs : (W0.alloc (.cells #[.int .i64 (Bg / 86400)] 3)).frozen? ⟨W0.heap.size, 0, none⟩ = false := box_free (Gr.refl _) 0
  have hz1 : (W0.alloc (.cells #[.int .i64 (Bg / 86400)] 3)).heap.size = W0.heap.size + 1 := by simp
  rw [hz0] at cs fs
  generalize W0.alloc (.cells #[.int .i64 (Bg / 86400)] 3) = W1 at *
  have hgw := hga.trans hgb
  have hbd := Cal.dayB_iff.1 hdb
  have hF0 : FoF W1 W.heap.size (W.heap.size + 1) b1 b2 bp lp V Bg e (Bg / 86400) A n c (Ex.secs V.r (Bg % 86400)) B0 Kr (Gw (fun _ => False) W W1) :=
    ⟨gr_cell hgb cy, cs, fs, gr_cell hgw h1, gr_cell hgw h2, hP.gr hgw, hM.keep (hgw.below.mono hB), hS.sm (hgw.sm (fun _ => True)) (fun _ _ _ => trivial), .inr ⟨by omega, by omega⟩, .inr ⟨by omega, by omega⟩, k1, k2, kp, by omega, kB, Nat.le_trans hB hgw.lt⟩
  have hJ1 : J (Gw (fun _ => False) W W1) [] W1 := HJ.out.1 _ _ _ _ H0.out (hgw.sm _)
  have hGz := hgw.lt
  have hbs : ∀ k, Kr k → k ≠ W.heap.size + 1 := fun k h e => by have := hKr k h; omega
  clear h1 h2 hP hM hS hga hgb cy c1 c18 cs fs hgw H0 kB
  refine wp_loop (fun a wr => ∃ (k sv : Int) (Ds : List Nat) (E : Nat → Prop) (pre : List Int), a.tmps.size = 84 ∧ a.tmps.getD 0 undef = .func (.yield lp) #[] #[] ∧ a.tmps.getD 1 undef = .pointer (some ⟨b1, 0, none⟩) ∧ a.tmps.getD 2 undef = .pointer (some ⟨b2, 0, none⟩) ∧ a.tmps.getD 3 undef = .pointer (some ⟨W.heap.size, 0, none⟩) ∧ a.tmps.getD 4 undef = .pointer (some ⟨W.heap.size + 1, 0, none⟩) ∧ a.tmps.getD 5 undef = .int .i64 k ∧
      a.defers = Ds.map mk ∧ 0 ≤ k ∧ k ≤ 3653059 ∧ k % V.r.ivl = 0 ∧ 1 ≤ sv ∧ sv ≤ 3652059 ∧ Mks Ds E wr ∧ (∀ x, E x → W.heap.size ≤ x ∧ x < wr.heap.size) ∧ W.heap.size ≤ wr.heap.size ∧ J E pre wr ∧ Hid (pre ++ Ex.rest V.r Bg e 3652062 k = XS) ∧ Hid (Ex.SeenP V.r (Bg / 86400) (Ex.secs V.r (Bg % 86400)) k sv) ∧ FoF wr W.heap.size (W.heap.size + 1) b1 b2 bp lp V Bg e sv A n c (Ex.secs V.r (Bg % 86400)) B0 Kr E)
    (fun a _ => (4000000 - intOf (a.tmps.getD 5 undef)).toNat) ?start ?round
  case start =>
    refine ⟨0, Bg / 86400, [], Gw (fun _ => False) W W1, [], rfl, rfl, rfl, rfl, rfl, rfl, rfl, rfl, Int.le_refl _, by omega, by simp, hbd.1, hbd.2, ⟨List.Pairwise.nil, fun _ h => by cases h⟩, fun x hx => ?_, hGz, hJ1, HXS, Lib.hid (Ex.seen_zero _ _ _), hF0⟩
    rcases hx with hx | hx
    · exact hx.elim
    · exact hx
  case round =>
    rintro ⟨T, ds⟩ wr ⟨k, sv, Ds, E, pre, hT, t0, t1, t2, t3, t4, t5, hds, hk0, hk1, hkm, sv1, sv2, hD, hE, hWz, hj, hX, hSeen, hF⟩
    dsimp only at hT t0 t1 t2 t3 t4 t5 hds
    subst hds
    obtain ⟨u, hu, hg⟩ := lit84 T hT
    have u0 := (hg 0).trans t0
    have u1 := (hg 1).trans t1
    have u2 := (hg 2).trans t2
    have u3 := (hg 3).trans t3
    have u4 := (hg 4).trans t4
    have u5 := (hg 5).trans t5
    clear hg t0 t1 t2 t3 t4 t5 hT hJ1 hF0
    subst hu
    rw [u0, u1, u2, u3, u4, u5]
    have hmu : (4000000 - intOf ((((Value.func (Fn.yield lp) #[] #[] :: Value.pointer (some ⟨b1, 0, none⟩) :: Value.pointer (some ⟨b2, 0, none⟩) :: Value.pointer (some ⟨W.heap.size, 0, none⟩) :: Value.pointer (some ⟨W.heap.size + 1, 0, none⟩) :: Value.int .i64 k :: u 6 :: u 7 :: u 8 :: u 9 :: u 10 :: u 11 :: u 12 :: u 13 :: u 14 :: u 15 :: u 16 :: u 17 :: u 18 :: u 19 :: u 20 :: u 21 :: u 22 :: u 23 :: u 24 :: u 25 :: u 26 :: u 27 :: u 28 :: u 29 :: u 30 :: u 31 :: u 32 :: u 33 :: u 34 :: u 35 :: u 36 :: u 37 :: u 38 :: u 39 :: u 40 :: u 41 :: u 42 :: u 43 :: u 44 :: u 45 :: u 46 :: u 47 :: u 48 :: u 49 :: u 50 :: u 51 :: u 52 :: u 53 :: u 54 :: u 55 :: u 56 :: u 57 :: u 58 :: u 59 :: u 60 :: u 61 :: u 62 :: u 63 :: u 64 :: u 65 :: u 66 :: u 67 :: u 68 :: u 69 :: u 70 :: u 71 :: u 72 :: u 73 :: u 74 :: u 75 :: u 76 :: u 77 :: u 78 :: u 79 :: u 80 :: u 81 :: u 82 :: u 83 :: [] : List Value).toArray) : Array Value).getD 5 undef)).toNat = (4000000 - k).toNat := rfl
    rw [hmu]
    clear hmu u0 u1 u2 u3 u4 u5
    go_upto_region 4 with fail
    have hgx := fun (w' : World) (g : Gr wr w') => (hF.M.more hF.z).gr g
    have cS := fun (w' : World) (g : Gr wr w') => cSp k hk0 w' (.inr (hgx w' g))
    have hspc := spE_cases2 V.r (Bg / 86400) k
    have HST := Lib.hid (fun h => Ex.spE_stop (r := V.r) (B := Bg) (e := e) (k := k) h)
    have HOK := Lib.hid (fun h => Ex.spE_ok (r := V.r) (B := Bg) (k := k) h)
    generalize (Mc.spE V.r (Bg / 86400) k).1 = fr at *
    generalize (Mc.spE V.r (Bg / 86400) k).2.1 = tt at *
    generalize (Mc.spE V.r (Bg / 86400) k).2.2 = er at *
    have c1 := hF.p
    have c18 := hF.P.c18
    have hbx := hF.P.r
    clear hgx cSp
    refine Code.wp_mono (Q := fun x a w' => x = .normal ∧ ∃ (bt : Nat), a.tmps.size = 84 ∧ a.tmps.getD 0 undef = .func (.yield lp) #[] #[] ∧ a.tmps.getD 1 undef = .pointer (some ⟨b1, 0, none⟩) ∧ a.tmps.getD 2 undef = .pointer (some ⟨b2, 0, none⟩) ∧ a.tmps.getD 3 undef = .pointer (some ⟨W.heap.size, 0, none⟩) ∧ a.tmps.getD 4 undef = .pointer (some ⟨W.heap.size + 1, 0, none⟩) ∧ a.tmps.getD 5 undef = .int .i64 k ∧
        a.tmps.getD 6 undef = .int .i64 fr ∧ a.tmps.getD 7 undef = .pointer (some ⟨bt, 0, none⟩) ∧ a.tmps.getD 8 undef = .int .i64 er ∧ a.defers = Ds.map mk ∧ Gr wr w' ∧ w'.cell? ⟨bt, 0, none⟩ = some (.int .i64 tt) ∧ wr.heap.size ≤ bt) ?rest ?region
    case region =>
      refine wp_region_S 18 (fun w' : World => Gr wr w') (by kernel_rfl) rfl ?_
      have hS0 : (fun w' : World => Gr wr w') wr.drew := (Gr.refl _).drew
      generalize wr.drew = W2 at *
      refine WkS.take (i := 0) (v := ?_) (at_lit rfl) (by kernel_rfl) (by kernel_rfl) (by kernel_rfl) rfl (fun _ _ _ h => by first | exact h | (cases h.1)) ?_ hS0 ?_
      rotate_left 1
      · intro w' hw
        have k0 := gr_cell hw c1
        clear hw
        go_simp
        first | done | rfl
      try simp only [Act.put, List.setIfInBounds_toArray, List.set_cons_zero, List.set_cons_succ]
      refine WkS.take (i := 1) (v := ?_) (at_lit rfl) (by kernel_rfl) (by kernel_rfl) (by kernel_rfl) rfl (fun _ _ _ h => by first | exact h | (cases h.1)) ?_ hS0 ?_
      rotate_left 1
      · intro w' hw
        clear hw
        go_simp
        first | done | rfl
      try simp only [Act.put, List.setIfInBounds_toArray, List.set_cons_zero, List.set_cons_succ]
      refine WkS.take (i := 2) (v := ?_) (at_lit rfl) (by kernel_rfl) (by kernel_rfl) (by kernel_rfl) rfl (fun _ _ _ h => by first | exact h | (cases h.1)) ?_ hS0 ?_
      rotate_left 1
      · intro w' hw
        clear hw
        go_simp
        first | done | rfl
      try simp only [Act.put, List.setIfInBounds_toArray, List.set_cons_zero, List.set_cons_succ]
      refine WkS.take (i := 3) (v := .agg V.val) (at_lit rfl) (by kernel_rfl) (by kernel_rfl) (by kernel_rfl) rfl (fun _ _ _ h => by first | exact h | (cases h.1)) (fun w' hw => exec_rule (.tmp 26) rfl rfl (hbx.gr hw)) hS0 ?_
      try simp only [Act.put, List.setIfInBounds_toArray, List.set_cons_zero, List.set_cons_succ]
      refine WkS.take (i := 4) (v := ?_) (at_lit rfl) (by kernel_rfl) (by kernel_rfl) (by kernel_rfl) rfl (fun _ _ _ h => by first | exact h | (cases h.1)) ?_ hS0 ?_
      rotate_left 1
      · intro w' hw
        have k0 := gr_cell hw c1
        clear hw
        go_simp
        first | done | rfl
      try simp only [Act.put, List.setIfInBounds_toArray, List.set_cons_zero, List.set_cons_succ]
      refine WkS.take (i := 5) (v := ?_) (at_lit rfl) (by kernel_rfl) (by kernel_rfl) (by kernel_rfl) rfl (fun _ _ _ h => by first | exact h | (cases h.1)) ?_ hS0 ?_
      rotate_left 1
      · intro w' hw
        clear hw
        go_simp
        first | done | rfl
      try simp only [Act.put, List.setIfInBounds_toArray, List.set_cons_zero, List.set_cons_succ]
      refine WkS.take (i := 6) (v := ?_) (at_lit rfl) (by kernel_rfl) (by kernel_rfl) (by kernel_rfl) rfl (fun _ _ _ h => by first | exact h | (cases h.1)) ?_ hS0 ?_
      rotate_left 1
      · intro w' hw
        clear hw
        go_simp
        first | done | rfl
      try simp only [Act.put, List.setIfInBounds_toArray, List.set_cons_zero, List.set_cons_succ]
      refine WkS.take (i := 7) (v := ?_) (at_lit rfl) (by kernel_rfl) (by kernel_rfl) (by kernel_rfl) rfl (fun _ _ _ h => by first | exact h | (cases h.1)) ?_ hS0 ?_
      rotate_left 1
      · intro w' hw
        have k0 := gr_cell hw c18
        clear hw
        go_simp
        first | done | rfl
      try simp only [Act.put, List.setIfInBounds_toArray, List.set_cons_zero, List.set_cons_succ]
      refine WkS.take (i := 8) (v := ?_) (at_lit rfl) (by kernel_rfl) (by kernel_rfl) (by kernel_rfl) rfl (fun _ _ _ h => by first | exact h | (cases h.1)) ?_ hS0 ?_
      rotate_left 1
      · intro w' hw
        clear hw
        go_simp
        first | done | rfl
      try simp only [Act.put, List.setIfInBounds_toArray, List.set_cons_zero, List.set_cons_succ]
      refine WkS.these (is := [9, 14]) (by kernel_rfl) (by simp) (fun i hi => ?_)
      simp only [List.mem_cons, List.not_mem_nil, or_false] at hi
      rcases hi with rfl | rfl
      · refine WkS.op (at_lit rfl) rfl (fun K hK => ?_)
        go_simp
        refine (cS _ hS0).mono ?_
        rintro e2 w2 ⟨rfl, hg2⟩
        have hS1 : Gr wr w2 := hS0.trans hg2
        refine hK _ _ ⟨hS1, ?_⟩
        clear hK K hg2
        try simp only [Act.put, List.setIfInBounds_toArray, List.set_cons_zero, List.set_cons_succ]
        refine WkS.take (i := 10) (v := ?_) (at_lit rfl) (by kernel_rfl) (by kernel_rfl) (by kernel_rfl) rfl (fun _ _ _ h => by first | exact h | (cases h.1)) ?_ hS1 ?_
        rotate_left 1
        · intro w' hw
          clear hw
          go_simp
          first | done | rfl
        try simp only [Act.put, List.setIfInBounds_toArray, List.set_cons_zero, List.set_cons_succ]
        refine WkS.take (i := 11) (v := ?_) (at_lit rfl) (by kernel_rfl) (by kernel_rfl) (by kernel_rfl) rfl (fun _ _ _ h => by first | exact h | (cases h.1)) ?_ hS1 ?_
        rotate_left 1
        · intro w' hw
          clear hw
          go_simp
          first | done | rfl
        try simp only [Act.put, List.setIfInBounds_toArray, List.set_cons_zero, List.set_cons_succ]
        refine WkS.take (i := 12) (v := ?_) (at_lit rfl) (by kernel_rfl) (by kernel_rfl) (by kernel_rfl) rfl (fun _ _ _ h => by first | exact h | (cases h.1)) ?_ hS1 ?_
        rotate_left 1
        · intro w' hw
          clear hw
          go_simp
          first | done | rfl
        try simp only [Act.put, List.setIfInBounds_toArray, List.set_cons_zero, List.set_cons_succ]
        refine WkS.take (i := 13) (v := ?_) (at_lit rfl) (by kernel_rfl) (by kernel_rfl) (by kernel_rfl) rfl (fun _ _ _ h => by first | exact h | (cases h.1)) ?_ hS1 ?_
        rotate_left 1
        · intro w' hw
          clear hw
          go_simp
          first | done | rfl
        try simp only [Act.put, List.setIfInBounds_toArray, List.set_cons_zero, List.set_cons_succ]
        refine WkS.these (is := [14]) (by kernel_rfl) (by simp) (fun i hi => ?_)
        obtain rfl := List.mem_singleton.1 hi
        clear hi
        refine WkS.op (at_lit rfl) rfl (fun K hK => ?_)
        go_simp
        have ob := OneB.new hS1 (.int .i64 0) 3
        have hS2 : Gr wr (w2.alloc (.cells #[.int .i64 0] 3)) := hS1.trans ((Gr.refl _).allocO _)
        refine hK _ _ ⟨hS2, ?_⟩
        clear hK K
        generalize w2.alloc (Obj.cells #[Value.int .i64 0] 3) = W3 at *
        generalize w2.heap.size = bt at *
        try simp only [Act.put, List.setIfInBounds_toArray, List.set_cons_zero, List.set_cons_succ]
        refine WkS.these (is := [15]) (by kernel_rfl) (by simp) (fun i hi => ?_)
        obtain rfl := List.mem_singleton.1 hi
        clear hi
        refine WkS.op (at_lit rfl) rfl (fun K hK => ?_)
        go_simp
        refine hK _ _ ⟨hS2, ?_⟩
        clear hK K
        try simp only [Act.put, List.setIfInBounds_toArray, List.set_cons_zero, List.set_cons_succ]
        have hbc := ob.c
        have hbf := ob.f
        refine WkS.these (is := [16]) (by kernel_rfl) (by simp) (fun i hi => ?_)
        obtain rfl := List.mem_singleton.1 hi
        clear hi
        refine WkS.op (at_lit rfl) rfl (fun K hK => ?_)
        go_simp
        have hT : Gr wr (W3.setCell ⟨bt, 0, none⟩ (.int .i64 tt)) := ⟨hS2.below.setCell (p := ⟨bt, 0, none⟩) ob.h _⟩
        have cb : (W3.setCell ⟨bt, 0, none⟩ (.int .i64 tt)).cell? ⟨bt, 0, none⟩ = some (.int .i64 tt) := World.cell?_setCell_same _ _ _ ob.c
        refine hK _ _ ⟨hT, ?_⟩
        clear hK K
        try simp only [Act.put, List.setIfInBounds_toArray, List.set_cons_zero, List.set_cons_succ]
        refine WkS.these (is := [17]) (by kernel_rfl) (by simp) (fun i hi => ?_)
        obtain rfl := List.mem_singleton.1 hi
        clear hi
        refine WkS.op (at_lit rfl) rfl (fun K hK => ?_)
        go_simp
        refine hK _ _ ⟨hT, ?_⟩
        clear hK K
        try simp only [Act.put, List.setIfInBounds_toArray, List.set_cons_zero, List.set_cons_succ]
        refine WkS.done (by kernel_rfl) ?_
        exact ⟨rfl, bt, rfl, rfl, rfl, rfl, rfl, rfl, rfl, rfl, rfl, rfl, rfl, hT, cb, ob.h⟩
      · refine WkS.op (at_lit rfl) rfl (fun K hK => ?_)
        go_simp
        have ob := OneB.new hS0 (.int .i64 0) 3
        have hS1 : Gr wr (W2.alloc (.cells #[.int .i64 0] 3)) := hS0.trans ((Gr.refl _).allocO _)
        refine hK _ _ ⟨hS1, ?_⟩
        clear hK K
        generalize W2.alloc (Obj.cells #[Value.int .i64 0] 3) = w2 at *
        generalize W2.heap.size = bt at *
        try simp only [Act.put, List.setIfInBounds_toArray, List.set_cons_zero, List.set_cons_succ]
        refine WkS.these (is := [9]) (by kernel_rfl) (by simp) (fun i hi => ?_)
        obtain rfl := List.mem_singleton.1 hi
        clear hi
        refine WkS.op (at_lit rfl) rfl (fun K hK => ?_)
        go_simp
        refine (cS _ hS1).mono ?_
        rintro e2 W3 ⟨rfl, hg2⟩
        have hS2 : Gr wr W3 := hS1.trans hg2
        have ob := ob.gr hg2
        refine hK _ _ ⟨hS2, ?_⟩
        clear hK K hg2
        try simp only [Act.put, List.setIfInBounds_toArray, List.set_cons_zero, List.set_cons_succ]
        refine WkS.take (i := 10) (v := ?_) (at_lit rfl) (by kernel_rfl) (by kernel_rfl) (by kernel_rfl) rfl (fun _ _ _ h => by first | exact h | (cases h.1)) ?_ hS2 ?_
        rotate_left 1
        · intro w' hw
          clear hw
          go_simp
          first | done | rfl
        try simp only [Act.put, List.setIfInBounds_toArray, List.set_cons_zero, List.set_cons_succ]
        refine WkS.take (i := 11) (v := ?_) (at_lit rfl) (by kernel_rfl) (by kernel_rfl) (by kernel_rfl) rfl (fun _ _ _ h => by first | exact h | (cases h.1)) ?_ hS2 ?_
        rotate_left 1
        · intro w' hw
          clear hw
          go_simp
          first | done | rfl
        try simp only [Act.put, List.setIfInBounds_toArray, List.set_cons_zero, List.set_cons_succ]
        refine WkS.take (i := 12) (v := ?_) (at_lit rfl) (by kernel_rfl) (by kernel_rfl) (by kernel_rfl) rfl (fun _ _ _ h => by first | exact h | (cases h.1)) ?_ hS2 ?_
        rotate_left 1
        · intro w' hw
          clear hw
          go_simp
          first | done | rfl
        try simp only [Act.put, List.setIfInBounds_toArray, List.set_cons_zero, List.set_cons_succ]
        refine WkS.take (i := 13) (v := ?_) (at_lit rfl) (by kernel_rfl) (by kernel_rfl) (by kernel_rfl) rfl (fun _ _ _ h => by first | exact h | (cases h.1)) ?_ hS2 ?_
        rotate_left 1
        · intro w' hw
          clear hw
          go_simp
          first | done | rfl
        try simp only [Act.put, List.setIfInBounds_toArray, List.set_cons_zero, List.set_cons_succ]
        refine WkS.these (is := [15]) (by kernel_rfl) (by simp) (fun i hi => ?_)
        obtain rfl := List.mem_singleton.1 hi
        clear hi
        refine WkS.op (at_lit rfl) rfl (fun K hK => ?_)
        go_simp
        refine hK _ _ ⟨hS2, ?_⟩
        clear hK K
        try simp only [Act.put, List.setIfInBounds_toArray, List.set_cons_zero, List.set_cons_succ]
        have hbc := ob.c
        have hbf := ob.f
        refine WkS.these (is := [16]) (by kernel_rfl) (by simp) (fun i hi => ?_)
        obtain rfl := List.mem_singleton.1 hi
        clear hi
        refine WkS.op (at_lit rfl) rfl (fun K hK => ?_)
        go_simp
        have hT : Gr wr (W3.setCell ⟨bt, 0, none⟩ (.int .i64 tt)) := ⟨hS2.below.setCell (p := ⟨bt, 0, none⟩) ob.h _⟩
        have cb : (W3.setCell ⟨bt, 0, none⟩ (.int .i64 tt)).cell? ⟨bt, 0, none⟩ = some (.int .i64 tt) := World.cell?_setCell_same _ _ _ ob.c
        refine hK _ _ ⟨hT, ?_⟩
        clear hK K
        try simp only [Act.put, List.setIfInBounds_toArray, List.set_cons_zero, List.set_cons_succ]
        refine WkS.these (is := [17]) (by kernel_rfl) (by simp) (fun i hi => ?_)
        obtain rfl := List.mem_singleton.1 hi
        clear hi
        refine WkS.op (at_lit rfl) rfl (fun K hK => ?_)
        go_simp
        refine hK _ _ ⟨hT, ?_⟩
        clear hK K
        try simp only [Act.put, List.setIfInBounds_toArray, List.set_cons_zero, List.set_cons_succ]
        refine WkS.done (by kernel_rfl) ?_
        exact ⟨rfl, bt, rfl, rfl, rfl, rfl, rfl, rfl, rfl, rfl, rfl, rfl, rfl, hT, cb, ob.h⟩
    case rest =>
      rintro x ⟨T, ds⟩ w2 ⟨rfl, bt, hT, t0, t1, t2, t3, t4, t5, t6, t7, t8, hds, hg2, cbt, hbt⟩
      dsimp only at hT t0 t1 t2 t3 t4 t5 t6 t7 t8 hds
      subst hds
      obtain ⟨v, hu, hg⟩ := lit84 T hT
      have u0 := (hg 0).trans t0
      have u1 := (hg 1).trans t1
      have u2 := (hg 2).trans t2
      have u3 := (hg 3).trans t3
      have u4 := (hg 4).trans t4
      have u5 := (hg 5).trans t5
      have u6 := (hg 6).trans t6
      have u7 := (hg 7).trans t7
      have u8 := (hg 8).trans t8
      clear hg t0 t1 t2 t3 t4 t5 t6 t7 t8 hT
      subst hu
      rw [u0, u1, u2, u3, u4, u5, u6, u7, u8]
      clear u0 u1 u2 u3 u4 u5 u6 u7 u8 u cS hbx c1 c18
      have hF2 := hF.sm (hg2.sm (fun _ => True)) (fun _ _ => trivial) (fun _ _ => trivial)
      have hD2 := hD.sm (hg2.sm (fun _ => True)) (fun _ _ => trivial) (fun _ h => h)
      have hj2 := HJ.out.1 _ _ _ _ hj (hg2.sm _)
      have hE2 : ∀ x, Gw E wr w2 x → W.heap.size ≤ x ∧ x < w2.heap.size := fun x hx => by
        have := hg2.lt
        rcases hx with hx | hx
        · have := hE x hx; omega
        · omega
      have hWz2 := Nat.le_trans hWz hg2.lt
      replace hD2 : Mks Ds (Gw E wr w2) w2 := ⟨hD2.p, fun D h => ⟨.inl (hD2.d D h).1, (hD2.d D h).2⟩⟩
      replace hF2 := hF2.more (E2 := Gw E wr w2) (fun _ h => .inl h)
      have hEt : Gw E wr w2 bt := .inr ⟨hbt, World.block_lt_of_cell? _ _ cbt⟩
      have hEtn : bt ≠ W.heap.size + 1 := fun h => by have := hE _ hF.ks; omega
      clear hF hD hj hE hbt hg2
      generalize Gw E wr w2 = E2 at *
      clear E
      /- the end, once nothing is to come -/
      have fin : ∀ (tm : Array Value) (w3 : World), Gr w2 w3 → Hid (Ex.rest V.r Bg e 3652062 k = []) → bodyPostM Fence.wide 4 Tryz.prog Tryz.f93
          (fun e W' => (∃ v, e = .returned v) ∧ ∃ E, (∀ k, E k → W.heap.size ≤ k ∧ k < W'.heap.size) ∧ (J E XS W' ∨ ∃ pre, pre <+: XS ∧ Jx E pre W')) .ret { tmps := tm, defers := Ds.map mk } w3 := fun tm w3 hg3 hr => by
        have hj3 := HJ.out.1 _ _ _ _ hj2 (hg3.sm _)
        have hD3 := hD2.sm (hg3.sm (fun _ => True)) (fun _ _ => trivial) (E2 := Gw E2 w2 w3) (fun _ h => .inl h)
        have hE3 : ∀ x, Gw E2 w2 w3 x → W.heap.size ≤ x ∧ x < w3.heap.size := fun x hx => by
          have := hg3.lt
          rcases hx with hx | hx
          · have := hE2 x hx; omega
          · omega
        have hpx : pre = XS := by have := hX.out; rw [hr.out, List.append_nil] at this; exact this
        rw [hpx] at hj3
        show LeavesInM Fence.wide 4 Tryz.prog Tryz.f93 tm _ (Ds.map mk) .returning w3
        refine leave_all (E := Gw E2 w2 w3) (results_none rfl _ _) Ds w3 hD3.p hD3.d (fun W' hs hz => ⟨⟨_, rfl⟩, Gw E2 w2 w3, fun x hx => by rw [hz]; exact hE3 x hx, .inl (Ab.same HJ.out.1 _ _ _ _ hj3 hs hz)⟩)
      have HFin := Lib.hid fin
      clear fin
      have hce := hF2.l
      have hcs := hF2.s
      have hcp := hF2.p
      have hc1 := hF2.P.r.c1
      have hiv : V.r.ivl * 146097 ≤ 146097000 := by omega
      have hiv0 : 0 ≤ V.r.ivl * 146097 := by omega
      by_cases her : er = 0
      · subst her
        obtain ⟨z1, z2, z3⟩ := HOK.out rfl
        obtain ⟨y1, y2, y3⟩ : 1 ≤ fr ∧ fr ≤ tt ∧ tt ≤ 3652059 := by omega
        have cA := fun w' => cat_yes fr 0 w' (Cal.dayB_iff.2 ⟨by omega, by omega⟩) rfl
        rw [show fr * 86400 + 0 = fr * 86400 by omega] at cA
        have hstv : Ex.stop V.r Bg e k = decide (e < 86400 * fr) := by
          unfold Ex.stop
          rw [decide_eq_false (by omega), Bool.false_or, z1]
        have hru := Ex.restU (r := V.r) (B := Bg) (e := e) hdb f3 i1 hk0
        rw [hstv] at hru
        by_cases c1 : e < fr * 86400
        · have hr0 : Hid (Ex.rest V.r Bg e 3652062 k = []) := Lib.hid (by rw [hru, if_pos (decide_eq_true (by omega))])
          clear hru hstv z1 z2 z3 HOK HST hspc
          go_upto_region 6 with (go_at_call 44; refine (cA _).mono ?_; rintro e2 w3 ⟨rfl, rfl⟩)
          go_quiet (fail)
          go_wp2
          exact HFin.out _ _ ((Gr.refl _).drewN nq) hr0
        have hk2 : k ≤ 3652059 := by
          by_cases h : k ≤ 3652059
          · exact h
          · exfalso
            have h9 := Ex.stop_far (r := V.r) (B := Bg) (e := 315537983999999) (k := k) hdb f3 (by omega)
            unfold Ex.stop at h9
            simp only [Bool.or_eq_true, decide_eq_true_eq] at h9
            omega
        have hw1 : IntKind.i64.wrap (fr - sv) = fr - sv := IntWalk.i64_in _ ⟨by omega, by omega⟩
        have hw2 : IntKind.i64.wrap (V.r.ivl * 146097) = V.r.ivl * 146097 := IntWalk.i64_in _ ⟨by omega, by omega⟩
        by_cases c2 : V.r.ivl * 146097 < fr - sv
        · have hr0 : Hid (Ex.rest V.r Bg e 3652062 k = []) := Lib.hid (Ex.cut_rest f3 hdb i1 hSeen.out z3 (by rw [← z1]; exact c2) _)
          clear hru hstv z1 z2 z3 HOK HST hspc
          go_upto_region 6 with (go_at_call 44; refine (cA _).mono ?_; rintro e2 w3 ⟨rfl, rfl⟩)
          go_quiet (fail)
          go_wp2
          exact HFin.out _ _ ((Gr.refl _).drewN nq) hr0
        have hru2 : Ex.rest V.r Bg e 3652062 k = (Ex.tms V.r (Bg / 86400) k (Ex.secs V.r (Bg % 86400))).filter (Ex.inB Bg e) ++ Ex.rest V.r Bg e 3652062 (k + V.r.ivl) := by
          rw [hru, if_neg (by simp; omega)]
        have htm := Ex.tms_eq (r := V.r) (db := Bg / 86400) (ss := Ex.secs V.r (Bg % 86400)) hk0 hkm
        rw [← z1, ← z2] at htm
        have hlate := fun pi t x ht hx => Ex.rest_late (r := V.r) (B := Bg) (e := e) (k := k) (x := x) (pre := pi) (t := t) f3 i1 ht hx 3652062
        have htd : ∀ x ∈ Ex.tms V.r (Bg / 86400) k (Ex.secs V.r (Bg % 86400)), 86400 ≤ x ∧ x ≤ 315537983999 := fun x hx => by
          have := Ex.tms_day hss hx
          rw [← z1, ← z2] at this
          omega
        have hsn0 := fun h => Ex.seen_none i1 hkm hSeen.out h
        have hsn1 := Ex.seen_some (ss := Ex.secs V.r (Bg % 86400)) f3 hdb i1 hk0 hkm z3
        rw [← z2] at hsn1
        have HR := Lib.hid (And.intro hru2 (And.intro hlate (And.intro htd (And.intro hsn0 hsn1))))
        have HM2 := Lib.hid hF2.M
        clear hru hstv z1 z2 z3 HOK HST hspc hru2 hlate htd hsn0 hsn1
        go_upto_region 6 with (go_at_call 44; refine (cA _).mono ?_; rintro e2 w3 ⟨rfl, rfl⟩)
        go_quiet (fail)
        have hgq : Gr w2 (w2.drewN nq) := (Gr.refl _).drewN nq
        have cT := fun w' => timesF_any bp fr tt w'
        have hcbt := gr_cell hgq cbt
        have hcp := gr_cell hgq hcp
        have hgq2 := hgq
        clear hce hcs hc1 cA
        generalize w2.drewN nq = w6 at *
        go_upto_region 7 with fail
        refine Code.wp_mono (Q := fun x a w' => x = .normal ∧ a.tmps.size = 84 ∧ a.tmps.getD 0 undef = .func (.yield lp) #[] #[] ∧ a.tmps.getD 1 undef = .pointer (some ⟨b1, 0, none⟩) ∧ a.tmps.getD 2 undef = .pointer (some ⟨b2, 0, none⟩) ∧ a.tmps.getD 3 undef = .pointer (some ⟨W.heap.size, 0, none⟩) ∧ a.tmps.getD 4 undef = .pointer (some ⟨W.heap.size + 1, 0, none⟩) ∧ a.tmps.getD 5 undef = .int .i64 k ∧
            a.tmps.getD 7 undef = .pointer (some ⟨bt, 0, none⟩) ∧ a.tmps.getD 64 undef = .func (.func 41) #[] #[.pointer (some ⟨w6.heap.size, 0, none⟩), .pointer (some ⟨w6.heap.size + 1, 0, none⟩), .pointer (some ⟨w6.heap.size + 1 + 1, 0, none⟩)] ∧ a.defers = Ds.map mk ∧
            Gr w6 w' ∧ w'.heap.size = w6.heap.size + 3 ∧ w'.cell? ⟨w6.heap.size, 0, none⟩ = some (.pointer (some ⟨bp, 0, none⟩)) ∧ w'.cell? ⟨w6.heap.size + 1, 0, none⟩ = some (.int .i64 fr) ∧ w'.cell? ⟨w6.heap.size + 1 + 1, 0, none⟩ = some (.int .i64 tt)) ?rest7 ?region7
        case region7 =>
          go_wp2_with (go_at_call 23; refine (cT _).mono ?_; rintro e2 w7 ⟨rfl, hg7, z7, x1, x2, x3⟩)
        case rest7 =>
          rintro x ⟨T, ds⟩ w7 ⟨rfl, hT, t0, t1, t2, t3, t4, t5, t7, t64, hds, hg7, z7, x1, x2, x3⟩
          dsimp only at hT t0 t1 t2 t3 t4 t5 t7 t64 hds
          subst hds
          obtain ⟨u, hu, hg⟩ := lit84 T hT
          have u0 := (hg 0).trans t0
          have u1 := (hg 1).trans t1
          have u2 := (hg 2).trans t2
          have u3 := (hg 3).trans t3
          have u4 := (hg 4).trans t4
          have u5 := (hg 5).trans t5
          have u7 := (hg 7).trans t7
          have u64 := (hg 64).trans t64
          clear hg t0 t1 t2 t3 t4 t5 t7 t64 hT
          subst hu
          rw [u0, u1, u2, u3, u4, u5, u7, u64]
          clear u0 u1 u2 u3 u4 u5 u7 u64 v cT hgq2
          have hgw7 : Gr w2 w7 := hgq.trans hg7
          have hF7 := hF2.sm (hgw7.sm (fun _ => True)) (fun _ _ => trivial) (fun _ _ => trivial)
          have hj7 := HJ.out.1 _ _ _ _ hj2 (hgw7.sm _)
          have hcbt7 := gr_cell hg7 hcbt
          have htbl : w2.heap.size ≤ w6.heap.size := hgq.lt
          have hE7 : ∀ x, Gw E2 w2 w7 x → W.heap.size ≤ x ∧ x < w7.heap.size := fun x hx => by
            have := hgw7.lt
            rcases hx with hx | hx
            · have := hE2 x hx; omega
            · omega
          have hD7 : Mks Ds (Gw E2 w2 w7) w7 := (hD2.sm (hgw7.sm (fun _ => True)) (fun _ _ => trivial) (fun _ h => .inl h))
          replace hF7 := hF7.more (E2 := Gw E2 w2 w7) (fun _ h => .inl h)
          have hEt7 : Gw E2 w2 w7 bt := .inl hEt
          have hEb7 : Gw E2 w2 w7 w6.heap.size := .inr ⟨htbl, by omega⟩
          have htbn : w6.heap.size ≠ W.heap.size + 1 := fun h => by have := hE2 _ hF2.ks; omega
          have hW7 := Nat.le_trans hWz2 hgw7.lt
          clear hF2 hD2 hj2 hE2 hEt hgw7 hgq hg7 hcbt hcp htbl HFin HM2 hWz2 cbt
          generalize Gw E2 w2 w7 = E7 at *
          generalize w6.heap.size = tb at *
          obtain ⟨hru2, hlate, htd, hsn0, hsn1⟩ := HR.out
          have hnn : n = (Ex.secs V.r (Bg % 86400)).length := by have := hF7.N.1; omega
          have hseq := times_seq V bp Bg (Bg / 86400) A n c (Ex.secs V.r (Bg % 86400)) tb (tb + 1) (tb + 1 + 1) fr tt w7 (fun k => Kr k ∨ k = tb) B0 x1 x2 x3 hF7.P hF7.M hF7.z (hF7.N.weak (fun k _ h => .inl h)) hss (by omega) (.inr rfl) (.inl kp) (fun k h => by
            rcases h with h | h
            · have := hKr k h; omega
            · omega) hdn hn hf hdb (by omega) (by omega) (by omega)
          rw [← htm] at hseq
          have hKin : ∀ k, (Kr k ∨ k = tb) → k < w7.heap.size := fun k h => by
            rcases h with h | h
            · have := hKr k h; omega
            · omega
          have HH := Lib.hid (And.intro hF7 (And.intro hD7 (And.intro hj7 (And.intro hE7 (And.intro hseq (And.intro hKin (And.intro hKr (And.intro hbs (And.intro hss (And.intro hlate htd))))))))))
          clear hF7 hD7 hj7 hE7 hseq hKin hKr hbs hss hlate htd x1 x2 x3 hsn0 hsn1 hru2 hw1 hw2
          go_wp2
          obtain ⟨hF7, hD7, hj7, hE7, hseq, hKin, hKr, hbs, hss, hlate, htd⟩ := HH.out
          refine (wpIn_wide (n := 4)).1 ?_
          refine rangeE (n := 4) (gf := 41) (lb := #[.pointer (some ⟨tb, 0, none⟩), .pointer (some ⟨tb + 1, 0, none⟩), .pointer (some ⟨tb + 1 + 1, 0, none⟩)]) rfl (enters_of Tryz.func41 (by kernel_rfl) rfl) (fun _ => rfl) hseq hKin
            (fun E' pi W' => (∀ x, E' x → w7.heap.size ≤ x) ∧ w7.heap.size ≤ W'.heap.size ∧ J (fun x => E7 x ∨ E' x) (pre ++ pi.filter (Ex.inB Bg e)) W' ∧ Hid (∀ x ∈ pi, x ≤ e) ∧ FoF W' W.heap.size (W.heap.size + 1) b1 b2 bp lp V Bg e (if pi = [] then sv else tt) A n c (Ex.secs V.r (Bg % 86400)) B0 Kr E7 ∧ Mks Ds E7 W' ∧ W'.cell? ⟨bt, 0, none⟩ = some (.int .i64 tt))
            (fun cc E' pi W' => cc = .ret ∧ (∀ x, E' x → w7.heap.size ≤ x) ∧ w7.heap.size ≤ W'.heap.size ∧ Mks Ds E7 W' ∧ (J (fun x => E7 x ∨ E' x) XS W' ∨ ∃ q, q <+: XS ∧ Jx (fun x => E7 x ∨ E' x) q W'))
            ?hI ?hIx ⟨fun _ h => h.elim, Nat.le_refl _, by rw [or_falseE]; simpa using hj7, Lib.hid (fun _ h => by cases h), by rw [if_pos rfl]; exact hF7, hD7, hcbt7⟩
            (fun x => { tmps := (Value.func (Fn.yield lp) #[] #[] :: Value.pointer (some ⟨b1, 0, none⟩) :: Value.pointer (some ⟨b2, 0, none⟩) :: Value.pointer (some ⟨W.heap.size, 0, none⟩) :: Value.pointer (some ⟨W.heap.size + 1, 0, none⟩) :: Value.int .i64 k :: u 6 :: Value.pointer (some ⟨bt, 0, none⟩) :: u 8 :: u 9 :: u 10 :: Value.int .i64 x :: u 12 :: u 13 :: u 14 :: u 15 :: u 16 :: u 17 :: u 18 :: u 19 :: u 20 :: u 21 :: u 22 :: u 23 :: u 24 :: u 25 :: u 26 :: u 27 :: u 28 :: u 29 :: u 30 :: u 31 :: u 32 :: u 33 :: u 34 :: u 35 :: u 36 :: u 37 :: u 38 :: u 39 :: u 40 :: u 41 :: u 42 :: u 43 :: u 44 :: u 45 :: u 46 :: u 47 :: u 48 :: u 49 :: u 50 :: u 51 :: u 52 :: u 53 :: u 54 :: u 55 :: u 56 :: u 57 :: u 58 :: u 59 :: u 60 :: u 61 :: u 62 :: u 63 :: Value.func (.func 41) #[] #[.pointer (some ⟨tb, 0, none⟩), .pointer (some ⟨tb + 1, 0, none⟩), .pointer (some ⟨tb + 1 + 1, 0, none⟩)] :: Value.int .i64 x :: u 66 :: u 67 :: u 68 :: u 69 :: u 70 :: u 71 :: u 72 :: u 73 :: u 74 :: u 75 :: u 76 :: u 77 :: u 78 :: u 79 :: u 80 :: u 81 :: u 82 :: u 83 :: [] : List Value).toArray, defers := [] }) ?assign ?body ?done ?stop
          case hI =>
            rintro E' s A1 B1 ⟨e1, e2, e3, e4, e5, e6, e7⟩ hs
            have hk7 : ∀ x, E7 x → ¬ E' x := fun x h1 h2 => by have := hE7 x h1; have := e1 x h2; omega
            have hk8 : ∀ x, Kr x → ¬ E' x := fun x h1 h2 => by have := hKr x h1; have := e1 x h2; omega
            refine ⟨fun x hx => ?_, Nat.le_trans e2 hs.size, Ab.inner HJ.out.1 _ _ _ _ _ e3 hs, e4, e5.sm hs hk7 hk8, e6.sm hs hk7 (fun _ h => h), hs.cell (hk7 _ hEt7) e7⟩
            rcases hx with hx | hx
            · exact e1 x hx
            · omega
          case hIx =>
            rintro cc E' s A1 B1 ⟨rfl, e1, e2, e3, e4⟩ hs
            have hk7 : ∀ x, E7 x → ¬ E' x := fun x h1 h2 => by have := hE7 x h1; have := e1 x h2; omega
            refine ⟨rfl, fun x hx => ?_, Nat.le_trans e2 hs.size, e3.sm hs hk7 (fun _ h => h), ?_⟩
            · rcases hx with hx | hx
              · exact e1 x hx
              · omega
            · rcases e4 with e4 | ⟨q, hq, e4⟩
              · exact .inl (Ab.inner HJ.out.1 _ _ _ _ _ e4 hs)
              · exact .inr ⟨q, hq, Ab.inner HJ.out.2 _ _ _ _ _ e4 hs⟩
          case assign =>
            intro lq x W' K hK
            gi_wp2
            exact hK
          case body =>
            rintro lq E' pi x Wb hE' hzb ⟨e1, e2, hj, hle, hF, hD, hcb⟩ ⟨t, ht⟩
            have hx := htd x (by rw [← ht]; simp)
            have hlt := hlate pi t x (by rw [← ht]; simp)
            have hXX : Hid (pre ++ ((Ex.tms V.r (Bg / 86400) k (Ex.secs V.r (Bg % 86400))).filter (Ex.inB Bg e) ++ Ex.rest V.r Bg e 3652062 (k + V.r.ivl)) = XS) := Lib.hid (by rw [← HR.out.1]; exact hX.out)
            have HHB := Lib.hid (And.intro hF7 (And.intro hD7 (And.intro hj7 (And.intro hE7 (And.intro hseq (And.intro hKin (And.intro hKr (And.intro hbs (And.intro hss (And.intro hlate htd))))))))))
            clear hF7 hD7 hj7 hseq hss hlate htd HH
            have hk7 : ∀ y, E7 y → ¬ E' y := fun y h1 h2 => by have := hE7 y h1; have := e1 y h2; omega
            have hnb : ¬ (E' (W.heap.size + 1) ∨ (Kr (W.heap.size + 1) ∨ W.heap.size + 1 = tb)) := fun h => by
              rcases h with h | h | h
              · exact hk7 _ hF.ks h
              · exact hbs _ h rfl
              · exact htbn h.symm
            have hcl := hF.l
            have hcp := hF.p
            have h17 := hF.P.c17
            have hyy := hF.y
            have hcs := hF.s
            have hfs := hF.f
            have hput : ∀ (W5 : World), FoF W5 W.heap.size (W.heap.size + 1) b1 b2 bp lp V Bg e (if pi = [] then sv else tt) A n c (Ex.secs V.r (Bg % 86400)) B0 Kr E7 → Mks Ds E7 W5 → W5.cell? ⟨bt, 0, none⟩ = some (.int .i64 tt) → FoF (W5.setCell ⟨W.heap.size + 1, 0, none⟩ (.int .i64 tt)) W.heap.size (W.heap.size + 1) b1 b2 bp lp V Bg e (if pi ++ [x] = [] then sv else tt) A n c (Ex.secs V.r (Bg % 86400)) B0 Kr E7 ∧ Mks Ds E7 (W5.setCell ⟨W.heap.size + 1, 0, none⟩ (.int .i64 tt)) ∧ (W5.setCell ⟨W.heap.size + 1, 0, none⟩ (.int .i64 tt)).cell? ⟨bt, 0, none⟩ = some (.int .i64 tt) := fun W5 a1 a2 a3 => by
              refine ⟨by rw [if_neg (by simp)]; exact a1.put hbs tt, ⟨a2.p, fun D h => ⟨(a2.d D h).1, ?_⟩⟩, ?_⟩
              · have hne : D ≠ W.heap.size + 1 := fun e9 => by
                  have hc := a1.s
                  have hd := (a2.d D h).2
                  unfold World.cell? at hc
                  rw [← e9] at hc
                  dsimp only at hc
                  rw [hd] at hc
                  cases hc
                rw [Below.heap_setCell _ _ _ _ (by dsimp only; omega)]
                exact (a2.d D h).2
              · rw [World.cell?_setCell_other (h := fun e9 => absurd (congrArg Addr.block e9) (by dsimp only; omega))]; exact a3
            have HPut := Lib.hid hput
            have HHC := Lib.hid (And.intro hE' (And.intro e1 (And.intro e2 (And.intro hj (And.intro hle.out (And.intro hF (And.intro hD (And.intro hlt hnb))))))))
            clear hput hE' e1 e2 hj hle hlt hnb hk7 hKin hKr hbs hF hD
            by_cases hA : e < x
            · have HA := Lib.hid (show Sm (fun k => E' k ∨ (Kr k ∨ k = tb)) Wb Wb ∧ Code.ret = Code.ret ∧ (∀ x, E' x → w7.heap.size ≤ x) ∧ w7.heap.size ≤ Wb.heap.size ∧ Mks Ds E7 Wb ∧ (J (fun x => E7 x ∨ E' x) XS Wb ∨ ∃ q, q <+: XS ∧ Jx (fun x => E7 x ∨ E' x) q Wb) by
                obtain ⟨hE', e1, e2, hj, hle, hF, hD, hlt, hnb⟩ := HHC.out
                refine ⟨Sm.refl _ _, rfl, e1, e2, hD, .inl ?_⟩
                rw [← hXX.out, hlt hA]
                exact hj)
              clear hcp h17 hyy hcs hfs
              gi_wp2
              all_goals first
                | exact absurd ‹some undef = some (Value.bool _)› (by intro h; injection h with h; cases h)
                | (refine ⟨fun _ h => (by cases h), ?_⟩; gi_wp2; exact ⟨HA.out.1, rfl, HA.out.2.2⟩)
            have hA2 : x ≤ e := by omega
            have hle2 : Hid (∀ y ∈ pi ++ [x], y ≤ e) := Lib.hid (fun y hy => by
              rcases List.mem_append.1 hy with h | h
              · exact HHC.out.2.2.2.2.1 y h
              · rw [List.mem_singleton] at h; rw [h]; exact hA2)
            have HCB := Lib.hid hcb
            by_cases hB2 : Bg < x
            · have hpf : (pi ++ [x]).filter (Ex.inB Bg e) = pi.filter (Ex.inB Bg e) ++ [x] := by
                rw [List.filter_append]
                congr 1
                exact List.filter_cons_of_pos (by unfold Ex.inB; simp; omega)
              have hq : pre ++ pi.filter (Ex.inB Bg e) ++ [x] <+: XS := by
                rw [← hXX.out, ← ht, List.filter_append, hpf, List.append_assoc, List.append_assoc, List.append_assoc]
                exact ⟨t.filter (Ex.inB Bg e) ++ Ex.rest V.r Bg e 3652062 (k + V.r.ivl), by simp⟩
              have hEq : ∀ y, (E7 y ∨ E' y) → W.heap.size ≤ y ∧ y < Wb.heap.size := fun y hy => by
                have h9 := HHC.out.2.2.1
                rcases hy with hy | hy
                · have := hE7 y hy; omega
                · have := HHC.out.1 y hy; omega
              obtain ⟨fn, tmps, assign, body, hy, hR⟩ := yield_deep 1 (HY.out (fun y => E7 y ∨ E' y) (pre ++ pi.filter (Ex.inB Bg e)) x Wb HHC.out.2.2.2.1 hEq hq)
              try dsimp only at hy
              have HQ := Lib.hid (And.intro hq (And.intro hpf hEq))
              clear hq hpf hEq hcs hfs hcb
              gi_wp2
              refine hR.mono ?_
              rintro e9 W5 ⟨hs5, (⟨rfl, hj5⟩ | ⟨rfl, hx5⟩)⟩
              · obtain ⟨hE', e1, e2, hj, hle, hF, hD, hlt, hnb⟩ := HHC.out
                have hF5 := hF.sm hs5 (fun k h => .inl (.inl h)) (fun k h => .inr h)
                have hD5 := hD.sm hs5 (fun k h => .inl (.inl h)) (fun _ h => h)
                have hcb5 : W5.cell? ⟨bt, 0, none⟩ = some (.int .i64 tt) := hs5.cell (.inl (.inl hEt7)) HCB.out
                obtain ⟨p1, p2, p3⟩ := HPut.out W5 hF5 hD5 hcb5
                have HA := Lib.hid (show Sm (fun k => E' k ∨ (Kr k ∨ k = tb)) Wb (W5.setCell ⟨W.heap.size + 1, 0, none⟩ (.int .i64 tt)) ∧ (∀ x, E' x → w7.heap.size ≤ x) ∧ w7.heap.size ≤ (W5.setCell ⟨W.heap.size + 1, 0, none⟩ (.int .i64 tt)).heap.size ∧ J (fun x => E7 x ∨ E' x) (pre ++ (pi ++ [x]).filter (Ex.inB Bg e)) (W5.setCell ⟨W.heap.size + 1, 0, none⟩ (.int .i64 tt)) ∧ Hid (∀ y ∈ pi ++ [x], y ≤ e) ∧ FoF (W5.setCell ⟨W.heap.size + 1, 0, none⟩ (.int .i64 tt)) W.heap.size (W.heap.size + 1) b1 b2 bp lp V Bg e (if pi ++ [x] = [] then sv else tt) A n c (Ex.secs V.r (Bg % 86400)) B0 Kr E7 ∧ Mks Ds E7 (W5.setCell ⟨W.heap.size + 1, 0, none⟩ (.int .i64 tt)) ∧ (W5.setCell ⟨W.heap.size + 1, 0, none⟩ (.int .i64 tt)).cell? ⟨bt, 0, none⟩ = some (.int .i64 tt) by
                  have hsz : (W5.setCell ⟨W.heap.size + 1, 0, none⟩ (.int .i64 tt)).heap.size = W5.heap.size := by simp [World.setCell]
                  refine ⟨(hs5.weak (fun k h => ?_)).trans (Sm.setCell _ _ _ _ hnb), e1, by rw [hsz]; exact Nat.le_trans e2 hs5.size, ?_, hle2, p1, p2, p3⟩
                  · rcases h with h | h | h
                    · exact .inl (.inr h)
                    · exact .inr h
                    · exact .inl (.inl (by rw [h]; exact hEb7))
                  · rw [HQ.out.2.1, ← List.append_assoc]
                    exact Ab.same HJ.out.1 _ _ _ _ hj5 (Sm.setCell _ _ _ _ (fun h => h (.inl hF5.ks))) hsz)
                have hcs5 := hF5.s
                have hfs5 := hF5.f
                clear hs5 hj5 hF hD hj hE' e1 e2 hle hlt hnb hF5 hD5 p1 p2 p3 hy hR
                gi_wp2
                exact HA.out
              · obtain ⟨hE', e1, e2, hj, hle, hF, hD, hlt, hnb⟩ := HHC.out
                have hD5 := hD.sm hs5 (fun k h => .inl (.inl h)) (fun _ h => h)
                have HA := Lib.hid (show Sm (fun k => E' k ∨ (Kr k ∨ k = tb)) Wb W5 ∧ Code.ret = Code.ret ∧ (∀ x, E' x → w7.heap.size ≤ x) ∧ w7.heap.size ≤ W5.heap.size ∧ Mks Ds E7 W5 ∧ (J (fun x => E7 x ∨ E' x) XS W5 ∨ ∃ q, q <+: XS ∧ Jx (fun x => E7 x ∨ E' x) q W5) by
                  refine ⟨hs5.weak (fun k h => ?_), rfl, e1, Nat.le_trans e2 hs5.size, hD5, .inr ⟨_, HQ.out.1, hx5⟩⟩
                  rcases h with h | h | h
                  · exact .inl (.inr h)
                  · exact .inr h
                  · exact .inl (.inl (by rw [h]; exact hEb7)))
                clear hs5 hx5 hF hD hj hE' e1 e2 hle hlt hnb hD5 hy hR
                gi_wp2
                exact ⟨HA.out.1, rfl, HA.out.2.2⟩
            · have hpf : (pi ++ [x]).filter (Ex.inB Bg e) = pi.filter (Ex.inB Bg e) := by
                rw [List.filter_append]
                have : [x].filter (Ex.inB Bg e) = [] := List.filter_cons_of_neg (by unfold Ex.inB; simp; omega)
                rw [this, List.append_nil]
              obtain ⟨hE', e1, e2, hj, hle, hF, hD, hlt, hnb⟩ := HHC.out
              obtain ⟨p1, p2, p3⟩ := HPut.out Wb hF hD hcb
              have HA := Lib.hid (show Sm (fun k => E' k ∨ (Kr k ∨ k = tb)) Wb (Wb.setCell ⟨W.heap.size + 1, 0, none⟩ (.int .i64 tt)) ∧ (∀ x, E' x → w7.heap.size ≤ x) ∧ w7.heap.size ≤ (Wb.setCell ⟨W.heap.size + 1, 0, none⟩ (.int .i64 tt)).heap.size ∧ J (fun x => E7 x ∨ E' x) (pre ++ (pi ++ [x]).filter (Ex.inB Bg e)) (Wb.setCell ⟨W.heap.size + 1, 0, none⟩ (.int .i64 tt)) ∧ Hid (∀ y ∈ pi ++ [x], y ≤ e) ∧ FoF (Wb.setCell ⟨W.heap.size + 1, 0, none⟩ (.int .i64 tt)) W.heap.size (W.heap.size + 1) b1 b2 bp lp V Bg e (if pi ++ [x] = [] then sv else tt) A n c (Ex.secs V.r (Bg % 86400)) B0 Kr E7 ∧ Mks Ds E7 (Wb.setCell ⟨W.heap.size + 1, 0, none⟩ (.int .i64 tt)) ∧ (Wb.setCell ⟨W.heap.size + 1, 0, none⟩ (.int .i64 tt)).cell? ⟨bt, 0, none⟩ = some (.int .i64 tt) by
                have hsz : (Wb.setCell ⟨W.heap.size + 1, 0, none⟩ (.int .i64 tt)).heap.size = Wb.heap.size := by simp [World.setCell]
                refine ⟨Sm.setCell _ _ _ _ hnb, e1, by rw [hsz]; exact e2, ?_, hle2, p1, p2, p3⟩
                rw [hpf]
                exact Ab.same HJ.out.1 _ _ _ _ hj (Sm.setCell _ _ _ _ (fun h => h (.inl hF.ks))) hsz)
              clear hF hD hj hE' e1 e2 hle hlt hnb p1 p2 p3 hpf hyy
              gi_wp2
              all_goals first
                | exact absurd ‹some undef = some (Value.bool _)› (by intro h; injection h with h; cases h)
                | (refine ⟨fun _ h => (by cases h), ?_⟩; gi_wp2; exact HA.out)
          case done =>
            rintro D E' W' rfl hED hE' ⟨e1, e2, hj, hle, hF, hD, hcb⟩ hK
            have hcp := hF.p
            have hc1 := hF.P.r.c1
            have hXX : Hid (pre ++ (Ex.tms V.r (Bg / 86400) k (Ex.secs V.r (Bg % 86400))).filter (Ex.inB Bg e) ++ Ex.rest V.r Bg e 3652062 (k + V.r.ivl) = XS) := Lib.hid (by rw [List.append_assoc, ← HR.out.1]; exact hX.out)
            have hkm2 : (k + V.r.ivl) % V.r.ivl = 0 := by rw [Int.add_emod_right]; exact hkm
            have hsv : (1 ≤ (if Ex.tms V.r (Bg / 86400) k (Ex.secs V.r (Bg % 86400)) = [] then sv else tt) ∧ (if Ex.tms V.r (Bg / 86400) k (Ex.secs V.r (Bg % 86400)) = [] then sv else tt) ≤ 3652059) ∧ Hid (Ex.SeenP V.r (Bg / 86400) (Ex.secs V.r (Bg % 86400)) (k + V.r.ivl) (if Ex.tms V.r (Bg / 86400) k (Ex.secs V.r (Bg % 86400)) = [] then sv else tt)) := by
              split
              · rename_i h0
                exact ⟨⟨sv1, sv2⟩, Lib.hid (HR.out.2.2.2.1 h0)⟩
              · exact ⟨⟨by omega, by omega⟩, Lib.hid HR.out.2.2.2.2⟩
            have HH2 := Lib.hid (show Mks (w7.heap.size :: Ds) (fun x => E7 x ∨ E' x) W' ∧ (∀ x, (E7 x ∨ E' x) → W.heap.size ≤ x ∧ x < W'.heap.size) ∧ W.heap.size ≤ W'.heap.size ∧ J (fun x => E7 x ∨ E' x) (pre ++ (Ex.tms V.r (Bg / 86400) k (Ex.secs V.r (Bg % 86400))).filter (Ex.inB Bg e)) W' ∧ FoF W' W.heap.size (W.heap.size + 1) b1 b2 bp lp V Bg e (if Ex.tms V.r (Bg / 86400) k (Ex.secs V.r (Bg % 86400)) = [] then sv else tt) A n c (Ex.secs V.r (Bg % 86400)) B0 Kr (fun x => E7 x ∨ E' x) by
              refine ⟨⟨List.pairwise_cons.2 ⟨fun D h e9 => ?_, hD.p⟩, fun D h => ?_⟩, fun x hx => ?_, by omega, hj, hF.more (fun _ h => .inl h)⟩
              · have := hE7 D (hD.d D h).1; omega
              · rcases List.mem_cons.1 h with rfl | h
                · exact ⟨.inr hED, hK⟩
                · exact ⟨.inl (hD.d D h).1, (hD.d D h).2⟩
              · rcases hx with hx | hx
                · have := hE7 x hx; omega
                · have := hE' x hx; omega)
            obtain ⟨⟨sv3, sv4⟩, hsv5⟩ := hsv
            generalize (if Ex.tms V.r (Bg / 86400) k (Ex.secs V.r (Bg % 86400)) = [] then sv else tt) = sv9 at *
            clear hF hD hj hE' e1 e2 hle hED hF7 hD7 hj7 hE7 hseq hKin hKr hbs hss hlate htd HH hcb
            go_wp2
            obtain ⟨g1, g2, g3, g4, g5⟩ := HH2.out
            refine ⟨⟨k + V.r.ivl, sv9, w7.heap.size :: Ds, (fun x => E7 x ∨ E' x), _, rfl, rfl, rfl, rfl, rfl, rfl, rfl, rfl, by omega, by omega, hkm2, sv3, sv4, g1, g2, g3, g4, hXX, hsv5, g5⟩, ?_⟩
            show (4000000 - (k + V.r.ivl)).toNat < (4000000 - k).toNat
            omega
          case stop =>
            rintro D cc E' pi W' rfl hED hE' hpre ⟨rfl, e1, e2, hD, hor⟩ hK
            have hW : W.heap.size ≤ W'.heap.size := by omega
            have hD9 : Mks (w7.heap.size :: Ds) (fun x => E7 x ∨ E' x) W' := by
              refine ⟨List.pairwise_cons.2 ⟨fun D h e9 => ?_, hD.p⟩, fun D h => ?_⟩
              · have := hE7 D (hD.d D h).1; omega
              · rcases List.mem_cons.1 h with rfl | h
                · exact ⟨.inr hED, hK⟩
                · exact ⟨.inl (hD.d D h).1, (hD.d D h).2⟩
            have hE9 : ∀ x, (E7 x ∨ E' x) → W.heap.size ≤ x ∧ x < W'.heap.size := fun x hx => by
              rcases hx with hx | hx
              · have := hE7 x hx; omega
              · have := hE' x hx; omega
            have HS := Lib.hid (And.intro hD9 (And.intro hE9 hor))
            clear hD9 hE9 hor hD e1 e2 hpre hED hE' hF7 hD7 hj7 hE7 hseq hKin hKr hbs hss hlate htd HH
            refine wpIn_wide.2 ?_
            go_wp2
            show LeavesInM Fence.wide 4 Tryz.prog Tryz.f93 _ _ ((w7.heap.size :: Ds).map mk) .returning W'
            refine leave_all (E := fun x => E7 x ∨ E' x) (results_none rfl _ _) (w7.heap.size :: Ds) W' HS.out.1.p HS.out.1.d (fun W9 hs hz => ⟨⟨_, rfl⟩, (fun x => E7 x ∨ E' x), fun x hx => by rw [hz]; exact HS.out.2.1 x hx, ?_⟩)
            rcases HS.out.2.2 with h | ⟨q, hq, h⟩
            · exact .inl (Ab.same HJ.out.1 _ _ _ _ h hs hz)
            · exact .inr ⟨q, hq, Ab.same HJ.out.2 _ _ _ _ h hs hz⟩
      · have he2 : fr = 0 ∧ er = 2 := by omega
        obtain ⟨rfl, rfl⟩ := he2
        have cA := fun w' => cat_no 0 0 w' (.inl rfl)
        have hr0 : Hid (Ex.rest V.r Bg e 3652062 k = []) := Lib.hid (by rw [Ex.restU (r := V.r) (B := Bg) (e := e) hdb f3 i1 hk0, if_pos (HST.out (by decide))])
        clear HOK HST hspc her
        go_upto_region 6 with (go_at_call 44; refine (cA _).mono ?_; rintro e2 w3 ⟨rfl, rfl⟩)
        go_quiet (fail)
        go_wp2
        exact HFin.out _ _ ((Gr.refl _).drewN nq) hr0
end Go.Proofs.YtmbmkldcedkbmaaGreat
