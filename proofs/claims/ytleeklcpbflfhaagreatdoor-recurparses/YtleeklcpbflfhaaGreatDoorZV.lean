/- The texts RcRlI, RcRdN, RcNth, RcRlD, RcPs, one behind the other. -/
import Derived.Test.YtleeklcpbflfhaaGreatDoorZS
import Derived.Test.YtleeklcpbflfhaaGreatDoorZQ
import Derived.Test.YtleeklcpbflfhaaGreatDoorZN
import Derived.Test.YtleeklcpbflfhaaGreatDoorZU
import Derived.Test.YtleeklcpbflfhaaGreatDoorZF
import Derived.Test.YtleeklcpbflfhaaGreatDoorZE
import Derived.Test.YtleeklcpbflfhaaGreatDoorZO
import Derived.Test.YtleeklcpbflfhaaGreatDoorZA
import Derived.Test.YtleeklcpbflfhaaGreatDoorZR
import Derived.Test.YtleeklcpbflfhaaGreatDoorZRcParse
import Derived.Test.YtleeklcpbflfhaaGreatDoorZK
namespace Go.Proofs.YtleeklcpbflfhaaGreatDoor
open Go.RowKit Go.Shelf
attribute [local go_sem] Oper.semAt_some

theorem own_block {w : World} {B : Nat} {e : TypeId} {A : Option Addr} {n c : Nat} {xs : List Value} (h : OwnV w B e A n c xs) : ∀ ad, A = some ad → B ≤ ad.block ∧ ad.block < w.heap.size := by
  intro ad e
  subst e
  rcases h.2 with ⟨hn, rfl⟩ | ⟨g, cap, cur, hv, hb, hh, _⟩
  · cases hn
  · injection hv with h1
    cases h1
    exact ⟨hb, (Array.getElem?_eq_some_iff.1 hh).1⟩
theorem OwnV.sm {w w' : World} {B : Nat} {e : TypeId} {A : Option Addr} {n c : Nat} {xs : List Value} {K : Nat → Prop} (h : OwnV w B e A n c xs) (hs : Sm K w w') (hK : ∀ k, B ≤ k → K k) : OwnV w' B e A n c xs := by
  refine ⟨h.1, ?_⟩
  rcases h.2 with hn | ⟨g, cap, cur, hv, hb, hh, rest⟩
  · exact .inl hn
  · exact .inr ⟨g, cap, cur, hv, hb, hs.obj (hK g hb) hh, rest⟩
theorem own_nums {w : World} {B : Nat} {A : Option Addr} {n c : Nat} {xs : List Int} (h : OwnV w B 3 A n c (iv xs)) : Nums w w.heap.size A n xs ∧ (0 < n → ∀ ad, A = some ad → B ≤ ad.block) := by
  have hl : xs.length = n := by have := h.len; simpa [iv] using this
  refine ⟨⟨hl, fun hn => ?_⟩, fun _ ad e => (own_block h ad e).1⟩
  obtain ⟨g, rfl, _, hlt, hc⟩ := h.cells hn
  exact ⟨_, rfl, hlt, fun j u hu => hc j _ (by unfold iv; rw [List.getElem?_map, hu]; rfl)⟩
/- the five boxes of readList, the list's own apart -/
structure LB (r : Nat) (f g : Value) (w W : World) : Prop where
  c0 : W.cell? ⟨r, 0, none⟩ = some f
  c1 : W.cell? ⟨r + 1, 0, none⟩ = some g
  c2 : W.cell? ⟨r + 1 + 1, 0, none⟩ = some (.slice none 0 0)
  c3 : W.cell? ⟨r + 1 + 1 + 1, 0, none⟩ = some (.bool false)
  f2 : W.frozen? ⟨r + 1 + 1, 0, none⟩ = false
  f3 : W.frozen? ⟨r + 1 + 1 + 1, 0, none⟩ = false
  f4 : W.frozen? ⟨r + 1 + 1 + 1 + 1, 0, none⟩ = false
  lt : r + 1 + 1 + 1 + 1 < W.heap.size
  b : Below r w W
theorem LB.sm {r : Nat} {f g : Value} {w W W' : World} {K : Nat → Prop} (h : LB r f g w W) (hs : Sm K W W') (hK : ∀ k, k ≤ r + 4 → K k) : LB r f g w W' := by
  have hl := h.lt
  refine ⟨hs.cell (hK _ (by dsimp only; omega)) h.c0, hs.cell (hK _ (by dsimp only; omega)) h.c1, hs.cell (hK _ (by dsimp only; omega)) h.c2, hs.cell (hK _ (by dsimp only; omega)) h.c3,
    (hs.frozen (by dsimp only; omega) (hK _ (by dsimp only; omega))).trans h.f2, (hs.frozen (by dsimp only; omega) (hK _ (by dsimp only; omega))).trans h.f3, (hs.frozen (by dsimp only; omega) (hK _ (by dsimp only; omega))).trans h.f4,
    Nat.lt_of_lt_of_le hl hs.size, h.b.trans (hs.below (fun k hk => hK k (by omega)) (by omega))⟩
theorem LB.put {r : Nat} {f g : Value} {w W : World} (h : LB r f g w W) (v : Value) : LB r f g w (W.setCell ⟨r + 1 + 1 + 1 + 1, 0, none⟩ v) := by
  have hl := h.lt
  refine ⟨?_, ?_, ?_, ?_, ?_, ?_, ?_, by simpa [World.setCell] using hl, h.b.setCell (p := ⟨r + 1 + 1 + 1 + 1, 0, none⟩) (by dsimp only; omega) v⟩
  · rw [World.cell?_setCell_other (h := by simp)]; exact h.c0
  · rw [World.cell?_setCell_other (h := by simp)]; exact h.c1
  · rw [World.cell?_setCell_other (h := by simp)]; exact h.c2
  · rw [World.cell?_setCell_other (h := by simp)]; exact h.c3
  · rw [World.frozen?_setCell]; exact h.f2
  · rw [World.frozen?_setCell]; exact h.f3
  · rw [World.frozen?_setCell]; exact h.f4
theorem LB.ret {r : Nat} {f g : Value} {w W : World} (h : LB r f g w W) : LB r f g w ((W.setCell ⟨r + 1 + 1, 0, none⟩ (.slice none 0 0)).setCell ⟨r + 1 + 1 + 1, 0, none⟩ (.bool false)) := by
  have hl := h.lt
  refine ⟨?_, ?_, ?_, ?_, ?_, ?_, ?_, by simpa [World.setCell] using hl, (h.b.setCell (p := ⟨r + 1 + 1, 0, none⟩) (by dsimp only; omega) _).setCell (p := ⟨r + 1 + 1 + 1, 0, none⟩) (by dsimp only; omega) _⟩
  · rw [World.cell?_setCell_other (h := by simp), World.cell?_setCell_other (h := by simp)]; exact h.c0
  · rw [World.cell?_setCell_other (h := by simp), World.cell?_setCell_other (h := by simp)]; exact h.c1
  · rw [World.cell?_setCell_other (h := by simp)]; exact World.cell?_setCell_same _ _ _ h.c2
  · refine World.cell?_setCell_same _ _ _ (u := .bool false) ?_
    rw [World.cell?_setCell_other (h := by simp)]; exact h.c3
  · rw [World.frozen?_setCell, World.frozen?_setCell]; exact h.f2
  · rw [World.frozen?_setCell, World.frozen?_setCell]; exact h.f3
  · rw [World.frozen?_setCell, World.frozen?_setCell]; exact h.f4
/- five boxes, just made -/
theorem boxes5 (w : World) (f g l : Value) (ta tb tc td te : TypeId) :
    ∀ W, W = ((((w.alloc (.cells #[f] ta)).alloc (.cells #[g] tb)).alloc (.cells #[.slice none 0 0] tc)).alloc (.cells #[.bool false] td)).alloc (.cells #[l] te) →
      W.heap.size = w.heap.size + 5 ∧ LB w.heap.size f g w W ∧ W.cell? ⟨w.heap.size + 1 + 1 + 1 + 1, 0, none⟩ = some l := by
  rintro W rfl
  obtain ⟨z1, g1, y1, y2, y3, u1, u2, u3⟩ := boxes3 w f g (.slice none 0 0) ta tb tc _ rfl
  generalize ((w.alloc (.cells #[f] ta)).alloc (.cells #[g] tb)).alloc (.cells #[.slice none 0 0] tc) = W1 at *
  have e2 : (W1.alloc (.cells #[.bool false] td)).heap.size = w.heap.size + 1 + 1 + 1 + 1 := by simp [z1]
  have cn : ∀ (w : World) (c : Value) (t : TypeId), (w.alloc (.cells #[c] t)).cell? ⟨w.heap.size, 0, none⟩ = some c := fun w c t => by simp
  have n1 : (W1.alloc (.cells #[.bool false] td)).cell? ⟨w.heap.size + 1 + 1 + 1, 0, none⟩ = some (.bool false) := by
    have := cn W1 (.bool false) td
    rw [z1] at this
    exact this
  have n2 : ((W1.alloc (.cells #[.bool false] td)).alloc (.cells #[l] te)).cell? ⟨w.heap.size + 1 + 1 + 1 + 1, 0, none⟩ = some l := by
    have := cn (W1.alloc (.cells #[.bool false] td)) l te
    rw [e2] at this
    exact this
  have g2 : Gr W1 (W1.alloc (.cells #[.bool false] td)) := (Gr.refl _).allocO _
  have g3 : Gr (W1.alloc (.cells #[.bool false] td)) ((W1.alloc (.cells #[.bool false] td)).alloc (.cells #[l] te)) := (Gr.refl _).allocO _
  have m1 : (W1.alloc (.cells #[.bool false] td)).frozen? ⟨w.heap.size + 1 + 1 + 1, 0, none⟩ = false := by
    have : (W1.alloc (.cells #[.bool false] td)).frozen? ⟨W1.heap.size, 0, none⟩ = false := box_free (Gr.refl _) 0
    rw [z1] at this
    exact this
  have m2 : ((W1.alloc (.cells #[.bool false] td)).alloc (.cells #[l] te)).frozen? ⟨w.heap.size + 1 + 1 + 1 + 1, 0, none⟩ = false := by
    have : ((W1.alloc (.cells #[.bool false] td)).alloc (.cells #[l] te)).frozen? ⟨(W1.alloc (.cells #[.bool false] td)).heap.size, 0, none⟩ = false := box_free (Gr.refl _) 0
    rw [e2] at this
    exact this
  have gg := g2.trans g3
  refine ⟨by simp [z1], ⟨gg.keeps (by omega) y1, gg.keeps (by omega) y2, gg.keeps (by omega) y3, g3.keeps (by omega) n1, ?_, ?_, m2, by simp [z1], (g1.trans gg).below⟩, n2⟩
  · rw [gg.frozen (by dsimp only; omega)]; exact u3
  · rw [g3.frozen (by dsimp only; omega)]; exact m1
set_option maxRecDepth 100000 in
set_option maxHeartbeats 8000000 in
theorem rlI_any (nm : ByteArray) (p : Value) (lo hi : Int) (s : ByteArray) (w : World) (hp : ∃ a, p = .pointer a) (hs : s.size ≤ 100000) :
    Calls Tryz.prog 105 #[.string s, .func (.func 106) #[.agg #[.string nm, p, .int .i64 lo, .int .i64 hi]] #[], .func (.func 62) #[] #[]] w fun e w' =>
      ∃ A n c q, e = .returned (.tuple #[.slice A n c, .bool q]) ∧ Gr w w' ∧ Hid (NewI w w' (Rm.lr (alw lo hi) s.data.toList) A n q) := by
  have cS := fun w => splitSeq_any s 44 w
  have cN := fun x w => lnumber_any nm p lo hi x w hp
  obtain ⟨pa, rfl⟩ := hp
  refine (callsIn_wide (n := 3)).1 ?_
  refine callsIn_of_wp_marks Tryz.func105 rfl trivial ?_ rfl
  refine wpIn_wide.2 ?_
  simp only [Tryz.ntmps105, List.size_toArray, List.length_cons, List.length_nil, Nat.reduceAdd, Nat.reduceSub, Array.replicate_succ, Array.replicate_zero, List.push_toArray, List.append_toArray, List.nil_append, List.cons_append]
  generalize hF : Value.func (.func 106) #[.agg #[.string nm, .pointer pa, .int .i64 lo, .int .i64 hi]] #[] = F
  generalize hG : Value.func (.func 62) #[] #[] = G
  go_wp2_with fail
  refine (cS _).mono ?_
  rintro e W0 ⟨rfl, hg0, hz0, k0, k1, k2, k3⟩
  go_wp2
  obtain ⟨z1, hLB, x4⟩ := boxes5 w F G (.slice none 0 0) 104 94 24 4 24 _ rfl
  have hz : W0.heap.size = w.heap.size + 1 + 1 + 1 + 1 + 1 + 3 := by rw [hz0, z1]
  have hLB0 := hLB.sm (hg0.sm (fun _ => True)) (fun _ _ => trivial)
  have x4 := hg0.keeps (by omega) x4
  rw [z1] at k0 k1 k2 k3
  have hseq := split_seq s 44 (w.heap.size + 5) (w.heap.size + 5 + 1) (w.heap.size + 5 + 2) W0 (by omega) k0 k3 k1 k2 (by omega) (by omega)
  clear k0 k1 k2 k3 z1 hz0 hg0 cS hLB
  have hcnt := Rm.cutB_count 44 s.data.toList
  rw [← Lib.size_eq] at hcnt
  generalize hFold : alw lo hi = ok at *
  refine (wpIn_wide (n := 3)).1 ?_
  refine rangeB (n := 3) rfl (enters_of Tryz.func127 (by kernel_rfl) rfl) (fun _ => rfl) (Kb := fun k => k < W0.heap.size + 2 ∧ k ≠ w.heap.size + 1 + 1 ∧ k ≠ w.heap.size + 1 + 1 + 1 ∧ k ≠ w.heap.size + 1 + 1 + 1 + 1) hseq
    (by omega) (by omega) (by omega) (by omega) (by omega)
    (fun pre W => ∃ A n c xs, W.cell? ⟨w.heap.size + 1 + 1 + 1 + 1, 0, none⟩ = some (.slice A n c) ∧ OwnV W (W0.heap.size + 2) 3 A n c (iv xs) ∧ Hid (Rm.lrF ok pre = some xs) ∧ Hid (xs.Pairwise (fun x y => x < y)) ∧ Hid (n ≤ pre.length) ∧ LB w.heap.size F G w W)
    (fun c pre W => c = .ret ∧ Hid (Rm.lrF ok pre = none) ∧ LB w.heap.size F G w W)
    ?hI ?hIx ⟨none, 0, 0, [], x4, OwnV.nil _ _ _, Lib.hid rfl, Lib.hid List.Pairwise.nil, Lib.hid (Nat.le_refl _), hLB0⟩
    (fun x => { tmps := #[.string s, F, G, undef, .pointer (some ⟨w.heap.size, 0, none⟩), .pointer (some ⟨w.heap.size + 1, 0, none⟩), .pointer (some ⟨w.heap.size + 1 + 1, 0, none⟩), .pointer (some ⟨w.heap.size + 1 + 1 + 1, 0, none⟩), .pointer (some ⟨w.heap.size + 1 + 1 + 1 + 1, 0, none⟩), .string ⟨x.toArray⟩, undef, undef, undef, undef, .string s,
      .func (.func 127) #[] #[.pointer (some ⟨w.heap.size + 1 + 1 + 1 + 1 + 1 + 1, 0, none⟩), .pointer (some ⟨w.heap.size + 1 + 1 + 1 + 1 + 1, 0, none⟩), .pointer (some ⟨w.heap.size + 1 + 1 + 1 + 1 + 1 + 2, 0, none⟩)],
      .string ⟨x.toArray⟩, undef, undef, undef, undef, undef, undef, undef, undef, undef, undef, undef, undef, undef, undef, undef, undef, undef, undef, undef, undef, undef, undef, undef], defers := [] }) ?assign ?body ?done ?stop
  case hI =>
    rintro pre W W' ⟨A, n, c, xs, c4, ho, hf, hx, hn, hb⟩ hs
    have hl := hb.lt
    exact ⟨A, n, c, xs, hs.cell (by dsimp only; omega) c4, ho.sm hs (fun k hk => by omega), hf, hx, hn, hb.sm hs (fun k hk => by omega)⟩
  case hIx =>
    rintro c pre W W' ⟨rfl, hf, hb⟩ hs
    exact ⟨rfl, hf, hb.sm hs (fun k hk => by omega)⟩
  case assign =>
    intro l x W K hK
    gi_wp2
    exact hK
  case body =>
    rintro l pre x W hzW ⟨A, n, c, xs, c4, ho, hf, hx, hn, hb⟩ hpre
    have hpl : pre.length ≤ s.size + 1 := by
      obtain ⟨r, hr⟩ := hpre
      rw [← hr] at hcnt
      simp at hcnt; omega
    have cN := fun w => cN ⟨x.toArray⟩ w
    rw [show (ByteArray.mk x.toArray).data.toList = x from rfl] at cN
    have HPL := Lib.hid hpl
    have c0 := hb.c0
    have c1 := hb.c1
    clear hpl hcnt hpre hseq x4
    generalize (ByteArray.mk x.toArray) = X at *
    rw [← hF, ← hG] at hb
    have HB := Lib.hid hb
    clear hb
    rw [← hF] at c0 ⊢
    rw [← hG] at c1 ⊢
    clear hF hG
    gi_wp2_with fail
    refine ⟨trivial, ?_⟩
    gi_at_call 106
    refine (CallsIn.inRound l (callsIn_wide.2 (cN _))).mono ?_
    rintro e w1 ⟨v, q, rfl, hg1, hq⟩
    have HB1 := Lib.hid (HB.out.sm (hg1.sm (fun _ => True)) (fun _ _ => trivial))
    have ho1 := ho.gr hg1
    have d4 := gr_cell hg1 c4
    have d1 := gr_cell hg1 c1
    have hl := HB.out.lt
    have hl1 := hg1.lt
    clear cN
    rcases hq with ⟨rfl, h1, h2, h3, h4⟩ | ⟨rfl, h1⟩
    · have HR := Lib.hid (Rm.lrF_yes hf.out h1 h2)
      obtain ⟨hN, hNb⟩ := own_nums ho1
      have hxl : xs.length = n := hN.1
      have hn6 : n ≤ 1000000 := by have := hn.out; have := HPL.out; omega
      have cB := Lib.hid (bsI_any A n c xs v w1 hN hn6 (Rm.ins_sr_iff.1 hx.out))
      clear h1 h2 h3 h4 hN hNb
      gi_wp2_with fail
      refine ⟨trivial, ?_⟩
      gi_at_call 142
      refine (CallsIn.inRound l (callsIn_wide.2 cB.out)).mono ?_
      rintro e w2 ⟨P, q, rfl, rfl, hP, hb1, hb2, hb3⟩
      have hI := Rm.ins_at xs P v hx.out (by rw [hxl]; exact hP) hb1 hb2
      have HK := Lib.hid (Rm.ins_keep xs P v hx.out (by rw [hxl]; exact hP) hb1 hb2)
      clear cB hb1 hb2
      rcases q
      · have HE := Lib.hid (hI.2 (fun h => by have := hb3.2 h; cases this))
        have HR2 := Lib.hid (show Rm.lrF ok (pre ++ [x]) = some (xs.take P ++ v :: xs.drop P) by rw [HR.out, HE.out])
        have HK2 := Lib.hid (show (xs.take P ++ v :: xs.drop P).Pairwise (fun x y => x < y) by rw [← HE.out]; exact HK.out)
        clear hI hb3
        have hBl : W0.heap.size + 2 ≤ w1.heap.size := Nat.le_trans hzW hl1
        have cI := insI_any (W0.heap.size + 2) A n c w1.heap.size P xs v (w1.alloc (.cells #[.int .i64 v] 3)) (by have : (w1.alloc (.cells #[.int .i64 v] 3)).heap.size = w1.heap.size + 1 := by simp
                                                                                                                  omega) (ho1.gr ((Gr.refl w1).allocO _)) (heap_alloc_new w1 _) (fun ad e => by have := own_block ho1 ad e; omega) hP hn6
        have hsa : Sm (fun k => k < w1.heap.size) w1 (w1.alloc (.cells #[.int .i64 v] 3)) := sm_alloc _ w1 _
        gi_wp2_with fail
        refine ⟨trivial, ?_⟩
        gi_at_call 143
        refine (CallsIn.inRound l (callsIn_wide.2 cI)).mono ?_
        rintro e w3 ⟨A', c', rfl, ho3, hs3, hn3⟩
        have hOth : ∀ k, k < W0.heap.size + 2 → Oth A k := fun k hk ad e => by have := own_block ho1 ad e; omega
        have hs4 : Sm (fun k => k < W0.heap.size + 2) w1 w3 := (hsa.weak (fun k hk => by omega)).trans (hs3.weak hOth)
        have HB3 := Lib.hid (HB1.out.sm hs4 (fun k hk => by omega))
        have e4 := hs4.cell (by dsimp only; omega) d4
        have f4 := HB3.out.f4
        clear cI
        gi_wp2
        refine ⟨(hg1.sm _).trans ((hs4.weak (fun k hk => hk.1)).trans (Sm.setCell _ _ _ _ (fun h => h.2.2.2 rfl))), A', _, c', _, World.cell?_setCell_same _ _ _ e4, ho3.sm (Sm.setCell (fun k => W0.heap.size + 2 ≤ k) _ _ _ (by dsimp only; omega)) (fun k hk => hk), HR2, HK2, Lib.hid (by have := hn.out; simp; omega), ?_⟩
        exact HB3.out.put _
      · have HE := Lib.hid (hI.1 (hb3.1 rfl))
        clear hI hb3
        gi_wp2
        rw [HE.out] at HR
        exact ⟨hg1.sm _, A, n, c, xs, d4, ho1, HR, hx, Lib.hid (by have := hn.out; simp; omega), HB1.out⟩
    · have HR := Lib.hid (Rm.lrF_no (ok := ok) (pre := pre) (x := x) h1)
      have HBr := Lib.hid HB1.out.ret
      have d2 := HB1.out.c2
      have d3 := HB1.out.c3
      have f2 := HB1.out.f2
      have f3 := HB1.out.f3
      clear h1
      gi_wp2
      exact ⟨(hg1.sm _).trans ((Sm.setCell _ _ _ _ (fun h => h.2.1 rfl)).trans (Sm.setCell _ _ _ _ (fun h => h.2.2.1 rfl))), rfl, HR, HBr.out⟩
  case done =>
    rintro D W hD ⟨A, n, c, xs, c4, ho, hf, hx, hn, hb⟩ hK
    have c2 := hb.c2
    have c3 := hb.c3
    have f2 := hb.f2
    have f3 := hb.f3
    have hDW := (Array.getElem?_eq_some_iff.1 hK).1
    have hl := hb.lt
    have HD := Lib.hid hD
    have HB := Lib.hid hb
    clear hD hb hseq x4
    go_wp2
    have hD := HD.out
    have hK3 : ((W.setCell ⟨w.heap.size + 1 + 1, 0, none⟩ (.slice A n c)).setCell ⟨w.heap.size + 1 + 1 + 1, 0, none⟩ (.bool true)).heap[D]? = some (.deferred (some [])) := by
      rw [Below.heap_setCell _ _ _ _ (by dsimp only; omega), Below.heap_setCell _ _ _ _ (by dsimp only; omega)]; exact hK
    have hb3 := (HB.out.b.setCell (p := ⟨w.heap.size + 1 + 1, 0, none⟩) (by dsimp only; omega) (.slice A n c)).setCell (p := ⟨w.heap.size + 1 + 1 + 1, 0, none⟩) (by dsimp only; omega) (.bool true)
    have ho3 := (ho.sm (Sm.setCell (fun k => W0.heap.size + 2 ≤ k) W ⟨w.heap.size + 1 + 1, 0, none⟩ (.slice A n c) (by dsimp only; omega)) (fun k hk => hk)).sm (Sm.setCell (fun k => W0.heap.size + 2 ≤ k) _ ⟨w.heap.size + 1 + 1 + 1, 0, none⟩ (.bool true) (by dsimp only; omega)) (fun k hk => hk)
    refine leave_mark rfl hK3 (results_cells2 rfl _ _ rfl rfl (load_var1 (Tryz.isAgg24 _) (putObj_cell hK3 (end2 c2))) (load_var1 (Tryz.isAgg4 _) (putObj_cell hK3 (end3 c3)))) ?_
    have ho4 := ho3.sm (Sm.putObj (fun k => W0.heap.size + 2 ≤ k) _ (l := D) (.deferred none) (by omega)) (fun k hk => hk)
    obtain ⟨hN, hNb⟩ := own_nums ho4
    refine ⟨A, n, c, true, rfl, ⟨hb3.trans ((Sm.putObj (fun k => k < w.heap.size) _ _ (by omega)).below (fun k hk => hk) hb3.size)⟩, Lib.hid (Or.inl ⟨rfl, xs, ?_, hN, fun h ad e => by have := hNb h ad e; omega⟩)⟩
    rw [hFold, ← Rm.lrF_all]
    exact hf.out
  case stop =>
    rintro D c pre W hD hpre ⟨rfl, hf, hb⟩ hK
    have c2 := hb.c2
    have c3 := hb.c3
    refine wpIn_wide.2 ?_
    go_wp2
    refine leave_mark rfl hK (results_cells2 rfl _ _ rfl rfl (load_var1 (Tryz.isAgg24 _) (putObj_cell hK c2)) (load_var1 (Tryz.isAgg4 _) (putObj_cell hK c3))) ?_
    have hlt := hb.b.size
    have hDW := (Array.getElem?_eq_some_iff.1 hK).1
    refine ⟨none, 0, 0, false, rfl, ⟨hb.b.trans ((Sm.putObj (fun k => k < w.heap.size) W _ (by omega)).below (fun k hk => hk) hlt)⟩, Lib.hid (Or.inr ⟨rfl, ?_⟩)⟩
    rw [hFold]
    exact Rm.lrF_none hpre hf.out
end Go.Proofs.YtleeklcpbflfhaaGreatDoor
namespace Go.Proofs.YtleeklcpbflfhaaGreatDoor
open Go.RowKit

namespace Rm
theorem nmL_eq {i k : Nat} (hi : i < 8) (hk : k < 8) (h : nmL k = nmL i) : k = i := by
  rcases (show i = 0 ∨ i = 1 ∨ i = 2 ∨ i = 3 ∨ i = 4 ∨ i = 5 ∨ i = 6 ∨ i = 7 by omega) with rfl | rfl | rfl | rfl | rfl | rfl | rfl | rfl <;>
    rcases (show k = 0 ∨ k = 1 ∨ k = 2 ∨ k = 3 ∨ k = 4 ∨ k = 5 ∨ k = 6 ∨ k = 7 by omega) with rfl | rfl | rfl | rfl | rfl | rfl | rfl | rfl <;> first | rfl | (exact absurd h (by decide))
end Rm
/- what readNumbers has done with the box of the rule -/
def RnP (B b : Nat) (V : Rm.Rv) (p : List UInt8 × List UInt8) (q : Bool) (w' : World) : Prop :=
  (q = true ∧ ∃ V', Rm.runP (some V.r) p = some V'.r ∧ RdM w' B b V') ∨ (q = false ∧ Rm.runP (some V.r) p = none)
theorem RnP.gr {B b : Nat} {V : Rm.Rv} {p : List UInt8 × List UInt8} {q : Bool} {w w' : World} (h : RnP B b V p q w) (hg : Gr w w') : RnP B b V p q w' := by
  rcases h with ⟨h1, V', h2, h3⟩ | h
  · exact Or.inl ⟨h1, V', h2, h3.gr hg⟩
  · exact Or.inr h
set_option maxRecDepth 100000 in
set_option maxHeartbeats 8000000 in
theorem rdns_any {i : Nat} (hi : i < 8) (tx : List UInt8) (hx : tx.length ≤ 100000) : RdNs (Rm.nmL i, tx) := by
  intro w B b V hT hB hM
  have hbl : b < w.heap.size := World.block_lt_of_cell? _ _ hM.box.c0
  have hg0 : Gr w (w.alloc (.cells #[.string ⟨(Rm.nmL i).toArray⟩, .string ⟨tx.toArray⟩] 65)) := (Gr.refl w).allocO _
  have d0 : (w.alloc (.cells #[.string ⟨(Rm.nmL i).toArray⟩, .string ⟨tx.toArray⟩] 65)).cell? ⟨w.heap.size, 0, none⟩ = some (.string ⟨(Rm.nmL i).toArray⟩) := by simp
  have d1 : (w.alloc (.cells #[.string ⟨(Rm.nmL i).toArray⟩, .string ⟨tx.toArray⟩] 65)).cell? ⟨w.heap.size, 1, none⟩ = some (.string ⟨tx.toArray⟩) := by simp
  have cL := fun w' => numberLists_any b w'
  have HM := Lib.hid hM
  have HB := Lib.hid hB
  show Calls Tryz.prog 76 #[.pointer (some ⟨b, 0, none⟩), .agg #[.string ⟨(Rm.nmL i).toArray⟩, .string ⟨tx.toArray⟩]] w fun e w' => ∃ q, e = .returned (.bool q) ∧ Sm (fun k => k ≠ b) w w' ∧ Hid (RnP B b V (Rm.nmL i, tx) q w')
  obtain ⟨N0, hN0⟩ : ∃ N0, ByteArray.mk (Rm.nmL i).toArray = N0 := ⟨_, rfl⟩
  obtain ⟨T0, hT0⟩ : ∃ T0, ByteArray.mk tx.toArray = T0 := ⟨_, rfl⟩
  rw [hN0, hT0] at hg0 d0 d1 ⊢
  have HN0 := Lib.hid hN0
  have HT0 := Lib.hid hT0
  clear hM hB hT hN0 hT0
  go_enter Tryz.func76, Tryz.ntmps76
  go_wp2_with fail
  refine (cL _).mono ?_
  rintro e w1 ⟨rfl, hg1⟩
  have hgw := hg0.trans hg1
  have d0 := gr_cell hg1 d0
  have d1 := gr_cell hg1 d1
  clear hg0 hg1 cL
  go_wp2
  go_loopg [5, 10] 8 (fun g v5 v wx => ∃ k : Nat, v = .int .i64 (k : Int) ∧ k + g = 8 ∧ wx.cell? ⟨w.heap.size, 0, none⟩ = some (.string N0) ∧ wx.cell? ⟨w.heap.size, 1, none⟩ = some (.string T0) ∧
    ((k ≤ i ∧ v5 = .bool false ∧ Gr w wx) ∨ (i < k ∧ ∃ q, v5 = .bool q ∧ Sm (fun k => k ≠ b) w wx ∧ Hid (RnP B b V (Rm.nmL i, tx) q wx))))
  case atStart => exact ⟨0, rfl, rfl, d0, d1, Or.inl ⟨Nat.zero_le _, rfl, hgw⟩⟩
  case round =>
    clear d0 d1
    obtain ⟨k, rfl, hkg, d0, d1, hor⟩ := hrel
    have HG := Lib.hid hkg
    clear hkg hgw
    by_cases hk : k < 8
    · have hix := nl_ix wr b k hk
      have hkn : (k : Int) < 8 := by omega
      have hga : Gr wr (wr.alloc (.cells #[.string ⟨(Rm.nmL k).toArray⟩, .pointer (some ⟨b, Rm.off k, none⟩), .int .i64 (Rm.lo k), .int .i64 (Rm.hi k)] 53)) := (Gr.refl wr).allocO _
      have a0 := gr_cell hga d0
      have a1 := gr_cell hga d1
      by_cases hki : k = i
      · subst hki
        rcases hor with ⟨_, rfl, hg⟩ | ⟨h, _⟩
        · rw [HN0.out] at hix hga a0 a1
          have cR := fun w' => rlI_any N0 (.pointer (some ⟨b, Rm.off k, none⟩)) (Rm.lo k) (Rm.hi k) T0 w' ⟨_, rfl⟩ (by rw [← HT0.out, size_mk]; exact hx)
          have hT : T0.data.toList = tx := by rw [← HT0.out]
          rw [hT, show alw (Rm.lo k) (Rm.hi k) = Rm.may k from funext (Rm.may_alw k hi)] at cR
          have HR := Lib.hid (Rm.run_list V.r hi tx)
          have HSet := Lib.hid (fun (W : World) (A : Option Addr) (n c : Nat) (xs : List Int) (h : RdM W B b V) (hN : Nums W W.heap.size A n xs) (ho : 0 < n → ∀ ad, A = some ad → ad.block ≠ b ∧ B ≤ ad.block) => h.set_ls hi A n c xs hN ho)
          have HSr := Lib.hid (fun (s : Rm.Sl) (xs : List Int) => Rm.setL_r V hi s xs)
          have hMa := (HM.out.gr hg).gr hga
          have hat := Lib.hid (fun (W : World) (h : RdM W B b V) => h.box.at_ hi)
          have x0 : (wr.alloc (.cells #[.string N0, .pointer (some ⟨b, Rm.off k, none⟩), .int .i64 (Rm.lo k), .int .i64 (Rm.hi k)] 53)).cell? ⟨wr.heap.size, 0, none⟩ = some (.string N0) := by simp
          have x1 : (wr.alloc (.cells #[.string N0, .pointer (some ⟨b, Rm.off k, none⟩), .int .i64 (Rm.lo k), .int .i64 (Rm.hi k)] 53)).cell? ⟨wr.heap.size, 1, none⟩ = some (.pointer (some ⟨b, Rm.off k, none⟩)) := by simp
          have x2 : (wr.alloc (.cells #[.string N0, .pointer (some ⟨b, Rm.off k, none⟩), .int .i64 (Rm.lo k), .int .i64 (Rm.hi k)] 53)).cell? ⟨wr.heap.size, 2, none⟩ = some (.int .i64 (Rm.lo k)) := by simp
          have x3 : (wr.alloc (.cells #[.string N0, .pointer (some ⟨b, Rm.off k, none⟩), .int .i64 (Rm.lo k), .int .i64 (Rm.hi k)] 53)).cell? ⟨wr.heap.size, 3, none⟩ = some (.int .i64 (Rm.hi k)) := by simp
          have hb7 : wr.heap.size ≠ b := by have := hg.lt; omega
          have hbr : w.heap.size ≠ b := by omega
          have hsz := hg.lt
          clear hT
          generalize Rm.lo k = lo at *
          generalize Rm.hi k = hi2 at *
          generalize Rm.off k = oi at *
          go_wp2_with fail
          have hgw2 := hg.trans hga
          generalize wr.alloc (.cells #[.string N0, .pointer (some ⟨b, oi, none⟩), .int .i64 lo, .int .i64 hi2] 53) = W0 at *
          generalize wr.heap.size = h7 at *
          have hS : (fun w' : World => w'.cell? ⟨h7, 0, none⟩ = some (.string N0) ∧ w'.cell? ⟨h7, 1, none⟩ = some (.pointer (some ⟨b, oi, none⟩)) ∧ w'.cell? ⟨h7, 2, none⟩ = some (.int .i64 lo) ∧ w'.cell? ⟨h7, 3, none⟩ = some (.int .i64 hi2) ∧ w'.cell? ⟨w.heap.size, 0, none⟩ = some (.string N0) ∧ w'.cell? ⟨w.heap.size, 1, none⟩ = some (.string T0)) W0.drew := ⟨x0, x1, x2, x3, a0, a1⟩
          refine wp_region_last 12 13 (fun w' : World => w'.cell? ⟨h7, 0, none⟩ = some (.string N0) ∧ w'.cell? ⟨h7, 1, none⟩ = some (.pointer (some ⟨b, oi, none⟩)) ∧ w'.cell? ⟨h7, 2, none⟩ = some (.int .i64 lo) ∧ w'.cell? ⟨h7, 3, none⟩ = some (.int .i64 hi2) ∧ w'.cell? ⟨w.heap.size, 0, none⟩ = some (.string N0) ∧ w'.cell? ⟨w.heap.size, 1, none⟩ = some (.string T0)) (by kernel_rfl) rfl ?_
          have hM0 : RdM W0.drew B b V := hMa.gr (Gr.refl W0).drew
          have hgw3 : Gr w W0.drew := hgw2.drew
          have hgd : Gr W0 W0.drew := (Gr.refl W0).drew
          have x0 := gr_cell hgd x0
          have x1 := gr_cell hgd x1
          have x2 := gr_cell hgd x2
          have x3 := gr_cell hgd x3
          have a0 := gr_cell hgd a0
          have a1 := gr_cell hgd a1
          generalize W0.drew = W1 at *
          refine Wk.take (i := 0) (v := ?_) (at_lit rfl) (at_lit rfl) (by kernel_rfl) (by kernel_rfl) (by kernel_rfl) (by kernel_rfl) rfl (fun _ _ _ h => h) ?_ hS ?_
          rotate_left 1
          · intro w' hSw
            obtain ⟨s0, s1, s2, s3, s4, s5⟩ := hSw
            go_simp
            first | done | rfl
          simp only [Act.put, List.setIfInBounds_toArray, List.set_cons_zero, List.set_cons_succ]
          refine Wk.take (i := 1) (v := ?_) (at_lit rfl) (at_lit rfl) (by kernel_rfl) (by kernel_rfl) (by kernel_rfl) (by kernel_rfl) rfl (fun _ _ _ h => h) ?_ hS ?_
          rotate_left 1
          · intro w' hSw
            obtain ⟨s0, s1, s2, s3, s4, s5⟩ := hSw
            go_simp
            first | done | rfl
          simp only [Act.put, List.setIfInBounds_toArray, List.set_cons_zero, List.set_cons_succ]
          refine Wk.take (i := 2) (v := ?_) (at_lit rfl) (at_lit rfl) (by kernel_rfl) (by kernel_rfl) (by kernel_rfl) (by kernel_rfl) rfl (fun _ _ _ h => h) ?_ hS ?_
          rotate_left 1
          · intro w' hSw
            obtain ⟨s0, s1, s2, s3, s4, s5⟩ := hSw
            go_simp
            first | done | rfl
          simp only [Act.put, List.setIfInBounds_toArray, List.set_cons_zero, List.set_cons_succ]
          refine Wk.take (i := 3) (v := ?_) (at_lit rfl) (at_lit rfl) (by kernel_rfl) (by kernel_rfl) (by kernel_rfl) (by kernel_rfl) rfl (fun _ _ _ h => h) ?_ hS ?_
          rotate_left 1
          · intro w' hSw
            obtain ⟨s0, s1, s2, s3, s4, s5⟩ := hSw
            go_simp
            first | done | rfl
          simp only [Act.put, List.setIfInBounds_toArray, List.set_cons_zero, List.set_cons_succ]
          refine Wk.take (i := 4) (v := ?_) (at_lit rfl) (at_lit rfl) (by kernel_rfl) (by kernel_rfl) (by kernel_rfl) (by kernel_rfl) rfl (fun _ _ _ h => h) ?_ hS ?_
          rotate_left 1
          · intro w' hSw
            obtain ⟨s0, s1, s2, s3, s4, s5⟩ := hSw
            go_simp
            first | done | rfl
          simp only [Act.put, List.setIfInBounds_toArray, List.set_cons_zero, List.set_cons_succ]
          refine Wk.one (i := 5) (at_lit rfl) (by kernel_rfl) (fun K hK => ?_)
          go_simp
          refine hK _ _ (fun _ => hS) ?_
          clear hK K
          refine Wk.one (i := 6) (at_lit rfl) (by kernel_rfl) (fun K hK => ?_)
          go_simp
          refine (cR _).mono ?_
          rintro e w2 ⟨A, n, c, q, rfl, hg2, HQ⟩
          have hS : (fun w' : World => w'.cell? ⟨h7, 0, none⟩ = some (.string N0) ∧ w'.cell? ⟨h7, 1, none⟩ = some (.pointer (some ⟨b, oi, none⟩)) ∧ w'.cell? ⟨h7, 2, none⟩ = some (.int .i64 lo) ∧ w'.cell? ⟨h7, 3, none⟩ = some (.int .i64 hi2) ∧ w'.cell? ⟨w.heap.size, 0, none⟩ = some (.string N0) ∧ w'.cell? ⟨w.heap.size, 1, none⟩ = some (.string T0)) w2 := ⟨gr_cell hg2 x0, gr_cell hg2 x1, gr_cell hg2 x2, gr_cell hg2 x3, gr_cell hg2 a0, gr_cell hg2 a1⟩
          refine hK _ _ (fun _ => hS) ?_
          clear hK K
          have hM2 := hM0.gr hg2
          have cb := hat.out w2 hM2
          have fb := hM2.free oi
          have HM2 := Lib.hid hM2
          clear hM0 hM2 hMa cR
          refine Wk.one (i := 7) (at_lit rfl) (by kernel_rfl) (fun K hK => ?_)
          go_simp
          refine hK _ _ (fun _ => hS) ?_
          clear hK K
          refine Wk.take (i := 8) (v := ?_) (at_lit rfl) (at_lit rfl) (by kernel_rfl) (by kernel_rfl) (by kernel_rfl) (by kernel_rfl) rfl (fun _ _ _ h => h) ?_ hS ?_
          rotate_left 1
          · intro w' hSw
            obtain ⟨s0, s1, s2, s3, s4, s5⟩ := hSw
            go_simp
            first | done | rfl
          simp only [Act.put, List.setIfInBounds_toArray, List.set_cons_zero, List.set_cons_succ]
          refine Wk.take (i := 9) (v := ?_) (at_lit rfl) (at_lit rfl) (by kernel_rfl) (by kernel_rfl) (by kernel_rfl) (by kernel_rfl) rfl (fun _ _ _ h => h) ?_ hS ?_
          rotate_left 1
          · intro w' hSw
            obtain ⟨s0, s1, s2, s3, s4, s5⟩ := hSw
            go_simp
            first | done | rfl
          simp only [Act.put, List.setIfInBounds_toArray, List.set_cons_zero, List.set_cons_succ]
          refine Wk.one (i := 10) (at_lit rfl) (by kernel_rfl) (fun K hK => ?_)
          go_simp
          refine hK _ _ (fun _ => hS) ?_
          clear hK K
          refine Wk.one (i := 11) (at_lit rfl) (by kernel_rfl) (fun K hK => ?_)
          go_simp
          have hS2 : (fun w' : World => w'.cell? ⟨h7, 0, none⟩ = some (.string N0) ∧ w'.cell? ⟨h7, 1, none⟩ = some (.pointer (some ⟨b, oi, none⟩)) ∧ w'.cell? ⟨h7, 2, none⟩ = some (.int .i64 lo) ∧ w'.cell? ⟨h7, 3, none⟩ = some (.int .i64 hi2) ∧ w'.cell? ⟨w.heap.size, 0, none⟩ = some (.string N0) ∧ w'.cell? ⟨w.heap.size, 1, none⟩ = some (.string T0)) (w2.setCell ⟨b, oi, none⟩ (.slice A n c)) := by
            obtain ⟨s0, s1, s2, s3, s4, s5⟩ := hS
            refine ⟨?_, ?_, ?_, ?_, ?_, ?_⟩
            all_goals first
              | (rw [World.cell?_setCell_other (h := fun e => hb7 (congrArg Addr.block e).symm)]; assumption)
              | (rw [World.cell?_setCell_other (h := fun e => hbr (congrArg Addr.block e).symm)]; assumption)
          refine hK _ _ (fun _ => hS2) ?_
          clear hK K
          refine Wk.one (i := 12) (at_lit rfl) (by kernel_rfl) (fun K hK => ?_)
          go_simp
          refine hK _ _ (fun h => absurd rfl h) ?_
          clear hK K
          refine Wk.done (by kernel_rfl) ?_
          have hsm : Sm (fun k => k ≠ b) w (w2.setCell ⟨b, oi, none⟩ (.slice A n c)) := ((hgw3.trans hg2).sm _).trans (Sm.setCell _ _ _ _ (fun e => e rfl))
          obtain ⟨_, _, _, _, s4, s5⟩ := hS2
          have HP : Hid (RnP B b V (Rm.nmL k, tx) q (w2.setCell ⟨b, oi, none⟩ (.slice A n c))) := Lib.hid (by
            rcases HQ.out with ⟨rfl, xs, h, hD, ho⟩ | ⟨rfl, h⟩
            · refine Or.inl ⟨rfl, _, ?_, HSet.out w2 A n c xs HM2.out hD (fun hn ad e => ?_)⟩
              · rw [HR.out, h, HSr.out]; rfl
              · have h1 := ho hn ad e
                have h2 := HB.out
                have h3 := hgw3.lt
                exact ⟨by omega, by omega⟩
            · exact Or.inr ⟨rfl, by rw [HR.out, h]; rfl⟩)
          generalize w2.setCell ⟨b, oi, none⟩ (.slice A n c) = W3 at *
          go_wp2
          go_roundg (8 - (k + 1))
          case measure => have := HG.out; omega
          case rel => exact ⟨k + 1, by go_num, by omega, s4, s5, Or.inr ⟨by omega, q, rfl, hsm, HP⟩⟩
        · exact absurd h (Nat.lt_irrefl _)
      · have hne : ((ByteArray.mk (Rm.nmL k).toArray).toList == N0.toList) = false := str_eq ⟨(fun h => by cases h), (fun h => by
          rw [← HN0.out] at h
          exact absurd (Rm.nmL_eq hi hk h) hki)⟩
        generalize (ByteArray.mk (Rm.nmL k).toArray) = N1 at *
        generalize Rm.lo k = lk at *
        generalize Rm.hi k = hk2 at *
        generalize Rm.off k = ok at *
        rcases hor with ⟨h, rfl, hg⟩ | ⟨h, q, rfl, hs, hq⟩
        · go_wp2
          go_roundg (8 - (k + 1))
          case measure => have := HG.out; omega
          case rel => exact ⟨k + 1, by go_num, by omega, a0, a1, Or.inl ⟨by omega, rfl, hg.trans hga⟩⟩
        · go_wp2
          go_roundg (8 - (k + 1))
          case measure => have := HG.out; omega
          case rel => exact ⟨k + 1, by go_num, by omega, a0, a1, Or.inr ⟨by omega, q, rfl, hs.trans (hga.sm _), Lib.hid (hq.out.gr hga)⟩⟩
    · obtain rfl : k = 8 := by have := HG.out; omega
      rcases hor with ⟨h, _⟩ | ⟨h, q, rfl, hs, hq⟩
      · exact absurd hi (Nat.not_lt_of_le h)
      · go_wp2
        go_ret
        exact ⟨q, rfl, hs, hq⟩
end Go.Proofs.YtleeklcpbflfhaaGreatDoor
namespace Go.Proofs.YtleeklcpbflfhaaGreatDoor
open Go.RowKit

namespace Rm
theorem which_bd (l : List UInt8) : which l = -1 ∨ (0 ≤ which l ∧ which l ≤ 6 ∧ l.length = 2) := by
  unfold which
  repeat' split
  all_goals first | (left; rfl) | (right; subst_vars; exact ⟨by decide, by decide, rfl⟩)
theorem dr_short {l : List UInt8} (h : l.length ≤ 2) : dr l = if 0 ≤ which l then some (0, which l) else none := by
  unfold dr
  by_cases h2 : l.length < 2
  · rw [if_pos h2, if_neg]
    intro h3
    rcases which_bd l with h4 | ⟨_, _, h4⟩ <;> omega
  · have e : l.length - 2 = 0 := by omega
    rw [if_neg h2, e, List.take_zero, List.drop_zero]
    have e2 : nth [] = some 0 := rfl
    rw [e2]
    dsimp only
    by_cases h3 : 0 ≤ which l
    · rw [if_pos h3, if_pos]
      rcases which_bd l with h4 | ⟨h4, h5, _⟩
      · omega
      · exact mayD_iff.2 ⟨h4, h5, by show (-53 : Int) ≤ 0; decide, by show (0 : Int) ≤ 53; decide⟩
    · rw [if_neg h3, if_neg]
      intro h4
      exact h3 (mayD_iff.1 h4).1
theorem dr_long {l : List UInt8} (h : 2 < l.length) : dr l = match sr (l.take (l.length - 2)) with
    | some n => if (n != 0) = true ∧ mayD (n, which (l.drop (l.length - 2))) = true then some (n, which (l.drop (l.length - 2))) else none
    | none => none := by
  have hne : l.take (l.length - 2) ≠ [] := by
    intro e
    have := congrArg List.length e
    simp at this
    omega
  unfold dr nth
  rw [if_neg (by omega), if_neg hne]
  cases sr (l.take (l.length - 2)) with
  | none => rfl
  | some n =>
    dsimp only
    by_cases hn : n = 0
    · rw [if_pos hn, if_neg]
      rintro ⟨h1, _⟩
      simp [hn] at h1
    · rw [if_neg hn]
      by_cases hm : mayD (n, which (l.drop (l.length - 2))) = true
      · rw [if_pos ⟨by simpa using hn, hm⟩]
        dsimp only
        rw [if_pos hm]
      · rw [if_neg (fun h => hm h.2)]
        dsimp only
        rw [if_neg hm]
end Rm
/- what reading a weekday answers -/
def NwR (l : List UInt8) (w : World) (e : Ending) (w' : World) : Prop :=
  ∃ (n d : Int) (q : Bool), e = .returned (.tuple #[.agg #[.int .i64 n, .int .i64 d], .bool q]) ∧ Gr w w' ∧ ((q = true ∧ Rm.dr l = some (n, d)) ∨ (q = false ∧ Rm.dr l = none))
theorem box_set2 {W : World} {b : Nat} {a1 a2 : Value} (c0 : W.cell? ⟨b, 0, none⟩ = some a1) (c1 : W.cell? ⟨b, 1, none⟩ = some a2) (x1 x2 : Value) :
    ((W.setCell ⟨b, 0, none⟩ x1).setCell ⟨b, 1, none⟩ x2).cell? ⟨b, 0, none⟩ = some x1 ∧ ((W.setCell ⟨b, 0, none⟩ x1).setCell ⟨b, 1, none⟩ x2).cell? ⟨b, 1, none⟩ = some x2 := by
  refine ⟨?_, ?_⟩
  · rw [World.cell?_setCell_other (h := by simp)]; exact World.cell?_setCell_same _ _ _ c0
  · refine World.cell?_setCell_same _ _ _ (u := a2) ?_
    rw [World.cell?_setCell_other (h := by simp)]; exact c1
theorem gr_set2 {w W : World} (h : Gr w W) (x1 x2 : Value) : Gr w ((W.setCell ⟨w.heap.size, 0, none⟩ x1).setCell ⟨w.heap.size, 1, none⟩ x2) :=
  ⟨(h.below.setCell (p := ⟨w.heap.size, 0, none⟩) (Nat.le_refl _) x1).setCell (p := ⟨w.heap.size, 1, none⟩) (Nat.le_refl _) x2⟩
theorem nw_end {l lt : List UInt8} {wh v n : Int} {q q2 : Bool} (hq : (if 0 ≤ wh then wh else 0) = v ∧ decide (0 ≤ wh) = q)
    (hr : (q2 = true ∧ Rm.sr lt = some n ∧ -9999 ≤ n ∧ n ≤ 9999) ∨ (q2 = false ∧ Rm.sr lt = none))
    (hd : Rm.dr l = match Rm.sr lt with
      | some n => if (n != 0) = true ∧ Rm.mayD (n, wh) = true then some (n, wh) else none
      | none => none) :
    (q = false → ((false = true ∧ Rm.dr l = some (n, v)) ∨ (false = false ∧ Rm.dr l = none))) ∧ (q = true → q2 = false → ((false = true ∧ Rm.dr l = some (n, v)) ∨ (false = false ∧ Rm.dr l = none))) ∧
    (q = true → q2 = true → (n != 0) = false → ((false = true ∧ Rm.dr l = some (n, v)) ∨ (false = false ∧ Rm.dr l = none))) ∧
    (q = true → q2 = true → (n != 0) = true → ((Rm.mayD (n, v) = true ∧ Rm.dr l = some (n, v)) ∨ (Rm.mayD (n, v) = false ∧ Rm.dr l = none))) := by
  obtain ⟨rfl, hq2⟩ := hq
  refine ⟨fun h => Or.inr ⟨rfl, ?_⟩, fun _ h => Or.inr ⟨rfl, ?_⟩, fun _ h h0 => Or.inr ⟨rfl, ?_⟩, fun h h2 h0 => ?_⟩
  · rw [hd]
    cases Rm.sr lt with
    | none => rfl
    | some m =>
      dsimp only
      rw [if_neg]
      rintro ⟨_, hm⟩
      have := (Rm.mayD_iff.1 hm).1
      rw [h] at hq2
      simp at hq2
      omega
  · rcases hr with ⟨h2, _⟩ | ⟨_, h2⟩
    · rw [h] at h2; cases h2
    · rw [hd, h2]
  · rcases hr with ⟨_, h2, _⟩ | ⟨h2, _⟩
    · rw [hd, h2]
      dsimp only
      rw [if_neg]
      rintro ⟨hm, _⟩
      rw [h0] at hm; cases hm
    · rw [h] at h2; cases h2
  · rw [h] at hq2
    have hp : 0 ≤ wh := by simpa using hq2
    rw [if_pos hp]
    rcases hr with ⟨_, h3, _⟩ | ⟨h3, _⟩
    · rw [hd, h3]
      dsimp only
      rcases hm : Rm.mayD (n, wh) with _ | _
      · exact Or.inr ⟨rfl, by rw [if_neg (fun h => by cases h.2)]⟩
      · exact Or.inl ⟨rfl, by rw [if_pos ⟨h0, rfl⟩]⟩
    · rw [h2] at h3; cases h3
set_option maxRecDepth 100000 in
set_option maxHeartbeats 4000000 in
theorem nw_short (s : ByteArray) (w : World) (hT : TbR w) (h : s.size ≤ 2) : Calls Tryz.prog 74 #[.string s] w (NwR s.data.toList w) := by
  have hl : s.data.toList.length = s.size := (Lib.size_eq s).symm
  have HD := Lib.hid (Rm.dr_short (l := s.data.toList) (by omega))
  have hg0 : Gr w (w.alloc (.cells #[.int .i64 0, .int .i64 0] 49)) := (Gr.refl w).allocO _
  have cW := weekday_any s _ (hT.gr hg0)
  obtain ⟨v, hv⟩ : ∃ v, (if 0 ≤ Rm.which s.data.toList then Rm.which s.data.toList else 0) = v := ⟨_, rfl⟩
  rw [hv] at cW
  have HV := Lib.hid hv
  have HM := Lib.hid (show max ((s.size : Int) - 2) 0 = 0 by omega)
  have HX := Lib.hid (show s.extract (0 : Int).toNat s.size = s by
    rw [show (0 : Int).toNat = 0 from rfl, extract_from, List.drop_zero])
  obtain ⟨q, hq⟩ : ∃ q, decide (0 ≤ Rm.which s.data.toList) = q := ⟨_, rfl⟩
  rw [hq] at cW
  have HQ := Lib.hid hq
  have y0 : (w.alloc (.cells #[.int .i64 0, .int .i64 0] 49)).cell? ⟨w.heap.size, 0, none⟩ = some (.int .i64 0) := by simp
  have y1 : (w.alloc (.cells #[.int .i64 0, .int .i64 0] 49)).cell? ⟨w.heap.size, 1, none⟩ = some (.int .i64 0) := by simp
  have f0 : (w.alloc (.cells #[.int .i64 0, .int .i64 0] 49)).frozen? ⟨w.heap.size, 0, none⟩ = false := by simp
  have f1 : (w.alloc (.cells #[.int .i64 0, .int .i64 0] 49)).frozen? ⟨w.heap.size, 1, none⟩ = false := by simp
  clear hq hv hl
  go_enter Tryz.func74, Tryz.ntmps74
  go_wp2_with fail
  rw [HM.out, HX.out]
  refine cW.mono ?_
  rintro e w' ⟨rfl, rfl⟩
  generalize w.alloc (.cells #[.int .i64 0, .int .i64 0] 49) = W1 at *
  go_wp2
  obtain ⟨z0, z1⟩ := box_set2 y0 y1 (.int .i64 0) (.int .i64 v)
  have hg := gr_set2 hg0 (.int .i64 0) (.int .i64 v)
  generalize World.setCell _ _ _ = W at *
  refine bodyPost_ret (v := .tuple #[.agg #[.int .i64 0, .int .i64 v], .bool q]) (by simp [results, Tryz.results74, go_sem, z0, z1]) rfl ⟨0, v, q, rfl, hg, ?_⟩
  · rw [HD.out, ← HV.out, ← HQ.out]
    by_cases h0 : 0 ≤ Rm.which s.data.toList
    · rw [if_pos h0, if_pos h0]
      exact Or.inl ⟨by simpa using h0, rfl⟩
    · rw [if_neg h0]
      exact Or.inr ⟨by simpa using h0, rfl⟩
set_option maxRecDepth 100000 in
set_option maxHeartbeats 4000000 in
theorem nw_long (s : ByteArray) (w : World) (hT : TbR w) (h : 2 < s.size) (hb : s.size ≤ 100000) : Calls Tryz.prog 74 #[.string s] w (NwR s.data.toList w) := by
  have hl : s.data.toList.length = s.size := (Lib.size_eq s).symm
  have HD := Lib.hid (Rm.dr_long (l := s.data.toList) (by omega))
  have hg0 : Gr w (w.alloc (.cells #[.int .i64 0, .int .i64 0] 49)) := (Gr.refl w).allocO _
  have cW := weekday_any (s.extract (s.size - 2) s.size) _ (hT.gr hg0)
  have cS := fun w => sgn13_any (s.extract 0 (s.size - 2)) w
  have e1 : (s.extract (s.size - 2) s.size).data.toList = s.data.toList.drop (s.data.toList.length - 2) := by rw [extract_from, hl]
  have e2 : (s.extract 0 (s.size - 2)).data.toList = s.data.toList.take (s.data.toList.length - 2) := by rw [extract_to, hl]
  rw [e1] at cW
  rw [e2] at cS
  have HM := Lib.hid (show max ((s.size : Int) - 2) 0 = (s.size : Int) - 2 by omega)
  have HN := Lib.hid (show ((s.size : Int) - 2).toNat = s.size - 2 by omega)
  have HW := Lib.hid (Rm.which_bd (s.data.toList.drop (s.data.toList.length - 2)))
  generalize s.data.toList.drop (s.data.toList.length - 2) = ld at *
  generalize s.data.toList.take (s.data.toList.length - 2) = lt at *
  generalize Rm.which ld = wh at *
  obtain ⟨v, hv⟩ : ∃ v, (if 0 ≤ wh then wh else 0) = v := ⟨_, rfl⟩
  obtain ⟨q, hq⟩ : ∃ q, decide (0 ≤ wh) = q := ⟨_, rfl⟩
  rw [hv, hq] at cW
  have HQ := Lib.hid (And.intro hv hq)
  clear hq hv hl e1 e2
  go_enter Tryz.func74, Tryz.ntmps74
  go_wp2_with fail
  rw [HM.out, HN.out]
  refine cW.mono ?_
  rintro e w' ⟨rfl, rfl⟩
  go_wp2_with fail
  refine (cS _).mono ?_
  rintro e w' ⟨n, q2, rfl, hn, rfl⟩
  have HR := Lib.hid hn
  have hgx := hg0.allocO (.cells #[.int .i64 n, .int .i64 v] 49)
  clear hn
  go_wp2_with fail
  have x0 : ((w.alloc (.cells #[.int .i64 0, .int .i64 0] 49)).alloc (.cells #[.int .i64 n, .int .i64 v] 49)).cell? ⟨w.heap.size + 1, 0, none⟩ = some (.int .i64 n) := by simp
  have x1 : ((w.alloc (.cells #[.int .i64 0, .int .i64 0] 49)).alloc (.cells #[.int .i64 n, .int .i64 v] 49)).cell? ⟨w.heap.size + 1, 1, none⟩ = some (.int .i64 v) := by simp
  have y0 : ((w.alloc (.cells #[.int .i64 0, .int .i64 0] 49)).alloc (.cells #[.int .i64 n, .int .i64 v] 49)).cell? ⟨w.heap.size, 0, none⟩ = some (.int .i64 0) := by simp
  have y1 : ((w.alloc (.cells #[.int .i64 0, .int .i64 0] 49)).alloc (.cells #[.int .i64 n, .int .i64 v] 49)).cell? ⟨w.heap.size, 1, none⟩ = some (.int .i64 0) := by simp
  have f0 : ((w.alloc (.cells #[.int .i64 0, .int .i64 0] 49)).alloc (.cells #[.int .i64 n, .int .i64 v] 49)).frozen? ⟨w.heap.size, 0, none⟩ = false := by simp
  have f1 : ((w.alloc (.cells #[.int .i64 0, .int .i64 0] 49)).alloc (.cells #[.int .i64 n, .int .i64 v] 49)).frozen? ⟨w.heap.size, 1, none⟩ = false := by simp
  have hg0 : Gr w ((w.alloc (.cells #[.int .i64 0, .int .i64 0] 49)).alloc (.cells #[.int .i64 n, .int .i64 v] 49)).drew := hgx.drew
  generalize (w.alloc (.cells #[.int .i64 0, .int .i64 0] 49)).alloc (.cells #[.int .i64 n, .int .i64 v] 49) = W0 at *
  have x0 : W0.drew.cell? ⟨w.heap.size + 1, 0, none⟩ = some (.int .i64 n) := x0
  have x1 : W0.drew.cell? ⟨w.heap.size + 1, 1, none⟩ = some (.int .i64 v) := x1
  have y0 : W0.drew.cell? ⟨w.heap.size, 0, none⟩ = some (.int .i64 0) := y0
  have y1 : W0.drew.cell? ⟨w.heap.size, 1, none⟩ = some (.int .i64 0) := y1
  have f0 : W0.drew.frozen? ⟨w.heap.size, 0, none⟩ = false := f0
  have f1 : W0.drew.frozen? ⟨w.heap.size, 1, none⟩ = false := f1
  have hS0 : (fun w' : World => w'.cell? ⟨w.heap.size + 1, 0, none⟩ = some (.int .i64 n) ∧ w'.cell? ⟨w.heap.size + 1, 1, none⟩ = some (.int .i64 v)) W0.drew := ⟨x0, x1⟩
  have cH := fun w => hasNth_any n v w
  have cA := fun w => allowsD_any n v w
  have HE := Lib.hid (nw_end HQ.out HR.out HD.out)
  clear hgx cS
  rcases q
  · have HE := Lib.hid (HE.out.1 rfl)
    refine wp_region_last 14 15 (fun w' : World => w'.cell? ⟨w.heap.size + 1, 0, none⟩ = some (.int .i64 n) ∧ w'.cell? ⟨w.heap.size + 1, 1, none⟩ = some (.int .i64 v)) (by kernel_rfl) rfl ?_
    have hS := hS0
    generalize W0.drew = W1 at *
    refine Wk.take (i := 0) (v := ?_) (at_lit rfl) (at_lit rfl) (by kernel_rfl) (by kernel_rfl) (by kernel_rfl) (by kernel_rfl) rfl (fun _ _ _ h => h) ?_ hS ?_
    rotate_left 1
    · intro w' hSw
      obtain ⟨s0, s1⟩ := hSw
      go_simp
      first | done | rfl
    simp only [Act.put, List.setIfInBounds_toArray, List.set_cons_zero, List.set_cons_succ]
    refine Wk.one (i := 1) (at_lit rfl) (by kernel_rfl) (fun K hK => ?_)
    go_simp
    refine hK _ _ (fun _ => hS) ?_
    clear hK K
    refine Wk.one (i := 2) (at_lit rfl) (by kernel_rfl) (fun K hK => ?_)
    go_simp
    refine hK _ _ (fun _ => hS) ?_
    clear hK K
    refine Wk.one (i := 3) (at_lit rfl) (by kernel_rfl) (fun K hK => ?_)
    go_simp
    refine hK _ _ (fun _ => hS) ?_
    clear hK K
    refine Wk.one (i := 4) (at_lit rfl) (by kernel_rfl) (fun K hK => ?_)
    go_simp
    refine hK _ _ (fun _ => hS) ?_
    clear hK K
    refine Wk.one (i := 5) (at_lit rfl) (by kernel_rfl) (fun K hK => ?_)
    go_simp
    refine hK _ _ (fun _ => hS) ?_
    clear hK K
    refine Wk.one (i := 6) (at_lit rfl) (by kernel_rfl) (fun K hK => ?_)
    go_simp
    refine hK _ _ (fun _ => hS) ?_
    clear hK K
    refine Wk.one (i := 7) (at_lit rfl) (by kernel_rfl) (fun K hK => ?_)
    go_simp
    refine hK _ _ (fun _ => hS) ?_
    clear hK K
    refine Wk.one (i := 8) (at_lit rfl) (by kernel_rfl) (fun K hK => ?_)
    go_simp
    refine hK _ _ (fun _ => hS) ?_
    clear hK K
    refine Wk.one (i := 9) (at_lit rfl) (by kernel_rfl) (fun K hK => ?_)
    go_simp
    refine hK _ _ (fun _ => hS) ?_
    clear hK K
    refine Wk.one (i := 10) (at_lit rfl) (by kernel_rfl) (fun K hK => ?_)
    go_simp
    refine hK _ _ (fun _ => hS) ?_
    clear hK K
    refine Wk.one (i := 11) (at_lit rfl) (by kernel_rfl) (fun K hK => ?_)
    go_simp
    refine hK _ _ (fun _ => hS) ?_
    clear hK K
    refine Wk.take (i := 12) (v := ?_) (at_lit rfl) (at_lit rfl) (by kernel_rfl) (by kernel_rfl) (by kernel_rfl) (by kernel_rfl) rfl (fun _ _ _ h => h) ?_ hS ?_
    rotate_left 1
    · intro w' hSw
      obtain ⟨s0, s1⟩ := hSw
      go_simp
      first | done | rfl
    simp only [Act.put, List.setIfInBounds_toArray, List.set_cons_zero, List.set_cons_succ]
    refine Wk.one (i := 13) (at_lit rfl) (by kernel_rfl) (fun K hK => ?_)
    go_simp
    obtain ⟨z0, z1⟩ := box_set2 y0 y1 (.int .i64 n) (.int .i64 v)
    have hg := gr_set2 hg0 (.int .i64 n) (.int .i64 v)
    refine hK _ _ (fun _ => ?_) ?_
    · refine ⟨?_, ?_⟩
      · rw [World.cell?_setCell_other (h := by simp), World.cell?_setCell_other (h := by simp)]; exact x0
      · rw [World.cell?_setCell_other (h := by simp), World.cell?_setCell_other (h := by simp)]; exact x1
    clear hK K
    generalize World.setCell _ _ _ = W at *
    refine Wk.one (i := 14) (at_lit rfl) (by kernel_rfl) (fun K hK => ?_)
    go_simp
    refine hK _ _ (fun h => absurd rfl h) ?_
    clear hK K
    refine Wk.done (by kernel_rfl) ?_
    go_wp2
    refine bodyPost_ret (v := .tuple #[.agg #[.int .i64 n, .int .i64 v], .bool false]) (by simp [results, Tryz.results74, go_sem, z0, z1]) rfl ⟨n, v, _, rfl, hg, ?_⟩
    first | exact HE.out | simpa using HE.out
  rcases q2
  · have HE := Lib.hid (HE.out.2.1 rfl rfl)
    refine wp_region_last 14 15 (fun w' : World => w'.cell? ⟨w.heap.size + 1, 0, none⟩ = some (.int .i64 n) ∧ w'.cell? ⟨w.heap.size + 1, 1, none⟩ = some (.int .i64 v)) (by kernel_rfl) rfl ?_
    have hS := hS0
    generalize W0.drew = W1 at *
    refine Wk.take (i := 0) (v := ?_) (at_lit rfl) (at_lit rfl) (by kernel_rfl) (by kernel_rfl) (by kernel_rfl) (by kernel_rfl) rfl (fun _ _ _ h => h) ?_ hS ?_
    rotate_left 1
    · intro w' hSw
      obtain ⟨s0, s1⟩ := hSw
      go_simp
      first | done | rfl
    simp only [Act.put, List.setIfInBounds_toArray, List.set_cons_zero, List.set_cons_succ]
    refine Wk.one (i := 1) (at_lit rfl) (by kernel_rfl) (fun K hK => ?_)
    go_simp
    refine hK _ _ (fun _ => hS) ?_
    clear hK K
    refine Wk.one (i := 2) (at_lit rfl) (by kernel_rfl) (fun K hK => ?_)
    go_simp
    refine hK _ _ (fun _ => hS) ?_
    clear hK K
    refine Wk.one (i := 3) (at_lit rfl) (by kernel_rfl) (fun K hK => ?_)
    go_simp
    refine hK _ _ (fun _ => hS) ?_
    clear hK K
    refine Wk.one (i := 4) (at_lit rfl) (by kernel_rfl) (fun K hK => ?_)
    go_simp
    refine hK _ _ (fun _ => hS) ?_
    clear hK K
    refine Wk.one (i := 5) (at_lit rfl) (by kernel_rfl) (fun K hK => ?_)
    go_simp
    refine hK _ _ (fun _ => hS) ?_
    clear hK K
    refine Wk.one (i := 6) (at_lit rfl) (by kernel_rfl) (fun K hK => ?_)
    go_simp
    refine hK _ _ (fun _ => hS) ?_
    clear hK K
    refine Wk.one (i := 7) (at_lit rfl) (by kernel_rfl) (fun K hK => ?_)
    go_simp
    refine hK _ _ (fun _ => hS) ?_
    clear hK K
    refine Wk.one (i := 8) (at_lit rfl) (by kernel_rfl) (fun K hK => ?_)
    go_simp
    refine hK _ _ (fun _ => hS) ?_
    clear hK K
    refine Wk.one (i := 9) (at_lit rfl) (by kernel_rfl) (fun K hK => ?_)
    go_simp
    refine hK _ _ (fun _ => hS) ?_
    clear hK K
    refine Wk.one (i := 10) (at_lit rfl) (by kernel_rfl) (fun K hK => ?_)
    go_simp
    refine hK _ _ (fun _ => hS) ?_
    clear hK K
    refine Wk.one (i := 11) (at_lit rfl) (by kernel_rfl) (fun K hK => ?_)
    go_simp
    refine hK _ _ (fun _ => hS) ?_
    clear hK K
    refine Wk.take (i := 12) (v := ?_) (at_lit rfl) (at_lit rfl) (by kernel_rfl) (by kernel_rfl) (by kernel_rfl) (by kernel_rfl) rfl (fun _ _ _ h => h) ?_ hS ?_
    rotate_left 1
    · intro w' hSw
      obtain ⟨s0, s1⟩ := hSw
      go_simp
      first | done | rfl
    simp only [Act.put, List.setIfInBounds_toArray, List.set_cons_zero, List.set_cons_succ]
    refine Wk.one (i := 13) (at_lit rfl) (by kernel_rfl) (fun K hK => ?_)
    go_simp
    obtain ⟨z0, z1⟩ := box_set2 y0 y1 (.int .i64 n) (.int .i64 v)
    have hg := gr_set2 hg0 (.int .i64 n) (.int .i64 v)
    refine hK _ _ (fun _ => ?_) ?_
    · refine ⟨?_, ?_⟩
      · rw [World.cell?_setCell_other (h := by simp), World.cell?_setCell_other (h := by simp)]; exact x0
      · rw [World.cell?_setCell_other (h := by simp), World.cell?_setCell_other (h := by simp)]; exact x1
    clear hK K
    generalize World.setCell _ _ _ = W at *
    refine Wk.one (i := 14) (at_lit rfl) (by kernel_rfl) (fun K hK => ?_)
    go_simp
    refine hK _ _ (fun h => absurd rfl h) ?_
    clear hK K
    refine Wk.done (by kernel_rfl) ?_
    go_wp2
    refine bodyPost_ret (v := .tuple #[.agg #[.int .i64 n, .int .i64 v], .bool false]) (by simp [results, Tryz.results74, go_sem, z0, z1]) rfl ⟨n, v, _, rfl, hg, ?_⟩
    first | exact HE.out | simpa using HE.out
  rcases hnz : (n != 0)
  · have HE := Lib.hid (HE.out.2.2.1 rfl rfl hnz)
    rw [hnz] at cH
    refine wp_region_last 14 15 (fun w' : World => w'.cell? ⟨w.heap.size + 1, 0, none⟩ = some (.int .i64 n) ∧ w'.cell? ⟨w.heap.size + 1, 1, none⟩ = some (.int .i64 v)) (by kernel_rfl) rfl ?_
    have hS := hS0
    generalize W0.drew = W1 at *
    refine Wk.take (i := 0) (v := ?_) (at_lit rfl) (at_lit rfl) (by kernel_rfl) (by kernel_rfl) (by kernel_rfl) (by kernel_rfl) rfl (fun _ _ _ h => h) ?_ hS ?_
    rotate_left 1
    · intro w' hSw
      obtain ⟨s0, s1⟩ := hSw
      go_simp
      first | done | rfl
    simp only [Act.put, List.setIfInBounds_toArray, List.set_cons_zero, List.set_cons_succ]
    refine Wk.one (i := 1) (at_lit rfl) (by kernel_rfl) (fun K hK => ?_)
    go_simp
    refine hK _ _ (fun _ => hS) ?_
    clear hK K
    refine Wk.one (i := 2) (at_lit rfl) (by kernel_rfl) (fun K hK => ?_)
    go_simp
    refine hK _ _ (fun _ => hS) ?_
    clear hK K
    refine Wk.one (i := 3) (at_lit rfl) (by kernel_rfl) (fun K hK => ?_)
    go_simp
    refine hK _ _ (fun _ => hS) ?_
    clear hK K
    refine Wk.one (i := 4) (at_lit rfl) (by kernel_rfl) (fun K hK => ?_)
    go_simp
    refine hK _ _ (fun _ => hS) ?_
    clear hK K
    refine Wk.one (i := 5) (at_lit rfl) (by kernel_rfl) (fun K hK => ?_)
    go_simp
    refine hK _ _ (fun _ => hS) ?_
    clear hK K
    refine Wk.one (i := 6) (at_lit rfl) (by kernel_rfl) (fun K hK => ?_)
    go_simp
    refine hK _ _ (fun _ => hS) ?_
    clear hK K
    refine Wk.one (i := 7) (at_lit rfl) (by kernel_rfl) (fun K hK => ?_)
    go_simp
    refine (cH _).mono ?_
    rintro e w2 ⟨rfl, hgA⟩
    have hg0 := hg0.trans hgA
    have x0 := gr_cell hgA x0
    have x1 := gr_cell hgA x1
    have y0p := y0
    have y1p := y1
    have y0 := gr_cell hgA y0
    have y1 := gr_cell hgA y1
    have f0 := (hgA.frozen (a := ⟨w.heap.size, 0, none⟩) (World.block_lt_of_cell? _ _ y0p)).trans f0
    have f1 := (hgA.frozen (a := ⟨w.heap.size, 1, none⟩) (World.block_lt_of_cell? _ _ y1p)).trans f1
    have hS : (fun w' : World => w'.cell? ⟨w.heap.size + 1, 0, none⟩ = some (.int .i64 n) ∧ w'.cell? ⟨w.heap.size + 1, 1, none⟩ = some (.int .i64 v)) w2 := ⟨x0, x1⟩
    refine hK _ _ (fun _ => hS) ?_
    clear hK K
    refine Wk.one (i := 8) (at_lit rfl) (by kernel_rfl) (fun K hK => ?_)
    go_simp
    refine hK _ _ (fun _ => hS) ?_
    clear hK K
    refine Wk.one (i := 9) (at_lit rfl) (by kernel_rfl) (fun K hK => ?_)
    go_simp
    refine hK _ _ (fun _ => hS) ?_
    clear hK K
    refine Wk.one (i := 10) (at_lit rfl) (by kernel_rfl) (fun K hK => ?_)
    go_simp
    refine hK _ _ (fun _ => hS) ?_
    clear hK K
    refine Wk.one (i := 11) (at_lit rfl) (by kernel_rfl) (fun K hK => ?_)
    go_simp
    refine hK _ _ (fun _ => hS) ?_
    clear hK K
    refine Wk.take (i := 12) (v := ?_) (at_lit rfl) (at_lit rfl) (by kernel_rfl) (by kernel_rfl) (by kernel_rfl) (by kernel_rfl) rfl (fun _ _ _ h => h) ?_ hS ?_
    rotate_left 1
    · intro w' hSw
      obtain ⟨s0, s1⟩ := hSw
      go_simp
      first | done | rfl
    simp only [Act.put, List.setIfInBounds_toArray, List.set_cons_zero, List.set_cons_succ]
    refine Wk.one (i := 13) (at_lit rfl) (by kernel_rfl) (fun K hK => ?_)
    go_simp
    obtain ⟨z0, z1⟩ := box_set2 y0 y1 (.int .i64 n) (.int .i64 v)
    have hg := gr_set2 hg0 (.int .i64 n) (.int .i64 v)
    refine hK _ _ (fun _ => ?_) ?_
    · refine ⟨?_, ?_⟩
      · rw [World.cell?_setCell_other (h := by simp), World.cell?_setCell_other (h := by simp)]; exact x0
      · rw [World.cell?_setCell_other (h := by simp), World.cell?_setCell_other (h := by simp)]; exact x1
    clear hK K
    generalize World.setCell _ _ _ = W at *
    refine Wk.one (i := 14) (at_lit rfl) (by kernel_rfl) (fun K hK => ?_)
    go_simp
    refine hK _ _ (fun h => absurd rfl h) ?_
    clear hK K
    refine Wk.done (by kernel_rfl) ?_
    go_wp2
    refine bodyPost_ret (v := .tuple #[.agg #[.int .i64 n, .int .i64 v], .bool false]) (by simp [results, Tryz.results74, go_sem, z0, z1]) rfl ⟨n, v, _, rfl, hg, ?_⟩
    first | exact HE.out | simpa using HE.out
  · replace HE := Lib.hid (HE.out.2.2.2 rfl rfl hnz)
    rw [hnz] at cH
    generalize Rm.mayD (n, v) = m at *
    refine wp_region_last 14 15 (fun w' : World => w'.cell? ⟨w.heap.size + 1, 0, none⟩ = some (.int .i64 n) ∧ w'.cell? ⟨w.heap.size + 1, 1, none⟩ = some (.int .i64 v)) (by kernel_rfl) rfl ?_
    have hS := hS0
    generalize W0.drew = W1 at *
    refine Wk.take (i := 0) (v := ?_) (at_lit rfl) (at_lit rfl) (by kernel_rfl) (by kernel_rfl) (by kernel_rfl) (by kernel_rfl) rfl (fun _ _ _ h => h) ?_ hS ?_
    rotate_left 1
    · intro w' hSw
      obtain ⟨s0, s1⟩ := hSw
      go_simp
      first | done | rfl
    simp only [Act.put, List.setIfInBounds_toArray, List.set_cons_zero, List.set_cons_succ]
    refine Wk.one (i := 1) (at_lit rfl) (by kernel_rfl) (fun K hK => ?_)
    go_simp
    refine hK _ _ (fun _ => hS) ?_
    clear hK K
    refine Wk.one (i := 2) (at_lit rfl) (by kernel_rfl) (fun K hK => ?_)
    go_simp
    refine hK _ _ (fun _ => hS) ?_
    clear hK K
    refine Wk.one (i := 3) (at_lit rfl) (by kernel_rfl) (fun K hK => ?_)
    go_simp
    refine hK _ _ (fun _ => hS) ?_
    clear hK K
    refine Wk.one (i := 4) (at_lit rfl) (by kernel_rfl) (fun K hK => ?_)
    go_simp
    refine hK _ _ (fun _ => hS) ?_
    clear hK K
    refine Wk.one (i := 5) (at_lit rfl) (by kernel_rfl) (fun K hK => ?_)
    go_simp
    refine hK _ _ (fun _ => hS) ?_
    clear hK K
    refine Wk.one (i := 6) (at_lit rfl) (by kernel_rfl) (fun K hK => ?_)
    go_simp
    refine hK _ _ (fun _ => hS) ?_
    clear hK K
    refine Wk.one (i := 7) (at_lit rfl) (by kernel_rfl) (fun K hK => ?_)
    go_simp
    refine (cH _).mono ?_
    rintro e w2 ⟨rfl, hgA⟩
    have hg0 := hg0.trans hgA
    have x0 := gr_cell hgA x0
    have x1 := gr_cell hgA x1
    have y0p := y0
    have y1p := y1
    have y0 := gr_cell hgA y0
    have y1 := gr_cell hgA y1
    have f0 := (hgA.frozen (a := ⟨w.heap.size, 0, none⟩) (World.block_lt_of_cell? _ _ y0p)).trans f0
    have f1 := (hgA.frozen (a := ⟨w.heap.size, 1, none⟩) (World.block_lt_of_cell? _ _ y1p)).trans f1
    have hS : (fun w' : World => w'.cell? ⟨w.heap.size + 1, 0, none⟩ = some (.int .i64 n) ∧ w'.cell? ⟨w.heap.size + 1, 1, none⟩ = some (.int .i64 v)) w2 := ⟨x0, x1⟩
    refine hK _ _ (fun _ => hS) ?_
    clear hK K
    refine Wk.one (i := 8) (at_lit rfl) (by kernel_rfl) (fun K hK => ?_)
    go_simp
    refine hK _ _ (fun _ => hS) ?_
    clear hK K
    refine Wk.one (i := 9) (at_lit rfl) (by kernel_rfl) (fun K hK => ?_)
    go_simp
    refine hK _ _ (fun _ => hS) ?_
    clear hK K
    refine Wk.one (i := 10) (at_lit rfl) (by kernel_rfl) (fun K hK => ?_)
    go_simp
    refine hK _ _ (fun _ => hS) ?_
    clear hK K
    refine Wk.one (i := 11) (at_lit rfl) (by kernel_rfl) (fun K hK => ?_)
    go_simp
    refine (cA _).mono ?_
    rintro e w2 ⟨rfl, hgB⟩
    have hg0 := hg0.trans hgB
    have x0 := gr_cell hgB x0
    have x1 := gr_cell hgB x1
    have y0p := y0
    have y1p := y1
    have y0 := gr_cell hgB y0
    have y1 := gr_cell hgB y1
    have f0 := (hgB.frozen (a := ⟨w.heap.size, 0, none⟩) (World.block_lt_of_cell? _ _ y0p)).trans f0
    have f1 := (hgB.frozen (a := ⟨w.heap.size, 1, none⟩) (World.block_lt_of_cell? _ _ y1p)).trans f1
    have hS : (fun w' : World => w'.cell? ⟨w.heap.size + 1, 0, none⟩ = some (.int .i64 n) ∧ w'.cell? ⟨w.heap.size + 1, 1, none⟩ = some (.int .i64 v)) w2 := ⟨x0, x1⟩
    refine hK _ _ (fun _ => hS) ?_
    clear hK K
    refine Wk.take (i := 12) (v := ?_) (at_lit rfl) (at_lit rfl) (by kernel_rfl) (by kernel_rfl) (by kernel_rfl) (by kernel_rfl) rfl (fun _ _ _ h => h) ?_ hS ?_
    rotate_left 1
    · intro w' hSw
      obtain ⟨s0, s1⟩ := hSw
      go_simp
      first | done | rfl
    simp only [Act.put, List.setIfInBounds_toArray, List.set_cons_zero, List.set_cons_succ]
    refine Wk.one (i := 13) (at_lit rfl) (by kernel_rfl) (fun K hK => ?_)
    go_simp
    obtain ⟨z0, z1⟩ := box_set2 y0 y1 (.int .i64 n) (.int .i64 v)
    have hg := gr_set2 hg0 (.int .i64 n) (.int .i64 v)
    refine hK _ _ (fun _ => ?_) ?_
    · refine ⟨?_, ?_⟩
      · rw [World.cell?_setCell_other (h := by simp), World.cell?_setCell_other (h := by simp)]; exact x0
      · rw [World.cell?_setCell_other (h := by simp), World.cell?_setCell_other (h := by simp)]; exact x1
    clear hK K
    generalize World.setCell _ _ _ = W at *
    refine Wk.one (i := 14) (at_lit rfl) (by kernel_rfl) (fun K hK => ?_)
    go_simp
    refine hK _ _ (fun h => absurd rfl h) ?_
    clear hK K
    refine Wk.done (by kernel_rfl) ?_
    go_wp2
    refine bodyPost_ret (v := .tuple #[.agg #[.int .i64 n, .int .i64 v], .bool m]) (by simp [results, Tryz.results74, go_sem, z0, z1]) rfl ⟨n, v, _, rfl, hg, ?_⟩
    first | exact HE.out | simpa using HE.out
set_option maxRecDepth 100000 in
theorem nthW_any (s : ByteArray) (w : World) (hT : TbR w) (hb : s.size ≤ 100000) : Calls Tryz.prog 74 #[.string s] w (NwR s.data.toList w) := by
  by_cases h : s.size ≤ 2
  · exact nw_short s w hT h
  · exact nw_long s w hT (by omega) hb
end Go.Proofs.YtleeklcpbflfhaaGreatDoor
namespace Go.Proofs.YtleeklcpbflfhaaGreatDoor
open Go.RowKit Go.Shelf
attribute [local go_sem] Oper.semAt_some

theorem own2_block {w : World} {B : Nat} {e : TypeId} {A : Option Addr} {n c : Nat} {xs : List Value} (h : Own2 w B e A n c xs) : ∀ ad, A = some ad → B ≤ ad.block ∧ ad.block < w.heap.size := by
  intro ad e
  subst e
  rcases h.2 with ⟨hn, rfl⟩ | ⟨g, cap, cur, hv, hb, hh, _⟩
  · cases hn
  · injection hv with h1
    cases h1
    exact ⟨hb, (Array.getElem?_eq_some_iff.1 hh).1⟩
set_option maxRecDepth 100000 in
set_option maxHeartbeats 8000000 in
theorem rlD_any (s : ByteArray) (w : World) (hT : TbR w) (hs : s.size ≤ 100000) :
    Calls Tryz.prog 73 #[.string s, .func (.func 74) #[] #[], .func (.func 32) #[] #[]] w fun e w' =>
      ∃ A n c q, e = .returned (.tuple #[.slice A n c, .bool q]) ∧ Gr w w' ∧ Hid (NewD w w' (Rm.ldr s.data.toList) A n q) := by
  have cS := fun w => splitSeq_any s 44 w
  refine (callsIn_wide (n := 3)).1 ?_
  refine callsIn_of_wp_marks Tryz.func73 rfl trivial ?_ rfl
  refine wpIn_wide.2 ?_
  simp only [Tryz.ntmps73, List.size_toArray, List.length_cons, List.length_nil, Nat.reduceAdd, Nat.reduceSub, Array.replicate_succ, Array.replicate_zero, List.push_toArray, List.append_toArray, List.nil_append, List.cons_append]
  generalize hF : Value.func (.func 74) #[] #[] = F
  generalize hG : Value.func (.func 32) #[] #[] = G
  go_wp2_with fail
  refine (cS _).mono ?_
  rintro e W0 ⟨rfl, hg0, hz0, k0, k1, k2, k3⟩
  go_wp2
  obtain ⟨z1, hLB, x4⟩ := boxes5 w F G (.slice none 0 0) 109 59 25 4 25 _ rfl
  have hz : W0.heap.size = w.heap.size + 1 + 1 + 1 + 1 + 1 + 3 := by rw [hz0, z1]
  have hLB0 := hLB.sm (hg0.sm (fun _ => True)) (fun _ _ => trivial)
  have x4 := hg0.keeps (by omega) x4
  rw [z1] at k0 k1 k2 k3
  have hseq := split_seq s 44 (w.heap.size + 5) (w.heap.size + 5 + 1) (w.heap.size + 5 + 2) W0 (by omega) k0 k3 k1 k2 (by omega) (by omega)
  clear k0 k1 k2 k3 z1 hz0 hg0 cS hLB
  have hcnt := Rm.cutB_count 44 s.data.toList
  rw [← Lib.size_eq] at hcnt
  have hxlen := (Rm.cutB_len 44 s.data.toList).2
  rw [← Lib.size_eq] at hxlen
  refine (wpIn_wide (n := 3)).1 ?_
  refine rangeB (n := 3) rfl (enters_of Tryz.func127 (by kernel_rfl) rfl) (fun _ => rfl) (Kb := fun k => k < W0.heap.size + 2 ∧ k ≠ w.heap.size + 1 + 1 ∧ k ≠ w.heap.size + 1 + 1 + 1 ∧ k ≠ w.heap.size + 1 + 1 + 1 + 1) hseq
    (by omega) (by omega) (by omega) (by omega) (by omega)
    (fun pre W => ∃ A n c xs, W.cell? ⟨w.heap.size + 1 + 1 + 1 + 1, 0, none⟩ = some (.slice A n c) ∧ Own2 W (W0.heap.size + 2) 49 A n c (cel2 dv1 dv2 xs) ∧ Hid (Rm.ldrF pre = some xs) ∧ Hid (xs.Pairwise (fun x y => Rm.bef x y = true)) ∧ Hid (n ≤ pre.length) ∧ LB w.heap.size F G w W)
    (fun c pre W => c = .ret ∧ Hid (Rm.ldrF pre = none) ∧ LB w.heap.size F G w W)
    ?hI ?hIx ⟨none, 0, 0, [], x4, Own2.nil _ _ _, Lib.hid rfl, Lib.hid List.Pairwise.nil, Lib.hid (Nat.le_refl _), hLB0⟩
    (fun x => { tmps := #[.string s, F, G, undef, .pointer (some ⟨w.heap.size, 0, none⟩), .pointer (some ⟨w.heap.size + 1, 0, none⟩), .pointer (some ⟨w.heap.size + 1 + 1, 0, none⟩), .pointer (some ⟨w.heap.size + 1 + 1 + 1, 0, none⟩), .pointer (some ⟨w.heap.size + 1 + 1 + 1 + 1, 0, none⟩), .string ⟨x.toArray⟩, undef, undef, undef, undef, .string s,
      .func (.func 127) #[] #[.pointer (some ⟨w.heap.size + 1 + 1 + 1 + 1 + 1 + 1, 0, none⟩), .pointer (some ⟨w.heap.size + 1 + 1 + 1 + 1 + 1, 0, none⟩), .pointer (some ⟨w.heap.size + 1 + 1 + 1 + 1 + 1 + 2, 0, none⟩)],
      .string ⟨x.toArray⟩, undef, undef, undef, undef, undef, undef, undef, undef, undef, undef, undef, undef, undef, undef, undef, undef, undef, undef, undef, undef, undef, undef, undef], defers := [] }) ?assign ?body ?done ?stop
  case hI =>
    rintro pre W W' ⟨A, n, c, xs, c4, ho, hf, hx, hn, hb⟩ hs
    have hl := hb.lt
    exact ⟨A, n, c, xs, hs.cell (by dsimp only; omega) c4, ho.sm hs (fun k hk => by omega), hf, hx, hn, hb.sm hs (fun k hk => by omega)⟩
  case hIx =>
    rintro c pre W W' ⟨rfl, hf, hb⟩ hs
    exact ⟨rfl, hf, hb.sm hs (fun k hk => by omega)⟩
  case assign =>
    intro l x W K hK
    gi_wp2
    exact hK
  case body =>
    rintro l pre x W hzW ⟨A, n, c, xs, c4, ho, hf, hx, hn, hb⟩ hpre
    have hpl : pre.length ≤ s.size + 1 := by
      obtain ⟨r, hr⟩ := hpre
      rw [← hr] at hcnt
      simp at hcnt; omega
    have hxl := hxlen x (by obtain ⟨r, hr⟩ := hpre; rw [← hr]; simp)
    have cN := fun w hT => nthW_any ⟨x.toArray⟩ w hT (by rw [size_mk]; omega)
    rw [show (ByteArray.mk x.toArray).data.toList = x from rfl] at cN
    have hTW : TbR W := hT.gr ⟨hb.b⟩
    have HPL := Lib.hid hpl
    have c0 := hb.c0
    have c1 := hb.c1
    clear hpl hcnt hpre hseq x4 hxl hT
    generalize (ByteArray.mk x.toArray) = X at *
    rw [← hF, ← hG] at hb
    have HB := Lib.hid hb
    clear hb
    rw [← hF] at c0 ⊢
    rw [← hG] at c1 ⊢
    clear hF hG
    gi_wp2_with fail
    refine ⟨trivial, ?_⟩
    gi_at_call 74
    refine (CallsIn.inRound l (callsIn_wide.2 (cN _ hTW))).mono ?_
    rintro e w1 ⟨v1, v2, q, rfl, hg1, hq⟩
    have HB1 := Lib.hid (HB.out.sm (hg1.sm (fun _ => True)) (fun _ _ => trivial))
    have ho1 := ho.gr hg1
    have d4 := gr_cell hg1 c4
    have d1 := gr_cell hg1 c1
    have hl := HB.out.lt
    have hl1 := hg1.lt
    clear cN
    rcases hq with ⟨rfl, h1⟩ | ⟨rfl, h1⟩
    · have HR := Lib.hid (Rm.ldrF_yes hf.out h1)
      have hgA : Gr w1 (w1.alloc (.cells #[.int .i64 v1, .int .i64 v2] 49)) := (Gr.refl w1).allocO _
      have hoA := Own2.gr ho1 hgA
      have hN := hoA.pr
      have dA4 := gr_cell hgA d4
      have dA1 := gr_cell hgA d1
      have HBA := Lib.hid (HB1.out.sm (hgA.sm (fun _ => True)) (fun _ _ => trivial))
      have hlA := hgA.lt
      have hxl : xs.length = n := hN.1
      have hn6 : n ≤ 1000000 := by have := hn.out; have := HPL.out; omega
      have cB := Lib.hid (bsD_any A n c xs (v1, v2) _ hN hn6 (Rm.insD_sr_iff.1 hx.out))
      clear h1 hN
      gi_wp2_with fail
      refine ⟨trivial, ?_⟩
      gi_at_call 102
      refine (CallsIn.inRound l (callsIn_wide.2 cB.out)).mono ?_
      rintro e w2 ⟨P, q, rfl, hg2, hP, hb1, hb2, hb3⟩
      have hI := Rm.insD_at xs P (v1, v2) hx.out (by rw [hxl]; exact hP) hb1 hb2
      have HK := Lib.hid (Rm.insD_keep xs P (v1, v2) hx.out (by rw [hxl]; exact hP) hb1 hb2)
      clear cB hb1 hb2
      have hg12 := hgA.trans hg2
      have ho2 := Own2.gr ho1 hg12
      have d4 := gr_cell hg12 d4
      have HB2 := Lib.hid (HB1.out.sm (hg12.sm (fun _ => True)) (fun _ _ => trivial))
      have hl2 := hg12.lt
      have t0 : (w1.alloc (.cells #[.int .i64 v1, .int .i64 v2] 49)).cell? ⟨w1.heap.size, 0, none⟩ = some (.int .i64 v1) := by simp
      have t1 : (w1.alloc (.cells #[.int .i64 v1, .int .i64 v2] 49)).cell? ⟨w1.heap.size, 1, none⟩ = some (.int .i64 v2) := by simp
      have t0 := gr_cell hg2 t0
      have t1 := gr_cell hg2 t1
      rcases q
      · have HE := Lib.hid (hI.2 (fun h => by have := hb3.2 h; cases this))
        have HR2 := Lib.hid (show Rm.ldrF (pre ++ [x]) = some (xs.take P ++ (v1, v2) :: xs.drop P) by rw [HR.out, HE.out])
        have HK2 := Lib.hid (show (xs.take P ++ (v1, v2) :: xs.drop P).Pairwise (fun x y => Rm.bef x y = true) by rw [← HE.out]; exact HK.out)
        clear hI hb3
        have hBl : W0.heap.size + 2 ≤ w2.heap.size := Nat.le_trans hzW (Nat.le_trans hl1 hl2)
        have cI := insW_any (W0.heap.size + 2) A n c w2.heap.size P xs v1 v2 (w2.alloc (.cells #[.int .i64 v1, .int .i64 v2] 49)) (by simp; omega) (Own2.gr ho2 ((Gr.refl w2).allocO _)) (heap_alloc_new w2 _) (fun ad e => by have := own2_block ho2 ad e; omega) hP hn6
        have hsa : Sm (fun k => k < w2.heap.size) w2 (w2.alloc (.cells #[.int .i64 v1, .int .i64 v2] 49)) := sm_alloc _ w2 _
        gi_wp2_with fail
        refine ⟨trivial, ?_⟩
        gi_at_call 103
        refine (CallsIn.inRound l (callsIn_wide.2 cI)).mono ?_
        rintro e w3 ⟨A', c', rfl, ho3, hs3, hn3⟩
        have hOth : ∀ k, k < W0.heap.size + 2 → Oth A k := fun k hk ad e => by have := own2_block ho2 ad e; omega
        have hs4 : Sm (fun k => k < W0.heap.size + 2) w2 w3 := (hsa.weak (fun k hk => by omega)).trans (hs3.weak hOth)
        have HB3 := Lib.hid (HB2.out.sm hs4 (fun k hk => by omega))
        have e4 := hs4.cell (by dsimp only; omega) d4
        have f4 := HB3.out.f4
        clear cI
        gi_wp2
        refine ⟨((hg1.trans hg12).sm _).trans ((hs4.weak (fun k hk => hk.1)).trans (Sm.setCell _ _ _ _ (fun h => h.2.2.2 rfl))), A', _, c', _, World.cell?_setCell_same _ _ _ e4, ho3.sm (Sm.setCell (fun k => W0.heap.size + 2 ≤ k) _ _ _ (by dsimp only; omega)) (fun k hk => hk), HR2, HK2, Lib.hid (by have := hn.out; simp; omega), ?_⟩
        exact HB3.out.put _
      · have HE := Lib.hid (hI.1 (hb3.1 rfl))
        clear hI hb3
        gi_wp2
        rw [HE.out] at HR
        exact ⟨(hg1.trans hg12).sm _, A, n, c, xs, d4, ho2, HR, hx, Lib.hid (by have := hn.out; simp; omega), HB2.out⟩
    · have HR := Lib.hid (Rm.ldrF_no (pre := pre) (x := x) h1)
      have hgA : Gr w1 (w1.alloc (.cells #[.int .i64 v1, .int .i64 v2] 49)) := (Gr.refl w1).allocO _
      have HBA := Lib.hid (HB1.out.sm (hgA.sm (fun _ => True)) (fun _ _ => trivial))
      have HBr := Lib.hid HBA.out.ret
      have d2 := HBA.out.c2
      have d3 := HBA.out.c3
      have f2 := HBA.out.f2
      have f3 := HBA.out.f3
      clear h1
      gi_wp2
      exact ⟨((hg1.trans hgA).sm _).trans ((Sm.setCell _ _ _ _ (fun h => h.2.1 rfl)).trans (Sm.setCell _ _ _ _ (fun h => h.2.2.1 rfl))), rfl, HR, HBr.out⟩
  case done =>
    rintro D W hD ⟨A, n, c, xs, c4, ho, hf, hx, hn, hb⟩ hK
    have c2 := hb.c2
    have c3 := hb.c3
    have f2 := hb.f2
    have f3 := hb.f3
    have hDW := (Array.getElem?_eq_some_iff.1 hK).1
    have hl := hb.lt
    have HD := Lib.hid hD
    have HB := Lib.hid hb
    clear hD hb hseq x4
    go_wp2
    have hD := HD.out
    have hK3 : ((W.setCell ⟨w.heap.size + 1 + 1, 0, none⟩ (.slice A n c)).setCell ⟨w.heap.size + 1 + 1 + 1, 0, none⟩ (.bool true)).heap[D]? = some (.deferred (some [])) := by
      rw [Below.heap_setCell _ _ _ _ (by dsimp only; omega), Below.heap_setCell _ _ _ _ (by dsimp only; omega)]; exact hK
    have hb3 := (HB.out.b.setCell (p := ⟨w.heap.size + 1 + 1, 0, none⟩) (by dsimp only; omega) (.slice A n c)).setCell (p := ⟨w.heap.size + 1 + 1 + 1, 0, none⟩) (by dsimp only; omega) (.bool true)
    have ho3 := (ho.sm (Sm.setCell (fun k => W0.heap.size + 2 ≤ k) W ⟨w.heap.size + 1 + 1, 0, none⟩ (.slice A n c) (by dsimp only; omega)) (fun k hk => hk)).sm (Sm.setCell (fun k => W0.heap.size + 2 ≤ k) _ ⟨w.heap.size + 1 + 1 + 1, 0, none⟩ (.bool true) (by dsimp only; omega)) (fun k hk => hk)
    refine leave_mark rfl hK3 (results_cells2 rfl _ _ rfl rfl (load_var1 (Tryz.isAgg25 _) (putObj_cell hK3 (end2 c2))) (load_var1 (Tryz.isAgg4 _) (putObj_cell hK3 (end3 c3)))) ?_
    have ho4 := ho3.sm (Sm.putObj (fun k => W0.heap.size + 2 ≤ k) _ (l := D) (.deferred none) (by omega)) (fun k hk => hk)
    have hN := ho4.pr
    have hNb := own2_block ho4
    refine ⟨A, n, c, true, rfl, ⟨hb3.trans ((Sm.putObj (fun k => k < w.heap.size) _ _ (by omega)).below (fun k hk => hk) hb3.size)⟩, Lib.hid (Or.inl ⟨rfl, xs, ?_, hN, fun _ ad e => by have := hNb ad e; omega⟩)⟩
    rw [← Rm.ldrF_all]
    exact hf.out
  case stop =>
    rintro D c pre W hD hpre ⟨rfl, hf, hb⟩ hK
    have c2 := hb.c2
    have c3 := hb.c3
    refine wpIn_wide.2 ?_
    go_wp2
    refine leave_mark rfl hK (results_cells2 rfl _ _ rfl rfl (load_var1 (Tryz.isAgg25 _) (putObj_cell hK c2)) (load_var1 (Tryz.isAgg4 _) (putObj_cell hK c3))) ?_
    have hlt := hb.b.size
    have hDW := (Array.getElem?_eq_some_iff.1 hK).1
    refine ⟨none, 0, 0, false, rfl, ⟨hb.b.trans ((Sm.putObj (fun k => k < w.heap.size) W _ (by omega)).below (fun k hk => hk) hlt)⟩, Lib.hid (Or.inr ⟨rfl, ?_⟩)⟩
    exact Rm.ldrF_none hpre hf.out
end Go.Proofs.YtleeklcpbflfhaaGreatDoor
namespace Go.Proofs.YtleeklcpbflfhaaGreatDoor
open Go.RowKit

theorem rdok_any (p : List UInt8 × List UInt8) (hn : p.1 ∈ Rm.names) (hl : p.2.length ≤ 100000) : RdOk p := by
  obtain ⟨nm, tx⟩ := p
  dsimp only at hn hl
  unfold Rm.names at hn
  simp only [List.mem_cons, List.not_mem_nil, or_false] at hn
  have hday : RdOk (Rm.nBYDAY, tx) := rd_day tx (fun w hT => rlD_any ⟨tx.toArray⟩ w hT (by rw [size_mk]; exact hl))
  have hls : ∀ i, i < 8 → RdOk (Rm.nmL i, tx) := fun i hi => rd_ls hi tx (rdns_any hi tx hl)
  rcases hn with rfl | rfl | rfl | rfl | rfl | rfl | rfl | rfl | rfl | rfl | rfl | rfl | rfl | rfl
  all_goals first
    | exact rd_freq tx
    | exact rd_ivl tx
    | exact rd_cnt tx
    | exact rd_unt tx (by omega)
    | exact rd_st tx
    | exact hday
    | exact hls 0 (by decide)
    | exact hls 1 (by decide)
    | exact hls 2 (by decide)
    | exact hls 3 (by decide)
    | exact hls 4 (by decide)
    | exact hls 5 (by decide)
    | exact hls 6 (by decide)
    | exact hls 7 (by decide)
theorem parsed_any (s : ByteArray) (w : World) (hT : TbR w) (hs : s.size ≤ 100000) :
    Calls Tryz.prog 12 #[.string s] w fun e w' => ∃ V : Rm.Rv, e = .returned (.tuple #[.agg V.val, .int .i64 ((Rm.rdR s.data.toList).2 : Int)]) ∧ V.r = (Rm.rdR s.data.toList).1 ∧ RuM w' w'.heap.size V ∧ Gr w w' := by
  refine parse_any (fun V w h => formed_any V w h) s w hT hs (fun ps h p hp => ?_)
  obtain ⟨h1, h2⟩ := Rm.cps_mem h p hp
  refine rdok_any p h1 ?_
  rw [List.length_map, ← Lib.size_eq] at h2
  omega
end Go.Proofs.YtleeklcpbflfhaaGreatDoor
