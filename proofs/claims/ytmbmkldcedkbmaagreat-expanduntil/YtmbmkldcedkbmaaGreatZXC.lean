/- The texts Xs, Xw, Xp, one behind the other. -/
import Derived.Test.YtmbmkldcedkbmaaGreatZXB
import Derived.Test.YtmbmkldcedkbmaaGreatZXA
import Derived.Test.YtmbmkldcedkbmaaGreatZB
import Derived.Test.YtmbmkldcedkbmaaGreatZO
import Derived.Test.YtmbmkldcedkbmaaGreatZRcLoad
import Derived.Test.YtmbmkldcedkbmaaGreatZK
namespace Go.Proofs.YtmbmkldcedkbmaaGreat
open Go.RowKit

/- numbers as cells -/
def ivs (l : List Int) : List Value := l.map fun x => .int .i64 x
theorem ivs_app (a b : List Int) : ivs (a ++ b) = ivs a ++ ivs b := by simp [ivs]
theorem ivs_len {w : World} {B : Nat} {e : TypeId} {A : Option Addr} {n c : Nat} {xs : List Int} (h : OwnV w B e A n c (ivs xs)) : xs.length = n := by have := h.len; simpa [ivs] using this
theorem own_numK {w : World} {B : Nat} {e : TypeId} {A : Option Addr} {n c : Nat} {xs : List Int} (h : OwnV w B e A n c (ivs xs)) : NumK w (fun k => B ≤ k) A n xs := by
  refine ⟨ivs_len h, fun hn => ?_⟩
  obtain ⟨g, rfl, hb, hlt, hc⟩ := h.cells hn
  exact ⟨_, rfl, hb, hlt, fun j u hu => hc j _ (by unfold ivs; rw [List.getElem?_map, hu]; rfl)⟩
theorem NumK.weak {w : World} {K K' : Nat → Prop} {A : Option Addr} {n : Nat} {xs : List Int} (h : NumK w K A n xs) (hK : ∀ k, k < w.heap.size → K k → K' k) : NumK w K' A n xs :=
  ⟨h.1, fun hn => by
    obtain ⟨ad, e, hk, hb, hc⟩ := h.2 hn
    exact ⟨ad, e, hK _ hb hk, hb, hc⟩⟩
/- a list that lies off a row that grows -/
abbrev Off (w : World) (R A : Option Addr) (n : Nat) (xs : List Int) : Prop := NumK w (fun k => some k ≠ ownB R) A n xs
theorem Off.ap {w w' : World} {B : Nat} {e : TypeId} {R : Option Addr} {m g cap : Nat} {ys : List Value} {u : Value} {A : Option Addr} {n : Nat} {xs : List Int} (h : Off w R A n xs) (ha : ApR w w' B e R m ys u g cap) : Off w' (some ⟨g, 0, none⟩) A n xs :=
  ⟨h.1, fun hn => by
    obtain ⟨ad, e, hk, hb, hc⟩ := h.2 hn
    refine ⟨ad, e, ?_, Nat.lt_of_lt_of_le hb ha.sm.size, fun j u hu => ha.sm.cell (by rw [add_block]; exact hk) (hc j u hu)⟩
    intro h2
    have h3 : ad.block = g := by simpa [ownB] using h2
    rcases ha.lies with h4 | h4
    · rw [h4, ← h3] at hk; exact hk rfl
    · omega⟩
theorem Off.gr {w w' : World} {R A : Option Addr} {n : Nat} {xs : List Int} (h : Off w R A n xs) (hg : Gr w w') : Off w' R A n xs := h.sm (hg.sm (fun _ => True)) (fun _ _ _ => trivial)
theorem ApR.gr {w0 w w' : World} {B : Nat} {e : TypeId} {R : Option Addr} {m c g cap : Nat} {ys : List Value} {u : Value} (ha : ApR w w' B e R m ys u g cap) (ho : OwnV w B e R m c ys) (hB : w0.heap.size ≤ B) (hg : Gr w0 w) : Gr w0 w' :=
  ⟨hg.below.trans (ha.sm.below (fun k hk => by
    rcases own_at ho with rfl | ⟨g2, rfl, h2, _⟩
    · simp [ownB]
    · simp [ownB]; omega) hg.lt)⟩
/- the list, or what the begin has: a list that lies below, or in a block just made -/
theorem orBegin_any (A : Option Addr) (n c : Nat) (xs : List Int) (b : Int) (w : World) (h : Nums w w.heap.size A n xs) (hn : n ≤ 1000000) :
    Calls Tryz.prog 70 #[.slice A n c, .int .i64 b] w fun e w' => ∃ A' n' c', e = .returned (.slice A' n' c') ∧ Gr w w' ∧ NumK w' (fun k => w.heap.size ≤ k ∨ (0 < n ∧ ∃ ad, A = some ad ∧ ad.block = k)) A' n' (Ex.ob xs b) ∧ n' ≤ n + 1 := by
  have hl := h.1
  rcases Nat.eq_zero_or_pos n with h0 | h0
  · subst h0
    have hx : xs = [] := List.eq_nil_of_length_eq_zero hl
    subst hx
    have hg : Gr w (w.alloc (.cells #[.int .i64 b] 3)) := (Gr.refl w).allocO _
    have hc : (w.alloc (.cells #[.int .i64 b] 3)).cell? ⟨w.heap.size, 0, none⟩ = some (.int .i64 b) := by simp
    have hz : (w.alloc (.cells #[.int .i64 b] 3)).heap.size = w.heap.size + 1 := by simp
    go_enter Tryz.func70, Tryz.ntmps70
    go_wp2
    go_ret
    refine ⟨_, 1, 1, rfl, hg, ⟨rfl, fun _ => ⟨_, rfl, .inl (Nat.le_refl _), by rw [hz]; exact Nat.lt_succ_self _, fun j u hu => ?_⟩⟩, by omega⟩
    rcases j with _ | j
    · cases hu; exact hc
    · cases hu
  · have hne : xs ≠ [] := fun e => by rw [e] at hl; simp at hl; omega
    have HN := Lib.hid (show NumK w (fun k => w.heap.size ≤ k ∨ (0 < n ∧ ∃ ad, A = some ad ∧ ad.block = k)) A n (Ex.ob xs b) by
      unfold Ex.ob
      rw [if_neg hne]
      exact ⟨hl, fun hn => by
        obtain ⟨ad, e, hb, hc⟩ := h.2 hn
        exact ⟨ad, e, .inr ⟨hn, ad, e, rfl⟩, hb, hc⟩⟩)
    have hn0 : (n : Int) ≠ 0 := by omega
    clear h hl hne
    go_enter Tryz.func70, Tryz.ntmps70
    go_wp2
    go_ret
    exact ⟨A, n, c, rfl, Gr.refl _, HN.out, by omega⟩
namespace Ex
theorem prodS_snoc {h m s : List Int} {k : Nat} (hk : k < h.length) : prodS (h.take (k + 1)) m s = prodS (h.take k) m s ++ prodS [h[k]] m s := by
  unfold prodS
  rw [List.take_succ_eq_append_getElem hk, List.flatMap_append]
theorem prodS_two {a : Int} {m s : List Int} {k : Nat} (hk : k < m.length) : prodS [a] (m.take (k + 1)) s = prodS [a] (m.take k) s ++ s.map (fun c => (a * 60 + m[k]) * 60 + c) := by
  unfold prodS
  simp only [List.flatMap_cons, List.flatMap_nil, List.append_nil]
  rw [List.take_succ_eq_append_getElem hk, List.flatMap_append]
  simp
theorem prodS_len (h m s : List Int) : (prodS h m s).length = h.length * (m.length * s.length) := by
  unfold prodS
  induction h with
  | nil => simp
  | cons a h ih =>
    rw [List.flatMap_cons, List.length_append, ih, List.length_cons, Nat.add_mul, Nat.one_mul, Nat.add_comm]
    congr 1
    clear ih
    induction m with
    | nil => simp
    | cons b m ih => rw [List.flatMap_cons, List.length_append, ih, List.length_cons, Nat.add_mul, Nat.one_mul, List.length_map, Nat.add_comm]
end Ex
set_option maxRecDepth 100000 in
set_option maxHeartbeats 8000000 in
theorem seconds_any (V : Rm.Rv) (b : Int) (w : World) (hM : RuM w w.heap.size V) (hf : Rm.fm V.r = true) (hb : Clk.okB b = true) :
    Calls Tryz.prog 36 #[.agg V.val, .int .i64 b] w fun e w' => ∃ A n c, e = .returned (.slice A n c) ∧ Gr w w' ∧ Hid (OwnV w' w.heap.size 3 A n c (ivs (Ex.secs V.r (b % 86400)))) := by
  have hfl : Rm.fine 0 V.r.sec = true ∧ Rm.fine 1 V.r.min = true ∧ Rm.fine 2 V.r.hour = true := by
    unfold Rm.fm Rm.fmL at hf
    simp only [Bool.and_eq_true] at hf
    obtain ⟨⟨_, h⟩, _⟩ := hf
    exact ⟨h.1.1.1.1.1.1.1.1, h.1.1.1.1.1.1.1.2, h.1.1.1.1.1.1.2⟩
  obtain ⟨f0, f1, f2⟩ := hfl
  have hsec := Ex.secs_prod (r := V.r) (b := b % 86400) f0 f1 f2 (by omega) (by omega)
  rw [show b % 86400 / 60 % 60 = b % 3600 / 60 by omega, show b % 86400 % 60 = b % 60 by omega] at hsec
  obtain ⟨l0, _, m0, _, _⟩ := Ex.fine_bd f0
  obtain ⟨l1, _, m1, _, _⟩ := Ex.fine_bd f1
  obtain ⟨l2, _, _, m2, _⟩ := Ex.fine_bd f2
  have B0 := Ex.ob_bd (m0 (.inl rfl)) (b := b % 60) (by omega)
  have B1 := Ex.ob_bd (m1 (.inr rfl)) (b := b % 3600 / 60) (by omega)
  have B2 := Ex.ob_bd (m2 rfl) (b := b % 86400 / 3600) (by omega)
  have hN2 := hM.l 2 (by omega)
  have hN1 := hM.l 1 (by omega)
  have hN0 := hM.l 0 (by omega)
  have e2 := hN2.1
  have e1 := hN1.1
  have e0 := hN0.1
  change V.r.hour.length = V.hour.n at e2
  change V.r.min.length = V.min.n at e1
  change V.r.sec.length = V.sec.n at e0
  change Nums w w.heap.size V.hour.A V.hour.n V.r.hour at hN2
  change Nums w w.heap.size V.min.A V.min.n V.r.min at hN1
  change Nums w w.heap.size V.sec.A V.sec.n V.r.sec at hN0
  have hbx := RBx.now w V 27
  have hg : Gr w (w.alloc (.cells V.val 27)) := (Gr.refl w).allocO _
  have q2 := hbx.c10
  have q1 := hbx.c9
  have q0 := hbx.c8
  rw [hsec]
  clear hsec f0 f1 f2 m0 m1 m2 hf hbx hM
  have cO2 := fun w' (h : Gr w w') => orBegin_any V.hour.A V.hour.n V.hour.c V.r.hour (b % 86400 / 3600) w' (hN2.gr h) (by omega)
  have cO1 := fun w' (h : Gr w w') => orBegin_any V.min.A V.min.n V.min.c V.r.min (b % 3600 / 60) w' (hN1.gr h) (by omega)
  have cO0 := fun w' (h : Gr w w') => orBegin_any V.sec.A V.sec.n V.sec.c V.r.sec (b % 60) w' (hN0.gr h) (by omega)
  have L2 : V.hour.n ≤ 40 := by omega
  have L1 : V.min.n ≤ 40 := by omega
  have L0 : V.sec.n ≤ 40 := by omega
  have O1 : ∀ k, (0 < V.min.n ∧ ∃ ad, V.min.A = some ad ∧ ad.block = k) → k < w.heap.size := by
    rintro k ⟨hn, ad, e, rfl⟩
    obtain ⟨ad2, e2, hb2, _⟩ := hN1.2 hn
    rw [e] at e2; cases e2; exact hb2
  have O0 : ∀ k, (0 < V.sec.n ∧ ∃ ad, V.sec.A = some ad ∧ ad.block = k) → k < w.heap.size := by
    rintro k ⟨hn, ad, e, rfl⟩
    obtain ⟨ad2, e2, hb2, _⟩ := hN0.2 hn
    rw [e] at e2; cases e2; exact hb2
  generalize Ex.ob V.r.hour (b % 86400 / 3600) = HS at *
  generalize Ex.ob V.r.min (b % 3600 / 60) = MS at *
  generalize Ex.ob V.r.sec (b % 60) = SS at *
  have HB2 := Lib.hid B2
  have HB1 := Lib.hid B1
  have HB0 := Lib.hid B0
  have HO1 := Lib.hid O1
  have HO0 := Lib.hid O0
  clear B0 B1 B2 O0 O1 hN0 hN1 hN2 e0 e1 e2 l0 l1 l2
  go_enter Tryz.func36, Tryz.ntmps36
  have hz0 : (w.alloc (.cells V.val 27)).heap.size = w.heap.size + 1 := by simp
  go_wp2_with fail
  refine (cparts_yes b _ hb).mono ?_
  rintro e W1 ⟨rfl, hg1⟩
  have q2 := gr_cell hg1 q2
  have q1 := gr_cell hg1 q1
  have q0 := gr_cell hg1 q0
  have hgw := hg.trans hg1
  clear hg1 hg
  go_upto_region 3 with fail
  obtain ⟨x0, x1, x2⟩ := box3 (Gr.refl ((W1.alloc (.cells #[.int .i64 (Cal.yr (b / 86400)), .int .i64 (Cal.mon (b / 86400)), .int .i64 (Cal.dom (b / 86400))] 85)).alloc (.cells #[.int .i64 (b % 86400 / 3600), .int .i64 (b % 3600 / 60), .int .i64 (b % 60)] 105)))
  have hs1 : (W1.alloc (.cells #[.int .i64 (Cal.yr (b / 86400)), .int .i64 (Cal.mon (b / 86400)), .int .i64 (Cal.dom (b / 86400))] 85)).heap.size = W1.heap.size + 1 := by simp
  rw [hs1] at x0 x1 x2
  have hg2 : Gr W1 ((W1.alloc (.cells #[.int .i64 (Cal.yr (b / 86400)), .int .i64 (Cal.mon (b / 86400)), .int .i64 (Cal.dom (b / 86400))] 85)).alloc (.cells #[.int .i64 (b % 86400 / 3600), .int .i64 (b % 3600 / 60), .int .i64 (b % 60)] 105)) := ((Gr.refl _).allocO _).allocO _
  generalize ((W1.alloc (.cells #[.int .i64 (Cal.yr (b / 86400)), .int .i64 (Cal.mon (b / 86400)), .int .i64 (Cal.dom (b / 86400))] 85)).alloc (.cells #[.int .i64 (b % 86400 / 3600), .int .i64 (b % 3600 / 60), .int .i64 (b % 60)] 105)) = W2 at *
  have q2 := gr_cell hg2 q2
  have q1 := gr_cell hg2 q1
  have q0 := gr_cell hg2 q0
  have hgw := hgw.trans hg2
  clear hg2 hs1
  generalize Cal.yr (b / 86400) = yy at *
  generalize Cal.mon (b / 86400) = mm at *
  generalize Cal.dom (b / 86400) = dd at *
  go_wp2_with fail
  refine (cO2 _ hgw).mono ?_
  rintro e W3 ⟨A2, n2, c2, rfl, hg3, hK2, hn2⟩
  have hOf2 : Off W3 none A2 n2 HS := hK2.weak (fun k _ _ => by simp [ownB])
  have q1 := gr_cell hg3 q1
  have q0 := gr_cell hg3 q0
  have x1 := gr_cell hg3 x1
  have x2 := gr_cell hg3 x2
  have hgw3 := hgw.trans hg3
  have HZ := Lib.hid hgw3.lt
  clear hK2 hg3 x0 q2 cO2 hgw
  go_wp2
  go_loopg [8, 27] n2 (fun g v8 v wx => ∃ (k m cp : Nat) (R : Option Addr), v = .int .i64 (k : Int) ∧ v8 = .slice R m cp ∧ k + g = n2 ∧ m ≤ 1681 * k ∧ Hid (OwnV wx W3.heap.size 3 R m cp (ivs (Ex.prodS (HS.take k) MS SS))) ∧ Hid (Off wx R A2 n2 HS) ∧ Gr W3 wx)
  case atStart => exact ⟨0, 0, 0, none, rfl, rfl, by omega, by omega, Lib.hid (OwnV.nil _ _ _), Lib.hid hOf2, Gr.refl _⟩
  case round =>
    obtain ⟨k, m, cp, R, rfl, rfl, hkg, hmk, HO, HF, hg⟩ := hrel
    by_cases hk : k < n2
    · obtain ⟨ad, hk', rfl, d0⟩ := HF.out.at_ hk
      have hkn : (k : Int) < (n2 : Int) := by omega
      have ha := HB2.out HS[k] (List.getElem_mem hk')
      have HPk := Lib.hid (Ex.prodS_snoc (m := MS) (s := SS) hk')
      generalize HS[k] = a at *
      have p1 := gr_cell hg q1
      have y1 := gr_cell hg x1
      have HQ := Lib.hid (And.intro q0 x2)
      have HQ1 := Lib.hid (And.intro q1 x1)
      have HK := Lib.hid hkg
      clear hkg hOf2 q0 q1 x1 x2
      go_wp2_with fail
      refine (cO1 _ (hgw3.trans hg)).mono ?_
      rintro e W4 ⟨A1, n1, c1, rfl, hg4, hK1, hn1⟩
      have hF1 : Off W4 R A1 n1 MS := by
        refine hK1.weak (fun k _ h he => ?_)
        rcases own_at HO.out with rfl | ⟨gg, rfl, h2, h3⟩
        · simp [ownB] at he
        · have e9 : k = gg := by simpa [ownB] using he
          rcases h with h | h
          · omega
          · have := HO1.out k h; have := HZ.out; omega
      have HF2 := Lib.hid (HF.out.gr hg4)
      have HO2 := Lib.hid (HO.out.gr hg4)
      have hg := hg.trans hg4
      clear hK1 hg4 p1 y1 d0 HF HO
      go_wp2
      go_loopg [8, 37] n1 (fun g v8 v wx => ∃ (j m cp : Nat) (R : Option Addr), v = .int .i64 (j : Int) ∧ v8 = .slice R m cp ∧ j + g = n1 ∧ m ≤ 1681 * k + 41 * j ∧ Hid (OwnV wx W3.heap.size 3 R m cp (ivs (Ex.prodS (HS.take k) MS SS ++ Ex.prodS [a] (MS.take j) SS))) ∧ Hid (Off wx R (some ad) n2 HS) ∧ Hid (Off wx R A1 n1 MS) ∧ Gr W3 wx)
      case atStart => exact ⟨0, m, cp, R, rfl, rfl, by omega, by omega, Lib.hid (by have := HO2.out; simpa [Ex.prodS] using this), HF2, Lib.hid hF1, hg⟩
      case round =>
        obtain ⟨j, m2, cp2, R2, rfl, rfl, hjg, hmj, HO, HF, HM, hg⟩ := hrel
        by_cases hj : j < n1
        · obtain ⟨ad1, hj', rfl, d1⟩ := HM.out.at_ hj
          have hjn : (j : Int) < (n1 : Int) := by omega
          have hb1 := HB1.out MS[j] (List.getElem_mem hj')
          have HPj := Lib.hid (Ex.prodS_two (a := a) (s := SS) hj')
          generalize MS[j] = bb at *
          have p0 := gr_cell hg HQ.out.1
          have y2 := gr_cell hg HQ.out.2
          have HJ := Lib.hid hjg
          clear hjg hF1
          go_wp2_with fail
          refine (cO0 _ (hgw3.trans hg)).mono ?_
          rintro e W5 ⟨A0, n0, c0, rfl, hg5, hK0, hn0⟩
          have hF0 : Off W5 R2 A0 n0 SS := by
            refine hK0.weak (fun k _ h he => ?_)
            rcases own_at HO.out with rfl | ⟨gg, rfl, h2, h3⟩
            · simp [ownB] at he
            · have e9 : k = gg := by simpa [ownB] using he
              rcases h with h | h
              · omega
              · have := HO0.out k h; have := HZ.out; omega
          have HFb := Lib.hid (HF.out.gr hg5)
          have HMb := Lib.hid (HM.out.gr hg5)
          have HOb := Lib.hid (HO.out.gr hg5)
          have hg := hg.trans hg5
          clear hK0 hg5 p0 y2 d1 HF HM HO
          go_wp2
          go_loopg [8, 47] n0 (fun g v8 v wx => ∃ (i m cp : Nat) (R : Option Addr), v = .int .i64 (i : Int) ∧ v8 = .slice R m cp ∧ i + g = n0 ∧ m ≤ 1681 * k + 41 * j + i ∧ Hid (OwnV wx W3.heap.size 3 R m cp (ivs (Ex.prodS (HS.take k) MS SS ++ Ex.prodS [a] (MS.take j) SS ++ (SS.take i).map (fun c => (a * 60 + bb) * 60 + c)))) ∧ Hid (Off wx R (some ad) n2 HS) ∧ Hid (Off wx R (some ad1) n1 MS) ∧ Hid (Off wx R A0 n0 SS) ∧ Gr W3 wx)
          case atStart => exact ⟨0, m2, cp2, R2, rfl, rfl, by omega, by omega, Lib.hid (by have := HOb.out; simpa using this), HFb, HMb, Lib.hid hF0, hg⟩
          case round =>
            obtain ⟨i, m3, cp3, R3, rfl, rfl, hig, hmi, HO, HF, HM, HS3, hg⟩ := hrel
            have HI := Lib.hid hig
            clear hig hF0
            by_cases hi : i < n0
            · obtain ⟨ad0, hi', rfl, d2⟩ := HS3.out.at_ hi
              have hin : (i : Int) < (n0 : Int) := by omega
              have hb0 := HB0.out SS[i] (List.getElem_mem hi')
              have HTi := Lib.hid (List.take_succ_eq_append_getElem hi')
              have ho := HO.out
              generalize SS[i] = ss at *
              go_wp2_with (at_builtin; refine apP wr rfl (.tmp 51) (.tmp 59) 24 3 (.int .i64 0) Tryz.underlying24 info_int rfl rfl W3.heap.size R3 m3 cp3 _ rfl ho (.int .i64 ((a * 60 + bb) * 60 + ss)) rfl rfl (by omega) hg.lt ?_; intro g5 cap5 w5 hA5)
              go_roundg (n0 - (i + 1))
              case measure => have := HI.out; omega
              case rel =>
                refine ⟨i + 1, m3 + 1, cap5, _, by go_num, rfl, by omega, by omega, Lib.hid ?_, Lib.hid (HF.out.ap hA5), Lib.hid (HM.out.ap hA5), Lib.hid (HS3.out.ap hA5), hA5.gr ho (Nat.le_refl _) hg⟩
                have h := hA5.own
                rw [HTi.out, List.map_append, ← List.append_assoc, ivs_app]
                exact h
            · obtain rfl : i = n0 := by have := HI.out; omega
              go_wp2
              go_roundg (n1 - (j + 1))
              case measure => have := HJ.out; omega
              case rel =>
                refine ⟨j + 1, m3, cp3, R3, by go_num, rfl, by omega, by omega, Lib.hid ?_, HF, HM, hg⟩
                have h := HO.out
                rw [List.take_of_length_le (l := SS) (by rw [HS3.out.1]; exact Nat.le_refl _)] at h
                rw [HPj.out, ← List.append_assoc]
                exact h
        · obtain rfl : j = n1 := by omega
          clear hjg hF1
          go_wp2
          go_roundg (n2 - (k + 1))
          case measure => have := HK.out; omega
          case rel =>
            refine ⟨k + 1, m2, cp2, R2, by go_num, rfl, by have := HK.out; omega, by omega, Lib.hid ?_, HF, hg⟩
            have h := HO.out
            rw [List.take_of_length_le (l := MS) (by rw [HM.out.1]; exact Nat.le_refl _)] at h
            rw [HPk.out]
            exact h
    · obtain rfl : k = n2 := by omega
      have HR : Hid (OwnV wr W3.heap.size 3 R m cp (ivs (Ex.prodS HS MS SS))) := by
        have h := HO.out
        rwa [List.take_of_length_le (by rw [HF.out.1]; exact Nat.le_refl _)] at h
      have HGG := Lib.hid (hgw3.trans hg)
      clear q0 q1 x1 x2 HO HF hOf2
      go_wp2
      go_ret
      refine ⟨R, m, cp, rfl, HGG.out, Lib.hid ?_⟩
      have h := HR.out
      refine ⟨h.1, ?_⟩
      rcases h.2 with hn | ⟨g, cap, cur, hv, hb, hh, rest⟩
      · exact .inl hn
      · exact .inr ⟨g, cap, cur, hv, by have := HZ.out; omega, hh, rest⟩
end Go.Proofs.YtmbmkldcedkbmaaGreat
namespace Go.Proofs.YtmbmkldcedkbmaaGreat
open Go.RowKit

section
variable {ops : Array Oper} {Q : Exit → Act → World → Prop} {S : World → Prop}
def WkS (ops : Array Oper) (Q : Exit → Act → World → Prop) (S : World → Prop) : Nat → Array Bool → Act → World → Prop
  | 0, listed, a, w => Region.ready .any ops listed = [] ∧ Q .normal a w
  | m + 1, listed, a, w => (Region.ready .any ops listed = [] → Q .normal a w) ∧
      ∀ i ∈ Region.ready .any ops listed, wpOp Tryz.prog ops Q i (fun a' w' => S w' ∧ WkS ops Q S m (listed.setIfInBounds i true) a' w') a w
theorem WkS.any : ∀ (m : Nat) (listed : Array Bool) (a : Act) (w : World), WkS ops Q S m listed a w → wpAny Tryz.prog .any ops Q m listed a w
  | 0, _, _, _, h => h
  | m + 1, _, _, _, h => ⟨h.1, fun i hi => wpOp_mono (fun a' w' g => WkS.any m _ a' w' g.2) (h.2 i hi)⟩
theorem WkS.first {i : Nat} {oi : Oper} {v : Value} (hi : ops[i]? = some oi) (hs : Region.noSelect ops = true)
    (hQ : ∀ c a w, Q (.panic c) (a.put oi.dst v) w → Q (.panic c) a w) : ∀ (m : Nat) (listed : Array Bool) (a : Act) (w : World),
    (∀ j oj, ops[j]? = some oj → j ≠ i → listed.getD j true = false → (∀ e ∈ oj.after, Region.binds .any e = true → e.on ≠ i) → oi.apart ops oj = true) → i ∈ Region.ready .any ops listed → YieldsIf Tryz.prog ops S oi v a → S w →
    WkS ops Q S m (listed.setIfInBounds i true) (a.put oi.dst v) w → WkS ops Q S (m + 1) listed a w := by
  have hsel := Region.noSelect_spec hs
  intro m
  induction m with
  | zero =>
    intro listed a w _ hr hy hS H
    refine ⟨fun e => absurd (e ▸ hr) (by simp), fun j hj => ?_⟩
    by_cases e : j = i
    · subst e; exact hy.wpOp hi hS ⟨hS, H⟩
    · have hj2 := ready_mono hj e
      rw [H.1] at hj2; cases hj2
  | succ m ih =>
    intro listed a w hf hr hy hS H
    refine ⟨fun e => absurd (e ▸ hr) (by simp), fun j hj => ?_⟩
    by_cases e : j = i
    · subst e; exact hy.wpOp hi hS ⟨hS, H⟩
    · obtain ⟨hun, oj, hoj, hall⟩ := mem_ready.1 hj
      have hno : ∀ x ∈ oj.after, Region.binds .any x = true → x.on ≠ i := fun x hx hb ex => by
        have h1 := hall x hx hb
        rw [ex, ready_unlisted hr] at h1; cases h1
      have h2 := wpOp_putIf hoj (hf j oj hoj e hun hno) (fun cs b => hsel i oi cs b hi) (fun cs b => hsel j oj cs b hoj) hQ hy (H.2 j (ready_mono hj e))
      refine wpOp_mono (fun a' w' g => ⟨g.2.1, ih _ a' w' (fun q oq hq hqi hqu hqn => ?_) (ready_mono hr (Ne.symm e)) g.1 g.2.1 ?_⟩) h2
      · refine hf q oq hq hqi ?_ hqn
        by_cases ejq : j = q
        · rw [← ejq]; exact hun
        · rw [getD_set_ne true ejq] at hqu; exact hqu
      · rw [Array.setIfInBounds_comm _ _ e]; exact g.2.2
theorem WkS.take {i : Nat} {oi : Oper} {v : Value} {m : Nat} {listed : Array Bool} {a : Act} {w : World} (hi : ops[i]? = some oi)
    (hs : Region.noSelect ops = true) (hf : Region.free .any ops listed i = true) (hr : (Region.ready .any ops listed).contains i = true) (hg : oi.guard = none)
    (hQ : ∀ c a w, Q (.panic c) (a.put oi.dst v) w → Q (.panic c) a w) (hy : ∀ w, S w → (execOp a.eval oi).run Tryz.prog w = .ok (.value v) w) (hS : S w)
    (h : WkS ops Q S m (listed.setIfInBounds i true) (a.put oi.dst v) w) : WkS ops Q S (m + 1) listed a w :=
  WkS.first hi hs hQ m listed a w (Region.free_spec hi hf) (by simpa using hr) (.inl ⟨by simp [Region.wanted, hg], hy⟩) hS h
/- the operations that may come up, one by one -/
theorem WkS.these {is : List Nat} {m : Nat} {listed : Array Bool} {a : Act} {w : World} (hr : Region.ready .any ops listed = is) (hne : is ≠ [])
    (h : ∀ i ∈ is, wpOp Tryz.prog ops Q i (fun a' w' => S w' ∧ WkS ops Q S m (listed.setIfInBounds i true) a' w') a w) : WkS ops Q S (m + 1) listed a w :=
  ⟨fun e => absurd (hr.symm.trans e) hne, fun j hj => h j (hr ▸ hj)⟩
theorem WkS.op {i : Nat} {oi : Oper} {K : Act → World → Prop} {a : Act} {w : World} (hi : ops[i]? = some oi) (hg : oi.guard = none)
    (h : ∀ K2 : Act → World → Prop, (∀ a' w', K a' w' → K2 a' w') → Oper.wp Tryz.prog oi a w K2 Q) : wpOp Tryz.prog ops Q i K a w :=
  wpOp_step hi (fun K2 hK => by rw [if_pos (by simp [Region.wanted, hg])]; exact h K2 hK)
theorem WkS.done {m : Nat} {listed : Array Bool} {a : Act} {w : World} (hr : Region.ready .any ops listed = []) (h : Q .normal a w) : WkS ops Q S m listed a w := by
  cases m with
  | zero => exact ⟨hr, h⟩
  | succ m => exact ⟨fun _ => h, by rw [hr]; simp⟩
theorem wp_region_S {id : Nat} {a : Act} {w : World} (m : Nat) (S : World → Prop) (hm : Tryz.prog.follows .mixedOrders = true) (hz : ops.size = m) (h : WkS ops Q S m (Array.replicate m false) a w.drew) : (Code.region id ops true).wp Tryz.prog Q a w := by
  subst hz
  exact wp_region_any hm (WkS.any _ _ _ _ h)
end
end Go.Proofs.YtmbmkldcedkbmaaGreat
namespace Go.Proofs.YtmbmkldcedkbmaaGreat
open Go.RowKit

def chk (r : Rm.Ru) (b : Int) : Int := if Rm.fm r = false then 10 else if Clk.okB b = false then 2 else 0
set_option maxHeartbeats 2000000 in
theorem check_any (V : Rm.Rv) (b : Int) (w : World) (hM : RuM w w.heap.size V) :
    Calls Tryz.prog 19 #[.agg V.val, .int .i64 b] w fun e w' => e = .returned (.int .i64 (chk V.r b)) ∧ Gr w w' := by
  have HX := Lib.hid (RBx.now w V 27)
  have hg : Gr w (w.alloc (.cells V.val 27)) := (Gr.refl w).allocO _
  have cF := fun w' (h : Gr w w') => formed_any V w' (hM.gr h)
  have cR := fun w' => cright_any b w'
  have HC : Hid (chk V.r b = if Rm.fm V.r = false then 10 else if Clk.okB b = false then 2 else 0) := Lib.hid rfl
  rcases hf : Rm.fm V.r
  · rw [hf] at cF HC
    rw [show chk V.r b = 10 from HC.out]
    clear hf HC
    go_enter Tryz.func19, Tryz.ntmps19
    go_upto_region 1 with fail
    go_wp2_with (first | (refine wpList_load_rule rfl (.tmp 2) rfl rfl HX.out ?_) | (go_at_call 33; refine (cF _ hg).mono ?_; rintro e w1 ⟨rfl, hg1⟩))
    go_ret
    exact ⟨rfl, hg.trans hg1⟩
  · rw [hf] at cF HC
    rcases hr : Clk.okB b
    · rw [hr] at cR HC
      rw [show chk V.r b = 2 from HC.out]
      clear hf hr HC
      go_enter Tryz.func19, Tryz.ntmps19
      go_upto_region 1 with fail
      go_wp2_with (first | (refine wpList_load_rule rfl (.tmp 2) rfl rfl HX.out ?_) | (go_at_call 33; refine (cF _ hg).mono ?_; rintro e w1 ⟨rfl, hg1⟩) | (go_at_call 34; refine (cR _).mono ?_; rintro e w' ⟨rfl, rfl⟩))
      go_ret
      exact ⟨rfl, hg.trans hg1⟩
    · rw [hr] at cR HC
      rw [show chk V.r b = 0 from HC.out]
      clear hf hr HC
      go_enter Tryz.func19, Tryz.ntmps19
      go_upto_region 1 with fail
      go_wp2_with (first | (refine wpList_load_rule rfl (.tmp 2) rfl rfl HX.out ?_) | (go_at_call 33; refine (cF _ hg).mono ?_; rintro e w1 ⟨rfl, hg1⟩) | (go_at_call 34; refine (cR _).mono ?_; rintro e w' ⟨rfl, rfl⟩))
      go_ret
      exact ⟨rfl, hg.trans hg1⟩
def endR (r : Rm.Ru) : Int := if r.has = true then (if r.uk = 0 then r.ua + 86399 else r.ua) else 9223372036854775807
theorem end_any (V : Rm.Rv) (w : World) (h1 : V.r.has = true → -1000000000000 ≤ V.r.ua ∧ V.r.ua ≤ 1000000000000) :
    Calls Tryz.prog 60 #[.agg V.val] w fun e w' => e = .returned (.int .i64 (endR V.r)) ∧ Gr w w' := by
  have hbx := RBx.now w V 27
  have hg : Gr w (w.alloc (.cells V.val 27)) := (Gr.refl w).allocO _
  have c3 := hbx.c3
  have c4 := hbx.c4
  have c6 := hbx.c6
  have HE : Hid (endR V.r = if V.r.has = true then (if V.r.uk = 0 then V.r.ua + 86399 else V.r.ua) else 9223372036854775807) := Lib.hid rfl
  clear hbx
  rcases hh : V.r.has
  · rw [hh] at c6 HE
    rw [show endR V.r = 9223372036854775807 from HE.out]
    clear hh h1 HE
    go_enter Tryz.func60, Tryz.ntmps60
    go_wp2
    go_ret
    exact ⟨rfl, hg⟩
  · rw [hh] at c6 HE
    obtain ⟨b1, b2⟩ := h1 hh
    by_cases hk : V.r.uk = 0
    · rw [show endR V.r = V.r.ua + 86400 - 1 by have := HE.out; rw [if_pos rfl, if_pos hk] at this; omega]
      clear hh h1 HE
      go_enter Tryz.func60, Tryz.ntmps60
      go_wp2
      go_ret
      exact ⟨rfl, hg⟩
    · rw [show endR V.r = V.r.ua by have := HE.out; rwa [if_pos rfl, if_neg hk] at this]
      clear hh h1 HE
      go_enter Tryz.func60, Tryz.ntmps60
      go_wp2
      go_ret
      exact ⟨rfl, hg⟩
/- a pattern in memory -/
structure PatB (w : World) (b : Nat) (V : Rm.Rv) (beg db : Int) (A : Option Addr) (n c : Nat) : Prop where
  r : RBx w b V
  c17 : w.cell? ⟨b, 17, none⟩ = some (.int .i64 beg)
  c18 : w.cell? ⟨b, 18, none⟩ = some (.int .i64 db)
  c19 : w.cell? ⟨b, 19, none⟩ = some (.slice A n c)
theorem PatB.now (w : World) (V : Rm.Rv) (beg db : Int) (A : Option Addr) (n c : Nat) (t : TypeId) : PatB (w.alloc (.cells (V.val ++ #[.int .i64 beg, .int .i64 db, .slice A n c]) t)) w.heap.size V beg db A n c := by
  constructor
  · constructor <;> simp
  all_goals simp
theorem RBx.sm {w w' : World} {b : Nat} {V : Rm.Rv} {K : Nat → Prop} (h : RBx w b V) (hs : Sm K w w') (hk : K b) : RBx w' b V := by
  have k : ∀ {o v}, w.cell? ⟨b, o, none⟩ = some v → w'.cell? ⟨b, o, none⟩ = some v := fun h => hs.cell hk h
  exact ⟨k h.c0, k h.c1, k h.c2, k h.c3, k h.c4, k h.c5, k h.c6, k h.c7, k h.c8, k h.c9, k h.c10, k h.c11, k h.c12, k h.c13, k h.c14, k h.c15, k h.c16⟩
theorem PatB.sm {w w' : World} {b : Nat} {V : Rm.Rv} {beg db : Int} {A : Option Addr} {n c : Nat} {K : Nat → Prop} (h : PatB w b V beg db A n c) (hs : Sm K w w') (hk : K b) : PatB w' b V beg db A n c :=
  ⟨h.r.sm hs hk, hs.cell hk h.c17, hs.cell hk h.c18, hs.cell hk h.c19⟩
theorem PatB.gr {w w' : World} {b : Nat} {V : Rm.Rv} {beg db : Int} {A : Option Addr} {n c : Nat} (h : PatB w b V beg db A n c) (hg : Gr w w') : PatB w' b V beg db A n c := h.sm (hg.sm (fun _ => True)) trivial
set_option maxRecDepth 100000 in
set_option maxHeartbeats 8000000 in
theorem pattern_any (V : Rm.Rv) (b : Int) (w : World) (hM : RuM w w.heap.size V) (hf : Rm.fm V.r = true) (hb : Clk.okB b = true) :
    Calls Tryz.prog 20 #[.agg V.val, .int .i64 b] w fun e w' => ∃ bp A n c, e = .returned (.pointer (some ⟨bp, 0, none⟩)) ∧ Gr w w' ∧ w.heap.size ≤ bp ∧ Hid (PatB w' bp V b (b / 86400) A n c) ∧ Hid (NumK w' (fun k => w.heap.size ≤ k) A n (Ex.secs V.r (b % 86400))) := by
  have HX := Lib.hid (RBx.now w V 27)
  have hg : Gr w (w.alloc (.cells V.val 27)) := (Gr.refl w).allocO _
  have cS := fun w' (h : Gr w w') => seconds_any V b w' (hM.gr h) hf hb
  have cD := fun w' => cday_yes b w' hb
  generalize Ex.secs V.r (b % 86400) = ss at *
  clear hf hb
  go_enter Tryz.func20, Tryz.ntmps20
  go_upto_region 1 with fail
  refine wp_region_S 10 (fun w' : World => Gr (w.alloc (.cells V.val 27)) w') (by kernel_rfl) rfl ?_
  have hS : (fun w' : World => Gr (w.alloc (.cells V.val 27)) w') (w.alloc (.cells V.val 27)).drew := (Gr.refl _).drew
  generalize (w.alloc (.cells V.val 27)).drew = W1 at *
  refine WkS.take (i := 0) (v := .agg V.val) (at_lit rfl) (by kernel_rfl) (by kernel_rfl) (by kernel_rfl) rfl (fun _ _ _ h => h) (fun w' hw => exec_rule (.tmp 2) rfl rfl (HX.out.gr hw)) hS ?_
  simp only [Act.put, List.setIfInBounds_toArray, List.set_cons_zero, List.set_cons_succ]
  refine WkS.take (i := 1) (v := ?_) (at_lit rfl) (by kernel_rfl) (by kernel_rfl) (by kernel_rfl) rfl (fun _ _ _ h => h) ?_ hS ?_
  rotate_left 1
  · intro w' hw
    clear hw
    go_simp
    first | done | rfl
  simp only [Act.put, List.setIfInBounds_toArray, List.set_cons_zero, List.set_cons_succ]
  refine WkS.take (i := 2) (v := ?_) (at_lit rfl) (by kernel_rfl) (by kernel_rfl) (by kernel_rfl) rfl (fun _ _ _ h => h) ?_ hS ?_
  rotate_left 1
  · intro w' hw
    clear hw
    go_simp
    first | done | rfl
  simp only [Act.put, List.setIfInBounds_toArray, List.set_cons_zero, List.set_cons_succ]
  refine WkS.take (i := 4) (v := .agg V.val) (at_lit rfl) (by kernel_rfl) (by kernel_rfl) (by kernel_rfl) rfl (fun _ _ _ h => h) (fun w' hw => exec_rule (.tmp 2) rfl rfl (HX.out.gr hw)) hS ?_
  simp only [Act.put, List.setIfInBounds_toArray, List.set_cons_zero, List.set_cons_succ]
  refine WkS.take (i := 5) (v := ?_) (at_lit rfl) (by kernel_rfl) (by kernel_rfl) (by kernel_rfl) rfl (fun _ _ _ h => h) ?_ hS ?_
  rotate_left 1
  · intro w' hw
    clear hw
    go_simp
    first | done | rfl
  simp only [Act.put, List.setIfInBounds_toArray, List.set_cons_zero, List.set_cons_succ]
  refine WkS.these (is := [3]) (by kernel_rfl) (by simp) (fun i hi => ?_)
  obtain rfl := List.mem_singleton.1 hi
  clear hi
  refine WkS.op (at_lit rfl) rfl (fun K hK => ?_)
  go_simp
  refine (cD _).mono ?_
  rintro e w2 ⟨rfl, rfl⟩
  refine hK _ _ ⟨hS, ?_⟩
  clear hK K
  refine WkS.these (is := [6]) (by kernel_rfl) (by simp) (fun i hi => ?_)
  obtain rfl := List.mem_singleton.1 hi
  clear hi
  refine WkS.op (at_lit rfl) rfl (fun K hK => ?_)
  go_simp
  refine (cS _ (hg.trans hS)).mono ?_
  rintro e w2 ⟨A, n, c, rfl, hg2, ho⟩
  have hS2 := hS.trans hg2
  have HN := Lib.hid (own_numK ho.out)
  refine hK _ _ ⟨hS2, ?_⟩
  clear hK K ho
  refine WkS.these (is := [7]) (by kernel_rfl) (by simp) (fun i hi => ?_)
  obtain rfl := List.mem_singleton.1 hi
  clear hi
  refine WkS.op (at_lit rfl) rfl (fun K hK => ?_)
  go_simp
  refine hK _ _ ⟨hS2, ?_⟩
  clear hK K
  refine WkS.these (is := [8]) (by kernel_rfl) (by simp) (fun i hi => ?_)
  obtain rfl := List.mem_singleton.1 hi
  clear hi
  refine WkS.op (at_lit rfl) rfl (fun K hK => ?_)
  go_simp
  have hP := PatB.now w2 V b (b / 86400) A n c 55
  have hg3 : Gr w2 (w2.alloc (.cells (V.val ++ #[.int .i64 b, .int .i64 (b / 86400), .slice A n c]) 55)) := (Gr.refl w2).allocO _
  change PatB (w2.alloc (.cells #[.int .i64 V.r.freq, .int .i64 V.r.ivl, .int .i64 V.r.cnt, .int .i64 V.r.uk, .int .i64 V.r.ua, .string V.z, .bool V.r.has, .int .i64 V.r.st,
    .slice V.sec.A V.sec.n V.sec.c, .slice V.min.A V.min.n V.min.c, .slice V.hour.A V.hour.n V.hour.c, .slice V.day.A V.day.n V.day.c, .slice V.mday.A V.mday.n V.mday.c, .slice V.yday.A V.yday.n V.yday.c,
    .slice V.week.A V.week.n V.week.c, .slice V.month.A V.month.n V.month.c, .slice V.pos.A V.pos.n V.pos.c, .int .i64 b, .int .i64 (b / 86400), .slice A n c] 55)) w2.heap.size V b (b / 86400) A n c at hP
  change Gr w2 (w2.alloc (.cells #[.int .i64 V.r.freq, .int .i64 V.r.ivl, .int .i64 V.r.cnt, .int .i64 V.r.uk, .int .i64 V.r.ua, .string V.z, .bool V.r.has, .int .i64 V.r.st,
    .slice V.sec.A V.sec.n V.sec.c, .slice V.min.A V.min.n V.min.c, .slice V.hour.A V.hour.n V.hour.c, .slice V.day.A V.day.n V.day.c, .slice V.mday.A V.mday.n V.mday.c, .slice V.yday.A V.yday.n V.yday.c,
    .slice V.week.A V.week.n V.week.c, .slice V.month.A V.month.n V.month.c, .slice V.pos.A V.pos.n V.pos.c, .int .i64 b, .int .i64 (b / 86400), .slice A n c] 55)) at hg3
  generalize w2.alloc (Obj.cells _ 55) = W4 at *
  have hS3 := hS2.trans hg3
  refine hK _ _ ⟨hS3, ?_⟩
  clear hK K
  refine WkS.these (is := [9]) (by kernel_rfl) (by simp) (fun i hi => ?_)
  obtain rfl := List.mem_singleton.1 hi
  clear hi
  refine WkS.op (at_lit rfl) rfl (fun K hK => ?_)
  go_simp
  refine hK _ _ ⟨hS3, ?_⟩
  clear hK K
  refine WkS.done (by kernel_rfl) ?_
  have HP := Lib.hid hP
  have HF := Lib.hid (And.intro (hg.trans hS3) (hg.trans hS2).lt)
  have HN2 := Lib.hid ((HN.out.sm (hg3.sm (fun _ => True)) (fun _ _ _ => trivial)).weak (K' := fun k => w.heap.size ≤ k) (fun k _ h => Nat.le_trans (hg.trans hS).lt h))
  clear hP hg3 hS hS2 hS3 hg2 HN HX cS cD hM
  go_wp2
  go_ret
  exact ⟨_, A, n, c, rfl, HF.out.1, HF.out.2, HP, HN2⟩
end Go.Proofs.YtmbmkldcedkbmaaGreat
