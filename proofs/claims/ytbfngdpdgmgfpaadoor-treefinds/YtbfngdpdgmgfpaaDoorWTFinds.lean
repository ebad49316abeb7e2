/- The walk of TreeFinds. -/
import Derived.Test.YtbfngdpdgmgfpaaDoorMH
import Derived.Test.YtbfngdpdgmgfpaaDoorMG
import Derived.Test.YtbfngdpdgmgfpaaDoorMJ
import Derived.Test.YtbfngdpdgmgfpaaDoorLnOurs2
namespace Go.Proofs.YtbfngdpdgmgfpaaDoor
open Go.RowKit

set_option maxHeartbeats 8000000 in
set_option maxRecDepth 100000 in
theorem tfinds_any (d : Nat) (t : Ln.Tr) (A : Option Addr) (n c : Nat) (B : Option Addr) (m e : Nat) (d2 : Nat) (u : Ln.Tr) (A2 : Option Addr) (n2 c2 : Nat) (B2 : Option Addr) (m2 e2 : Nat) (name : ByteArray) (w : World) (hT : Tab w) (hL : Lns w w.heap.size A n t.lines) (hK : Kds d w w.heap.size B m t.kids) (hR : Ln.RwT t)
    (hL2 : Lns w w.heap.size A2 n2 u.lines) (hK2 : Kds d2 w w.heap.size B2 m2 u.kids) (hR2 : Ln.RwT u) :
    Calls Tryd.prog 6 #[.agg #[.string ⟨t.name.toArray⟩, .slice A n c, .slice B m e], .agg #[.string ⟨u.name.toArray⟩, .slice A2 n2 c2, .slice B2 m2 e2], .string name] w fun e w' => e = .returned (.bool true) ∧ Gr w w' := by
  have cA := fun w (t : Tab w) => awake11_any w t
  have cF := fun w1 (h1 : Gr w w1) => few11_any d t A B n c m e w1 (hL.gr h1) (hK.gr h1) hR
  have cF2 := fun w1 (h1 : Gr w w1) => few11_any d2 u A2 B2 n2 c2 m2 e2 w1 (hL2.gr h1) (hK2.gr h1) hR2
  have cT := fun w1 (h1 : Gr w w1) => ttheirs_any d t A B n c m e _ w1 (Nat.le_refl _) (hL.gr h1) (hK.gr h1) (Ln.AllT.imp (fun _ h => h) (fun _ h => h.2) hR)
  have cT2 := fun w1 (h1 : Gr w w1) => ttheirs_any d2 u A2 B2 n2 c2 m2 e2 _ w1 (Nat.le_refl _) (hL2.gr h1) (hK2.gr h1) (Ln.AllT.imp (fun _ h => h) (fun _ h => h.2) hR2)
  obtain ⟨q, hq⟩ : ∃ q : Bool, q = true ↔ t = u := by
    by_cases h : t = u
    · exact ⟨true, fun _ => h, fun _ => rfl⟩
    · exact ⟨false, fun e => (by cases e), fun e => absurd e h⟩
  have cE := fun w1 X x Y y Z z V v (h1 : Lns w1 w1.heap.size X n t.lines) (h2 : Kds d w1 w1.heap.size Y m t.kids) (h3 : Lns w1 w1.heap.size Z n2 u.lines) (h4 : Kds d2 w1 w1.heap.size V m2 u.kids) => tequal_any d t u X Z Y V n x n2 z m y m2 v d2 w1 h1 h3 h2 h4 hR q hq
  have cR := fun w1 X x Y y Z z V v (h1 : Lns w1 w1.heap.size X n t.lines) (h2 : Kds d w1 w1.heap.size Y m t.kids) (h3 : Lns w1 w1.heap.size Z n t.lines) (h4 : Kds d w1 w1.heap.size V m t.kids) => tequal_any d t t X Z Y V n x n z m y m v d w1 h1 h3 h2 h4 hR true ⟨fun _ => rfl, fun _ => rfl⟩
  have cS := fun w1 (h1 : Gr w w1) => tsame_any d t u A A2 B B2 n c n2 c2 m e m2 e2 d2 w1 (hL.gr h1) (hL2.gr h1) (hK.gr h1) (hK2.gr h1) hR q hq
  have hz1 : n * 56 ≤ 140737488355328 := by have := hR.q.2.1; have := hL.1; omega
  have hRl := hR.l
  have cD := fun w1 X x Y y (h1 : Lns w1 w1.heap.size X n t.lines) => tfind_any ⟨t.name.toArray⟩ name X Y n x m y t.lines w1 h1 hz1 hRl
  have hqq : (q != q) = false := by cases q <;> rfl
  have HLl := Lib.hid hL.1
  clear hq
  have hg0 : Gr w ((w.alloc (.cells #[.string ⟨t.name.toArray⟩, .slice A n c, .slice B m e] 25)).alloc (.cells #[.string ⟨u.name.toArray⟩, .slice A2 n2 c2, .slice B2 m2 e2] 25)) := ((Gr.refl w).allocO _).allocO _
  have hx0 := (Bx3.new w (.string ⟨t.name.toArray⟩) (.slice A n c) (.slice B m e) 25).gr ((Gr.refl _).allocO (.cells #[.string ⟨u.name.toArray⟩, .slice A2 n2 c2, .slice B2 m2 e2] 25))
  have hy0 := Bx3.new (w.alloc (.cells #[.string ⟨t.name.toArray⟩, .slice A n c, .slice B m e] 25)) (.string ⟨u.name.toArray⟩) (.slice A2 n2 c2) (.slice B2 m2 e2) 25
  have z1 : (w.alloc (.cells #[.string ⟨t.name.toArray⟩, .slice A n c, .slice B m e] 25)).heap.size = w.heap.size + 1 := by simp
  rw [z1] at hy0
  clear z1
  obtain ⟨tn, htn⟩ : ∃ tn, tn = ByteArray.mk t.name.toArray := ⟨_, rfl⟩
  obtain ⟨un, hun⟩ : ∃ un, un = ByteArray.mk u.name.toArray := ⟨_, rfl⟩
  rw [← htn] at cF cT cR cD
  rw [← hun] at cF2 cT2
  rw [← htn, ← hun] at cE cS hg0 hx0 hy0 ⊢
  clear htn hun
  obtain ⟨NM, hNM⟩ : ∃ NM, NM = Ln.nmc t.lines name.data.toList := ⟨_, rfl⟩
  rw [← hNM] at cD
  have HNM := Lib.hid hNM
  clear hNM
  go_enter Tryd.func6, Tryd.ntmps6
  go_wp2_with fail
  refine (cA _ (hT.keep hg0)).mono ?_
  rintro _ w1 ⟨rfl, hg01⟩
  have hg1 := hg0.trans hg01
  have hx1 := hx0.gr hg01
  have hy1 := hy0.gr hg01
  have HX1 := Lib.hid hx1
  have HY1 := Lib.hid hy1
  obtain ⟨x10, x11, x12, _, _, _⟩ := hx1
  obtain ⟨y10, y11, y12, _, _, _⟩ := hy1
  go_wp2_with fail
  refine (cF _ hg1).mono ?_
  rintro _ w2 ⟨b, rfl, hg2, _⟩
  have hg12 := hg1.trans hg2
  have hx2 := HX1.out.gr hg2
  have hy2 := HY1.out.gr hg2
  have HX2 := Lib.hid hx2
  have HY2 := Lib.hid hy2
  obtain ⟨x20, x21, x22, _, _, _⟩ := hx2
  obtain ⟨y20, y21, y22, _, _, _⟩ := hy2
  cases b
  · go_wp2_with fail
    refine (cA _ (hT.keep hg12)).mono ?_
    rintro _ w3 ⟨rfl, hg3⟩
    go_wp2
    go_ret
    exact ⟨rfl, hg12.trans hg3⟩
  · go_wp2_with fail
    refine (cF2 _ hg12).mono ?_
    rintro _ w3 ⟨b, rfl, hg3, _⟩
    have hg13 := hg12.trans hg3
    have hx3 := HX2.out.gr hg3
    have hy3 := HY2.out.gr hg3
    clear HX1 HX2 HY1 HY2 x10 x11 x12 y10 y11 y12 x20 x21 x22 y20 y21 y22
    cases b
    · go_wp2_with fail
      refine (cA _ (hT.keep hg13)).mono ?_
      rintro _ w4 ⟨rfl, hg4⟩
      go_wp2
      go_ret
      exact ⟨rfl, hg13.trans hg4⟩
    · have HX3 := Lib.hid hx3
      have HY3 := Lib.hid hy3
      obtain ⟨x0, x1, x2, _, _, _⟩ := hx3
      obtain ⟨y0, y1, y2, _, _, _⟩ := hy3
      go_wp2_with fail
      go_region_held3 (fun w' => w'.cell? ⟨w.heap.size, 0, none⟩ = some (.string tn) ∧ w'.cell? ⟨w.heap.size, 1, none⟩ = some (.slice A n c) ∧ w'.cell? ⟨w.heap.size, 2, none⟩ = some (.slice B m e) ∧ w'.cell? ⟨w.heap.size + 1, 0, none⟩ = some (.string un) ∧ w'.cell? ⟨w.heap.size + 1, 1, none⟩ = some (.slice A2 n2 c2) ∧ w'.cell? ⟨w.heap.size + 1, 2, none⟩ = some (.slice B2 m2 e2))
        (first
          | exact ⟨gr_cell kg7 x0, gr_cell kg7 x1, gr_cell kg7 x2, gr_cell kg7 y0, gr_cell kg7 y1, gr_cell kg7 y2⟩
          | exact ⟨gr_cell kg6 x0, gr_cell kg6 x1, gr_cell kg6 x2, gr_cell kg6 y0, gr_cell kg6 y1, gr_cell kg6 y2⟩
          | exact ⟨gr_cell kg5 x0, gr_cell kg5 x1, gr_cell kg5 x2, gr_cell kg5 y0, gr_cell kg5 y1, gr_cell kg5 y2⟩
          | exact ⟨gr_cell kg4 x0, gr_cell kg4 x1, gr_cell kg4 x2, gr_cell kg4 y0, gr_cell kg4 y1, gr_cell kg4 y2⟩
          | exact ⟨gr_cell kg3 x0, gr_cell kg3 x1, gr_cell kg3 x2, gr_cell kg3 y0, gr_cell kg3 y1, gr_cell kg3 y2⟩
          | exact ⟨gr_cell kg2 x0, gr_cell kg2 x1, gr_cell kg2 x2, gr_cell kg2 y0, gr_cell kg2 y1, gr_cell kg2 y2⟩
          | exact ⟨gr_cell kg1 x0, gr_cell kg1 x1, gr_cell kg1 x2, gr_cell kg1 y0, gr_cell kg1 y1, gr_cell kg1 y2⟩
          | exact ⟨x0, x1, x2, y0, y1, y2⟩)
        (first
          | (go_at_call 19; have _t := kg6; refine (cR _ B5 b5 C5 f5 B6 b6 C6 f6 (by exact j5.now.gr g6) (by exact l5.now.gr g6) (by exact j6.now) (by exact l6.now)).mono ?_; rintro _ v7 ⟨rfl, g7⟩; have kg7 := kg6.trans g7)
          | (go_at_call 9; have _t := kg5; refine (cT _ (by exact hg13.trans kg5)).mono ?_; rintro _ v6 ⟨B6, b6, C6, f6, rfl, j6, l6, g6⟩; have kg6 := kg5.trans g6)
          | (go_at_call 9; have _t := kg4; refine (cT _ (by exact hg13.trans kg4)).mono ?_; rintro _ v5 ⟨B5, b5, C5, f5, rfl, j5, l5, g5⟩; have kg5 := kg4.trans g5)
          | (go_at_call 17; have _t := kg3; refine (cS _ (by exact hg13.trans kg3)).mono ?_; rintro _ v4 ⟨rfl, g4⟩; have kg4 := kg3.trans g4)
          | (go_at_call 19; have _t := kg2; refine (cE _ B1 b1 C1 f1 B3 b3 C3 f3 (by exact j1.now.gr g2) (by exact l1.now.gr g2) (by exact j2.now) (by exact l2.now)).mono ?_; rintro _ v3 ⟨rfl, g3⟩; have kg3 := kg2.trans g3)
          | (go_at_call 9; have _t := kg1; refine (cT2 _ (by exact hg13.trans kg1)).mono ?_; rintro _ v2 ⟨B3, b3, C3, f3, rfl, j2, l2, g2⟩; have kg2 := kg1.trans g2)
          | (go_at_call 9; refine (cT _ (by exact hg13.trans (Gr.refl w3).drew)).mono ?_; rintro _ v1 ⟨B1, b1, C1, f1, rfl, j1, l1, g1⟩; have kg1 := (Gr.refl w3).drew.trans g1))
      have hx7 := HX3.out.gr kg7
      have hg17 := hg13.trans kg7
      clear x0 x1 x2 y0 y1 y2 j1 j2 j5 j6 l1 l2 l5 l6 kg1 kg2 kg3 kg4 kg5 kg6 g1 g2 g3 g4 g5 g6 g7
      have HX7 := Lib.hid hx7
      obtain ⟨x0, x1, x2, _, _, _⟩ := hx7
      go_wp2_with fail
      refine (cT _ hg17).mono ?_
      rintro _ w8 ⟨B8, b8, C8, f8, rfl, j8, _, g8⟩
      go_wp2_with fail
      refine (cD _ B8 b8 C8 f8 j8.now).mono ?_
      rintro _ w9 ⟨X, Z, A9, n9, c9, rfl, HF, g9⟩
      have g10 : Gr w9 (w9.alloc (.cells #[.string X, .slice A9 n9 c9, .string Z] 48)) := (Gr.refl w9).allocO _
      have hg19 := ((hg17.trans g8).trans g9).trans g10
      have hx9 := ((HX7.out.gr g8).gr g9).gr g10
      have hz9 := Bx3.new w9 (.string X) (.slice A9 n9 c9) (.string Z) 48
      have HF9 := HF.agree (g10.agree _)
      clear HX7 x0 x1 x2 HF j8
      have HX9 := Lib.hid hx9
      have HZ9 := Lib.hid hz9
      have HF10 := Lib.hid HF9
      clear HF9
      obtain ⟨x0, x1, x2, _, _, _⟩ := hx9
      go_wp2
      generalize w9.alloc (.cells #[.string X, .slice A9 n9 c9, .string Z] 48) = w10 at *
      go_loopg [9, 10, 52] n (fun g v9 v10 v52 wx => ∃ (k mm : Nat) (at_ : Int), v52 = .int .i64 (k : Int) ∧ v9 = .int .i64 (mm : Int) ∧ v10 = .int .i64 at_ ∧ k + g = n ∧ mm ≤ k ∧ Hid (mm = Ln.nmc (t.lines.take k) name.data.toList) ∧ Hid (0 < mm → ∃ j : Nat, at_ = (j : Int) ∧ Ln.Fst t.lines name.data.toList j) ∧ Gr w10 wx)
      case atStart => exact ⟨0, 0, -1, rfl, rfl, rfl, by omega, by omega, Lib.hid (by simp [Ln.nmc]), Lib.hid (fun h => absurd h (by omega)), Gr.refl _⟩
      case round =>
        obtain ⟨k, mm, at_, rfl, rfl, rfl, hkg, hmk, HM, HA, hgr⟩ := hrel
        have HG := Lib.hid hkg
        clear hkg
        have hxr := HX9.out.gr hgr
        have hLr := hL.gr (hg19.trans hgr)
        by_cases hk : k < n
        · obtain ⟨ad, hk', A', n', c', rfl, hbl, hc0, hc1, hc2, hP, hnc⟩ := hLr.at_ hk
          obtain ⟨r0, r1, r2, _, _, _⟩ := hxr
          have hct := Ln.nmc_take t.lines name.data.toList k hk'
          have hmm := HM.out
          have hqn : ((ByteArray.mk t.lines[k].name.toArray).toList == name.toList) = decide (t.lines[k].name = name.data.toList) := str_eq (by rw [decide_eq_true_iff])
          by_cases he : t.lines[k].name = name.data.toList
          · rw [if_pos he] at hct
            rw [decide_eq_true he] at hqn
            have HM2 : Hid (mm + 1 = Ln.nmc (t.lines.take (k + 1)) name.data.toList) := Lib.hid (by omega)
            by_cases hm0 : mm = 0
            · have HFst : Hid (Ln.Fst t.lines name.data.toList k) := Lib.hid ⟨hk', he, Ln.nmc_no (k := k) (by omega)⟩
              clear hct hmm he HM
              subst hm0
              generalize (ByteArray.mk t.lines[k].name.toArray) = nl at *
              go_wp2
              go_roundg (n - (k + 1))
              case measure => have := HG.out; omega
              case rel => exact ⟨k + 1, 0 + 1, (k : Int), by go_num, by go_num, rfl, by omega, by omega, HM2, Lib.hid (fun _ => ⟨k, rfl, HFst.out⟩), by assumption⟩
            · have hmi : ((mm : Int) == 0) = false := by rw [beq_eq_false_iff_ne]; omega
              have HA2 : Hid (0 < mm + 1 → ∃ j : Nat, at_ = (j : Int) ∧ Ln.Fst t.lines name.data.toList j) := Lib.hid (fun _ => HA.out (by omega))
              clear hct hmm he HM HA
              generalize (ByteArray.mk t.lines[k].name.toArray) = nl at *
              go_wp2
              go_roundg (n - (k + 1))
              case measure => have := HG.out; omega
              case rel => exact ⟨k + 1, mm + 1, at_, by go_num, by go_num, rfl, by omega, by omega, HM2, HA2, by assumption⟩
          · rw [if_neg he] at hct
            rw [decide_eq_false he] at hqn
            have HM2 : Hid (mm = Ln.nmc (t.lines.take (k + 1)) name.data.toList) := Lib.hid (by omega)
            clear hct hmm he HM
            generalize (ByteArray.mk t.lines[k].name.toArray) = nl at *
            go_wp2
            go_roundg (n - (k + 1))
            case measure => have := HG.out; omega
            case rel => exact ⟨k + 1, mm, at_, by go_num, by go_num, rfl, by omega, by omega, HM2, HA, by assumption⟩
        · obtain rfl : k = n := by have := HG.out; omega
          have hmm := HM.out
          rw [List.take_of_length_le (by rw [HLl.out]; exact Nat.le_refl _), ← HNM.out] at hmm
          subst hmm
          have hFr := HF10.out.agree (hgr.agree _)
          have hzr := HZ9.out.gr hgr
          rcases hFr with ⟨h0, rfl, rfl, rfl, rfl, rfl⟩ | ⟨h0, j, hj, hfst, rfl, rfl, hnc9, hfp⟩
          · subst h0
            have cZ := fun w1 => equal_any ⟨#[]⟩ ⟨#[]⟩ ⟨#[]⟩ ⟨#[]⟩ none none 0 0 0 0 [] [] w1 ⟨rfl, fun h => absurd h (by omega)⟩ ⟨rfl, fun h => absurd h (by omega)⟩ (by omega) (fun p hp => by cases hp) true ⟨fun _ => ⟨rfl, rfl, rfl⟩, fun _ => rfl⟩
            obtain ⟨r0, r1, r2, _, _, _⟩ := hxr
            obtain ⟨s0, s1, s2, _, _, _⟩ := hzr
            go_wp2_with fail
            refine (cZ _).mono ?_
            rintro _ w11 ⟨rfl, g11⟩
            go_wp2
            go_ret
            exact ⟨rfl, (hg19.trans hgr).trans g11⟩
          · obtain ⟨j2, rfl, hfst2⟩ := HA.out h0
            obtain rfl : j2 = j := hfst2.uniq hfst
            have hjn : j2 < k := by have := HLl.out; omega
            obtain ⟨ad, hj', A', n', c', rfl, hbl, hc0, hc1, hc2, hP, hnc⟩ := hLr.at_ hjn
            have hRj := hRl _ (List.getElem_mem hj')
            have hPf := hfp.now
            have hn9 : n9 * 40 ≤ 140737488355328 := by have := hRj.num; have := hPf.1; omega
            have hn9' : n9 ≤ 140737488355328 := by omega
            have hjI : (j2 : Int) < (k : Int) := by omega
            have hmi : ((mm : Int) == 0) = false := by rw [beq_eq_false_iff_ne]; omega
            have hss : ((mm : Int) == (mm : Int)) = true := by simp
            have cO := fun w1 (h1 : Gr wr w1) => ours_wd ⟨t.lines[j2].name.toArray⟩ ⟨t.lines[j2].value.toArray⟩ A9 n9 c9 t.lines[j2].ps w1 _ (Nat.le_refl _) (hPf.gr h1) hn9
            have cS := fun w1 X x (h1 : Gr wr w1) (h2 : Pars w1 w1.heap.size X n9 t.lines[j2].ps) => same10_any ⟨t.lines[j2].name.toArray⟩ ⟨t.lines[j2].value.toArray⟩ ⟨t.lines[j2].name.toArray⟩ ⟨t.lines[j2].value.toArray⟩ X A' n9 x n' c' t.lines[j2].ps t.lines[j2].ps w1 h2 (hP.gr h1) hn9' hRj.p2' true ⟨fun _ => ⟨rfl, rfl, rfl⟩, fun _ => rfl⟩
            clear hRj hfst hfst2 HA HM HF10 hfp hPf hn9 hn9' cE cR cD cT cT2 cF cF2
            obtain ⟨r0, r1, r2, _, _, _⟩ := hxr
            obtain ⟨s0, s1, s2, _, _, _⟩ := hzr
            generalize (ByteArray.mk t.lines[j2].name.toArray) = nl at *
            generalize (ByteArray.mk t.lines[j2].value.toArray) = vl at *
            go_wp2_with fail
            go_region_held3 (fun w' => w'.cell? ⟨w.heap.size, 1, none⟩ = some (.slice (some ad) k c) ∧ w'.cell? ⟨w9.heap.size, 0, none⟩ = some (.string nl) ∧ w'.cell? ⟨w9.heap.size, 1, none⟩ = some (.slice A9 n9 c9) ∧ w'.cell? ⟨w9.heap.size, 2, none⟩ = some (.string vl) ∧ w'.cell? (ad.add (j2 * 3)) = some (.string nl) ∧ w'.cell? ⟨(ad.add (j2 * 3)).block, (ad.add (j2 * 3)).off + 1, none⟩ = some (.slice A' n' c') ∧ w'.cell? ⟨(ad.add (j2 * 3)).block, (ad.add (j2 * 3)).off + 2, none⟩ = some (.string vl))
              (first
                | exact ⟨gr_cell kg2 r1, gr_cell kg2 s0, gr_cell kg2 s1, gr_cell kg2 s2, gr_cell kg2 hc0, gr_cell kg2 hc1, gr_cell kg2 hc2⟩
                | exact ⟨gr_cell kg1 r1, gr_cell kg1 s0, gr_cell kg1 s1, gr_cell kg1 s2, gr_cell kg1 hc0, gr_cell kg1 hc1, gr_cell kg1 hc2⟩
                | exact ⟨r1, s0, s1, s2, hc0, hc1, hc2⟩)
              (first
                | (go_at_call 22; have _t := kg1; refine (cS _ D1 a1 (by exact kg1) (by exact p1.now)).mono ?_; rintro _ v2 ⟨rfl, g2⟩; have kg2 := kg1.trans g2)
                | (go_at_call 23; refine (cO _ (by exact (Gr.refl wr).drew)).mono ?_; rintro _ v1 ⟨D1, a1, rfl, p1, _, g1⟩; have kg1 := (Gr.refl wr).drew.trans g1))
            go_wp2
            go_ret
            exact ⟨rfl, (hg19.trans hgr).trans kg2⟩
end Go.Proofs.YtbfngdpdgmgfpaaDoor
