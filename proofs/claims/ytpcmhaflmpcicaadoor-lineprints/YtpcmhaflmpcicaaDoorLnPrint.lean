/- What line.Print returns. -/
import Derived.Test.YtpcmhaflmpcicaaDoorLnForm2
import Derived.Test.YtpcmhaflmpcicaaDoorLnRowG
namespace Go.Proofs.YtpcmhaflmpcicaaDoor
open Go.RowKit

theorem RowG.lt {w : World} {B g n c : Nat} {l : List UInt8} (h : RowG w B g n c l) (hn : 0 < n) : g < w.heap.size := by
  obtain ⟨v, hv⟩ := Option.isSome_iff_exists.1 (h.there 0 (by have := h.le; omega)).1
  exact World.block_lt_of_cell? w ⟨g, 0, none⟩ hv
namespace Ln
theorem prPs_at (ps : List Par) (k : Nat) (hk : k < ps.length) (r : List UInt8) : r ++ (ps.take (k + 1)).flatMap prP = r ++ (ps.take k).flatMap prP ++ [59] ++ ps[k].1 ++ [61] ++ prV ps[k].2 := by
  rw [List.take_succ_eq_append_getElem hk, List.flatMap_append]
  simp [prP]
theorem formed_at {l : Li} (h : formed l = true) (k : Nat) (hk : k < l.ps.length) : ∀ v ∈ l.ps[k].2, Es.clE true v = 0 :=
  ((parB_iff _).1 (((psB_iff _).1 ((formed_iff l).1 h).2.2.2).1 _ (List.getElem_mem hk))).2.2.2
end Ln
set_option maxHeartbeats 8000000 in
set_option maxRecDepth 100000 in
theorem print_any (N V : ByteArray) (A : Option Addr) (n c : Nat) (ps : List Ln.Par) (w : World) (ht : Tab w) (hP : Pars w w.heap.size A n ps) (hnc : n ≤ c) (hC : Ln.Calm ps) (hvn : ∀ p ∈ ps, p.2.length ≤ 140737488355328) (hV : V.size ≤ 140737488355328) (hw0 : Ln.formed ⟨N.data.toList, ps, V.data.toList⟩ = true → N.size + V.size + Ln.wtPs ps ≤ 200000) :
    Calls Tryd.prog 9 #[.agg #[.string N, .slice A n c, .string V]] w fun e w' => e = .returned (.tuple #[.string ⟨(Ln.prT ⟨N.data.toList, ps, V.data.toList⟩).toArray⟩, .int .i64 (Ln.prE ⟨N.data.toList, ps, V.data.toList⟩)]) ∧ Gr w w' := by
  have hlen : ps.length = n := hP.1
  have hg0 : Gr w (w.alloc (.cells #[.string N, .slice A n c, .string V] 32)) := (Gr.refl w).allocO _
  have hx0 := Bx3.new w (.string N) (.slice A n c) (.string V) 32
  have cF := formed_any N V A n c ps _ (ht.keep hg0) (hP.gr hg0) hnc hC hvn hV
  cases hfm : Ln.formed ⟨N.data.toList, ps, V.data.toList⟩
  · obtain ⟨e1, e2⟩ := Ln.pr_no hfm
    rw [e1, e2]
    rw [hfm] at cF
    clear hfm e1 e2
    go_enter Tryd.func9, Tryd.ntmps9
    go_wp2_with (go_at_call 12; refine cF.mono ?_; rintro e w1 ⟨rfl, hg1⟩)
    go_ret2
    exact ⟨rfl, hg0.trans hg1⟩
  · rw [hfm] at cF
    have hw := hw0 hfm
    clear hw0 hC hvn
    have HOK := Lib.hid (fun h => Ln.pr_ok (l := ⟨N.data.toList, ps, V.data.toList⟩) hfm h)
    have HLG := Lib.hid (fun h => Ln.pr_long (l := ⟨N.data.toList, ps, V.data.toList⟩) hfm h)
    have HCL := Lib.hid (fun k hk => Ln.formed_at (l := ⟨N.data.toList, ps, V.data.toList⟩) hfm k hk)
    have HPR : Hid (Ln.pr ⟨N.data.toList, ps, V.data.toList⟩ = N.data.toList ++ ps.flatMap Ln.prP ++ [58] ++ V.data.toList) := Lib.hid (by simp [Ln.pr])
    have hN0 : 0 < N.size := by
      have := ((Ln.nameB_iff _).1 ((Ln.formed_iff _).1 hfm).1).1
      rw [Lib.size_eq]; exact this
    generalize Ln.prT ⟨N.data.toList, ps, V.data.toList⟩ = T at *
    generalize Ln.prE ⟨N.data.toList, ps, V.data.toList⟩ = E at *
    generalize Ln.pr ⟨N.data.toList, ps, V.data.toList⟩ = PR at *
    have HL := Lib.hid hlen
    have hnle : n ≤ 200000 := by have := Ln.wtPs_len ps; omega
    clear hfm hlen
    go_enter Tryd.func9, Tryd.ntmps9
    go_wp2_with fail
    refine cF.mono ?_
    rintro e w1 ⟨rfl, hg1⟩
    have hx1 := hx0.gr hg1
    have hg2 := hg0.trans hg1
    have hb1 := hx1.lt
    have ht1 := ht.keep hg2
    obtain ⟨cp, w2, hcv, hrow, hg3⟩ := conv_row w1 N (by omega)
    have hx2 := hx1.gr hg3
    have HX1 := Lib.hid hx1
    have HX2 := Lib.hid hx2
    obtain ⟨p0, p1, p2, p3, p4, p5⟩ := hx1
    obtain ⟨q0, q1, q2, q3, q4, q5⟩ := hx2
    clear cF hx0
    go_wp2
    go_loopg [4, 20] n (fun g v4 v20 wx => ∃ gb nb cb, ∃ k : Nat, v4 = .slice (some ⟨gb, 0, none⟩) nb cb ∧ v20 = .int .i64 (k : Int) ∧ k + g = n ∧ Below w1.heap.size w1 wx ∧ w1.heap.size ≤ wx.heap.size ∧ 0 < nb ∧ RowG wx w1.heap.size gb nb cb (N.data.toList ++ (ps.take k).flatMap Ln.prP))
    case atStart => exact ⟨_, _, _, 0, rfl, rfl, by omega, hg3.below, hg3.lt, hN0, by simpa using hrow⟩
    case round =>
      obtain ⟨gb, nb, cb, k, rfl, rfl, hkg, hbx, hszx, hnb0, hrx⟩ := hrel
      have hgx := hrx.lt hnb0
      have HG := Lib.hid hkg
      have hnbl := hrx.len
      clear hkg p0 p1 p2 p3 p4 p5 q0 q1 q2 q3 q4 q5 hcv hrow
      rw [List.length_append, ← Lib.size_eq] at hnbl
      have hfl := Ln.prPs_len (ps.take k)
      by_cases hk : k < n
      · obtain ⟨ad, hk', rfl, hbl, hc0', A', n', c', hc1', hS⟩ := (hP.keep hg2.below).at_ hk
        have hc0 := (hbx.cell (p := ad.add (k * 2)) (by rw [add_block]; omega)).trans hc0'
        have hc1 := (hbx.cell (p := ⟨(ad.add (k * 2)).block, (ad.add (k * 2)).off + 1, none⟩) (by show (ad.add (k * 2)).block < _; rw [add_block]; omega)).trans hc1'
        have hwt := Ln.wtPs_take ps k hk'
        have hwl := Ln.wtPs_le ps (k + 1)
        have HAT := Lib.hid (Ln.prPs_at ps k hk' N.data.toList)
        have HC := Lib.hid (HCL.out k hk')
        have hpn : ps[k].1.length + 1 + Ln.wtV ps[k].2 = Ln.wtP ps[k] := rfl
        have hnb : nb ≤ N.size + 3 * Ln.wtPs (ps.take k) := by omega
        have hgA : Gr wr (wr.alloc (.cells #[.string ⟨ps[k].1.toArray⟩, .slice A' n' c'] 49)) := (Gr.refl wr).allocO _
        have hyA := Bx2.new wr (.string ⟨ps[k].1.toArray⟩) (.slice A' n' c') 49
        have hrA := hrx.gr hgA
        have hszA : w1.heap.size ≤ (wr.alloc (.cells #[.string ⟨ps[k].1.toArray⟩, .slice A' n' c'] 49)).heap.size := by have := hgA.lt; omega
        have hzA : (wr.alloc (.cells #[.string ⟨ps[k].1.toArray⟩, .slice A' n' c'] 49)).heap.size = wr.heap.size + 1 := by simp
        have hbA : Below w1.heap.size w1 (wr.alloc (.cells #[.string ⟨ps[k].1.toArray⟩, .slice A' n' c'] 49)) := hbx.trans (hgA.low hszx)
        have hnz : (ByteArray.mk ps[k].1.toArray).size = ps[k].1.length := size_mk _
        have HND : Hid ((ByteArray.mk ps[k].1.toArray).data.toList = ps[k].1) := Lib.hid rfl
        rw [← hnz] at hpn
        clear hrx hnbl hfl hgA hbx hszx hnz hc0' hc1'
        generalize (ByteArray.mk ps[k].1.toArray) = nm at *
        go_wp2_with (first
          | (at_builtin; refine ap_byteS (wr.alloc (.cells #[.string nm, .slice A' n' c'] 49)) rfl (.tmp 24) (.tmp 25) rfl w1.heap.size gb nb cb _ rfl hrA 59 (by rw [hzA]; rfl) (by omega) hszA ?_; intro g2 c2 w3 hr3 hm3 hd3; have hy3 := hyA.mv hm3 (by omega); have y0 := hy3.c0; have hsz3 : w1.heap.size ≤ w3.heap.size := Nat.le_trans hszA hm3.lt; have hb3 := hbA.trans (hm3.low hrA.new hszA))
          | (at_builtin; refine ap_textS w3 rfl (.tmp 27) (.tmp 29) rfl w1.heap.size g2 (nb + 1) c2 _ rfl hr3 nm rfl (by omega) hsz3 ?_; intro g4 c4 w4 hr4 hm4 hd4; have hy4 := hy3.mv hm4 (by omega); have hsz4 : w1.heap.size ≤ w4.heap.size := Nat.le_trans hsz3 hm4.lt; have hb4 := hb3.trans (hm4.low hr3.new hsz3))
          | (at_builtin; refine ap_byteS w4 rfl (.tmp 31) (.tmp 32) rfl w1.heap.size g4 (nb + 1 + nm.size) c4 _ rfl hr4 61 rfl (by omega) hsz4 ?_; intro g5 c5 w5 hr5 hm5 hd5; have hm3z := hm3.lt; have hm4z := hm4.lt; have hy5 := hy4.mv hm5 (by omega); have y1 := hy5.c1; have hsz5 : w1.heap.size ≤ w5.heap.size := Nat.le_trans hsz4 hm5.lt; have hb5 := hb4.trans (hm5.low hr4.new hsz4)))
        have hgl5 : 0 < nb + 1 + nm.size + 1 := by omega
        have HBS : Hid (N.data.toList ++ (ps.take (k + 1)).flatMap Ln.prP = N.data.toList ++ (ps.take k).flatMap Ln.prP ++ [59] ++ nm.data.toList ++ [61] ++ Ln.prV ps[k].2) := Lib.hid (by rw [HND.out]; exact HAT.out)
        have hm0 : nb + 1 + nm.size + 1 + 3 * Ln.wtV ps[k].2 ≤ 900000 := by omega
        have hml := hr5.len
        clear hr3 hr4 hm3 hm4 hm5 hy3 hy4 hy5 y0 y1 hd3 hd4 hd5 hrA hyA hbA hszA hzA HAT hpn hwl hwt hnb hb3 hb4 hsz3 hsz4 hc0 hc1 hm3z hm4z hgx HND
        generalize N.data.toList ++ (ps.take k).flatMap Ln.prP ++ [59] ++ nm.data.toList ++ [61] = bs at *
        generalize nb + 1 + nm.size + 1 = m0 at *
        have hvl := hS.1
        obtain ⟨vs, hvs⟩ : ∃ vs, ps[k].2 = vs := ⟨_, rfl⟩
        rw [hvs] at hS HC HBS hm0 hvl
        have HVL := Lib.hid hvl
        have hnle' : n' ≤ 300000 := by have := Ln.wtV_len vs; omega
        clear hvl hvs
        go_loopg [4, 37] n' (fun g v4 v37 wy => ∃ gb nb cb, ∃ i : Nat, v4 = .slice (some ⟨gb, 0, none⟩) nb cb ∧ v37 = .int .i64 (i : Int) ∧ i + g = n' ∧ Below w1.heap.size w1 wy ∧ w1.heap.size ≤ wy.heap.size ∧ 0 < nb ∧ RowG wy w1.heap.size gb nb cb (bs ++ Ln.prV (vs.take i)))
        case atStart => exact ⟨_, _, _, 0, rfl, rfl, by omega, hb5, hsz5, hgl5, by simpa [Ln.prV] using hr5⟩
        case round =>
          obtain ⟨gy, ny, cy, i, rfl, rfl, hig, hby, hszy, hgy, hry⟩ := hrel
          have HGI := Lib.hid hig
          have hnyl := hry.len
          clear hig hb5 hsz5 hgl5 hr5
          rw [List.length_append, hml] at hnyl
          have hfl := Ln.prV_len (vs.take i)
          by_cases hi : i < n'
          · obtain ⟨av, hi', rfl, hbv, hcv0⟩ := hS.at_ hi
            have hcv := (hby.cell (p := av.add i) (by rw [add_block]; omega)).trans hcv0
            have hwv := Ln.wtV_take vs i hi'
            have hwvl := Ln.wtV_le vs (i + 1)
            have hmem : vs[i] ∈ vs := List.getElem_mem hi'
            have hcl := HC.out _ hmem
            have hvz := Ln.wtV_mem hmem
            have hpq := Es.pq_len vs[i]
            have cP := fun w' (t' : Tab w') => param_any ⟨vs[i].toArray⟩ w' t' (by rw [size_mk]; omega)
            have e1 : (ByteArray.mk vs[i].toArray).data.toList = vs[i] := rfl
            rw [e1, Es.pqT_ok hcl, hcl] at cP
            have hpz : (ByteArray.mk (Es.pq vs[i]).toArray).size = (Es.pq vs[i]).length := size_mk _
            rw [← hpz] at hpq
            have HPD : Hid ((ByteArray.mk (Es.pq vs[i]).toArray).data.toList = Es.pq vs[i]) := Lib.hid rfl
            have HV0 := Lib.hid (fun (h : i = 0) => show Ln.prV (vs.take (i + 1)) = Ln.prV (vs.take i) ++ Es.pq vs[i] by subst h; exact Ln.prV_at0 vs hi')
            have HV1 := Lib.hid (fun (h : 0 < i) => Ln.prV_at vs i hi' h)
            have hny : ny ≤ m0 + 3 * Ln.wtV (vs.take i) := by omega
            clear hpz e1 hcl hmem hnyl hfl hcv0
            generalize (ByteArray.mk vs[i].toArray) = vb at *
            generalize (ByteArray.mk (Es.pq vs[i]).toArray) = pw at *
            rcases Nat.eq_zero_or_pos i with h0 | h0
            · have hi0 : ¬ (0 : Int) < (i : Int) := by omega
              have HV := Lib.hid (HV0.out h0)
              clear h0 HV0 HV1
              have cP2 := cP wr (ht1.below hby ht1.lt)
              go_wp2_with (first
                | (go_at_call 21; refine cP2.mono ?_; rintro e w7 ⟨rfl, hg7⟩; have hr7 := hry.gr hg7; have hsz7 : w1.heap.size ≤ w7.heap.size := Nat.le_trans hszy hg7.lt; have hb7 := hby.trans (hg7.low hszy))
                | (at_builtin; refine ap_textS w7 rfl (.tmp 52) (.tmp 53) rfl w1.heap.size gy ny cy _ rfl hr7 pw rfl (by omega) hsz7 ?_; intro g8 c8 w8 hr8 hm8 hd8; have hsz8 : w1.heap.size ≤ w8.heap.size := Nat.le_trans hsz7 hm8.lt; have hb8 := hb7.trans (hm8.low hr7.new hsz7)))
              go_roundg (n' - (i + 1))
              case measure => have := HGI.out; omega
              case rel =>
                refine ⟨g8, _, c8, i + 1, rfl, by go_num, by omega, hb8, hsz8, by omega, ?_⟩
                rw [HV.out, ← List.append_assoc, ← HPD.out]; exact hr8
            · have hi0 : (0 : Int) < (i : Int) := by omega
              have HV := Lib.hid (HV1.out h0)
              clear h0 HV0 HV1
              go_wp2_with (first
                | (at_builtin; refine ap_byteS wr rfl (.tmp 44) (.tmp 45) rfl w1.heap.size gy ny cy _ rfl hry 44 rfl (by omega) hszy ?_; intro g6 c6 w6 hr6 hm6 hd6; have hsz6 : w1.heap.size ≤ w6.heap.size := Nat.le_trans hszy hm6.lt; have hb6 := hby.trans (hm6.low hry.new hszy))
                | (go_at_call 21; refine (cP w6 (ht1.below hb6 ht1.lt)).mono ?_; rintro e w7 ⟨rfl, hg7⟩; have hr7 := hr6.gr hg7; have hsz7 : w1.heap.size ≤ w7.heap.size := Nat.le_trans hsz6 hg7.lt; have hb7 := hb6.trans (hg7.low hsz6))
                | (at_builtin; refine ap_textS w7 rfl (.tmp 52) (.tmp 53) rfl w1.heap.size g6 (ny + 1) c6 _ rfl hr7 pw rfl (by omega) hsz7 ?_; intro g8 c8 w8 hr8 hm8 hd8; have hsz8 : w1.heap.size ≤ w8.heap.size := Nat.le_trans hsz7 hm8.lt; have hb8 := hb7.trans (hm8.low hr7.new hsz7)))
              go_roundg (n' - (i + 1))
              case measure => have := HGI.out; omega
              case rel =>
                refine ⟨g8, _, c8, i + 1, rfl, by go_num, by omega, hb8, hsz8, by omega, ?_⟩
                have e2 : bs ++ (Ln.prV (vs.take i) ++ 44 :: Es.pq vs[i]) = bs ++ Ln.prV (vs.take i) ++ [44] ++ Es.pq vs[i] := by simp
                rw [HV.out, e2, ← HPD.out]; exact hr8
          · obtain rfl : i = n' := by have := HGI.out; omega
            rw [List.take_of_length_le (by rw [HVL.out]; exact Nat.le_refl _), ← HBS.out] at hry
            clear hnyl hfl
            go_wp2
            go_roundg (n - (k + 1))
            case measure => have := HG.out; omega
            case rel => exact ⟨gy, ny, cy, k + 1, rfl, by go_num, by omega, hby, hszy, by omega, hry⟩
      · obtain rfl : k = n := by have := HG.out; omega
        rw [List.take_of_length_le (by rw [HL.out]; exact Nat.le_refl _)] at hrx hnbl hfl
        have hxx := HX1.out.below hbx (by omega)
        have hv2 := hxx.c2
        have hnb : nb ≤ N.size + 3 * Ln.wtPs ps := by omega
        have hgb := hg2.below.trans (hbx.mono (by omega : w.heap.size ≤ w1.heap.size))
        clear hnbl hfl
        have HB : Hid (Below w.heap.size w wr) := Lib.hid hgb
        by_cases hlong : 2000 < nb + 1 + V.size
        · go_wp2_with (first
            | (at_builtin; refine ap_byteS wr rfl (.tmp 57) (.tmp 58) rfl w1.heap.size gb nb cb _ rfl hrx 58 rfl (by omega) hszx ?_; intro g6 c6 w6 hr6 hm6 hd6; have hsz6 : w1.heap.size ≤ w6.heap.size := Nat.le_trans hszx hm6.lt; have hb6 := hbx.trans (hm6.low hrx.new hszx); have hv6 := (HX1.out.below hb6 (by omega)).c2)
            | (at_builtin; refine ap_textS w6 rfl (.tmp 60) (.tmp 62) rfl w1.heap.size g6 (nb + 1) c6 _ rfl hr6 V rfl (by omega) hsz6 ?_; intro g8 c8 w8 hr8 hm8 hd8; have hb8 := hb6.trans (hm8.low hr6.new hsz6)))
          have HE := Lib.hid (HLG.out (by
            have h1 := hr8.len
            rw [HPR.out, h1]; exact hlong))
          have hli : (2000 : Int) < (nb : Int) + 1 + (V.size : Int) := by omega
          go_wp2
          go_ret2
          exact ⟨by rw [HE.out.1, HE.out.2]; first | done | rfl, ⟨hg2.below.trans (hb8.mono (by omega))⟩⟩
        · have hli : ¬ (2000 : Int) < (nb : Int) + 1 + (V.size : Int) := by omega
          go_wp2_with (first
            | (at_builtin; refine ap_byteS wr rfl (.tmp 57) (.tmp 58) rfl w1.heap.size gb nb cb _ rfl hrx 58 rfl (by omega) hszx ?_; intro g6 c6 w6 hr6 hm6 hd6; have hsz6 : w1.heap.size ≤ w6.heap.size := Nat.le_trans hszx hm6.lt; have hb6 := hbx.trans (hm6.low hrx.new hszx); have hv6 := (HX1.out.below hb6 (by omega)).c2)
            | (at_builtin; refine ap_textS w6 rfl (.tmp 60) (.tmp 62) rfl w1.heap.size g6 (nb + 1) c6 _ rfl hr6 V rfl (by omega) hsz6 ?_; intro g8 c8 w8 hr8 hm8 hd8; have hb8 := hb6.trans (hm8.low hr6.new hsz6); have hbk := conv_backG hr8; rw [← HPR.out] at hbk))
          have HE := Lib.hid (HOK.out (by
            have h1 := hr8.len
            rw [HPR.out, h1]; omega))
          go_ret2
          exact ⟨by rw [HE.out.1, HE.out.2]; first | done | rfl, ⟨hg2.below.trans (hb8.mono (by omega))⟩⟩
end Go.Proofs.YtpcmhaflmpcicaaDoor
