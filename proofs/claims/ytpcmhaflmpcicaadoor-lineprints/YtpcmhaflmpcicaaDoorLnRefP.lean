/- What the reference's Print of lines returns. -/
import Derived.Test.YtpcmhaflmpcicaaDoorLnRef
import Derived.Test.YtpcmhaflmpcicaaDoorLnPrint
import Derived.Test.YtpcmhaflmpcicaaDoorLnLast
namespace Go.Proofs.YtpcmhaflmpcicaaDoor
open Go.RowKit

namespace Ln
/- the values behind a name, as they are written one by one -/
def prW (vs : List (List UInt8)) : List UInt8 := if vs = [] then [] else 61 :: prV vs
theorem prW_nil : prW [] = [] := rfl
theorem prW_all {vs : List (List UInt8)} (h : 0 < vs.length) : prW vs = 61 :: prV vs := by
  unfold prW; rw [if_neg (fun e => by rw [e] at h; simp at h)]
theorem prW_at0 (vs : List (List UInt8)) (h : 0 < vs.length) : prW (vs.take (0 + 1)) = ([61] : List UInt8) ++ Es.pq vs[0] := by
  have h1 := prV_at0 vs h
  rw [prW_all (by rw [List.length_take]; omega), h1]; simp [prV]
theorem prW_at (vs : List (List UInt8)) (k : Nat) (hk : k < vs.length) (h0 : 0 < k) : prW (vs.take (k + 1)) = prW (vs.take k) ++ [44] ++ Es.pq vs[k] := by
  rw [prW_all (by rw [List.length_take]; omega), prW_all (by rw [List.length_take]; omega), prV_at vs k hk h0]; simp
theorem prW_len (vs : List (List UInt8)) : (prW vs).length ≤ 3 * wtV vs + 1 := by
  have := prV_len vs
  unfold prW
  split
  · simp
  · rw [List.length_cons]; omega
end Ln
theorem cat_list (a b : ByteArray) : (a ++ b).data.toList = a.data.toList ++ b.data.toList := by simp [ByteArray.data_append]
theorem mk_list {s : ByteArray} {l : List UInt8} (h : s.data.toList = l) : s = ⟨l.toArray⟩ := by rw [← h]
set_option maxHeartbeats 8000000 in
set_option maxRecDepth 100000 in
theorem refprint_any (N V : ByteArray) (A : Option Addr) (n c : Nat) (ps : List Ln.Par) (w : World) (hP : Pars w w.heap.size A n ps) (hN : N.size ≤ 140737488355328) (hV : V.size ≤ 140737488355328)
    (hp1 : ∀ p ∈ ps, p.1.length ≤ 140737488355328) (hvn : ∀ p ∈ ps, p.2.length ≤ 140737488355328) (hp3 : ∀ p ∈ ps, ∀ v ∈ p.2, v.length ≤ 140737488355328)
    (hw0 : Ln.formed ⟨N.data.toList, ps, V.data.toList⟩ = true → N.size + V.size + Ln.wtPs ps ≤ 5000) :
    Calls Tryd.prog 11 #[.agg #[.string N, .slice A n c, .string V]] w fun e w' => e = .returned (.tuple #[.string ⟨(Ln.prT ⟨N.data.toList, ps, V.data.toList⟩).toArray⟩, .int .i64 (Ln.prE ⟨N.data.toList, ps, V.data.toList⟩)]) ∧ Gr w w' := by
  have hlen : ps.length = n := hP.1
  have hg0 : Gr w (w.alloc (.cells #[.string N, .slice A n c, .string V] 24)) := (Gr.refl w).allocO _
  have hx0 := Bx3.new w (.string N) (.slice A n c) (.string V) 24
  have cF := refformed_any N V A n c ps _ (hP.gr hg0) hN hV hp1 hvn hp3
  cases hfm : Ln.formed ⟨N.data.toList, ps, V.data.toList⟩
  · obtain ⟨e1, e2⟩ := Ln.pr_no hfm
    rw [e1, e2]
    rw [hfm] at cF
    clear hfm hw0 e1 e2
    go_enter Tryd.func11, Tryd.ntmps11
    go_wp2_with (go_at_call 13; refine cF.mono ?_; rintro e w1 ⟨rfl, hg1⟩)
    go_ret2
    exact ⟨rfl, hg0.trans hg1⟩
  · rw [hfm] at cF
    have hw := hw0 hfm
    clear hw0 hvn hp3 hp1
    have HOK := Lib.hid (fun h => Ln.pr_ok (l := ⟨N.data.toList, ps, V.data.toList⟩) hfm h)
    have HLG := Lib.hid (fun h => Ln.pr_long (l := ⟨N.data.toList, ps, V.data.toList⟩) hfm h)
    have HCL := Lib.hid (fun k hk => Ln.formed_at (l := ⟨N.data.toList, ps, V.data.toList⟩) hfm k hk)
    have HVP := Lib.hid (fun (k : Nat) (hk : k < ps.length) => ((Ln.parB_iff _).1 (((Ln.psB_iff _).1 ((Ln.formed_iff ⟨N.data.toList, ps, V.data.toList⟩).1 hfm).2.2.2).1 _ (List.getElem_mem hk))).2.1)
    have HPR : Hid (Ln.pr ⟨N.data.toList, ps, V.data.toList⟩ = N.data.toList ++ ps.flatMap Ln.prP ++ [58] ++ V.data.toList) := Lib.hid (by simp [Ln.pr])
    generalize Ln.prT ⟨N.data.toList, ps, V.data.toList⟩ = T at *
    generalize Ln.prE ⟨N.data.toList, ps, V.data.toList⟩ = E at *
    generalize Ln.pr ⟨N.data.toList, ps, V.data.toList⟩ = PR at *
    have HL := Lib.hid hlen
    have hnle : n ≤ 5000 := by have := Ln.wtPs_len ps; omega
    clear hfm hlen
    go_enter Tryd.func11, Tryd.ntmps11
    go_wp2_with fail
    refine cF.mono ?_
    rintro e w1 ⟨rfl, hg1⟩
    have HX1 := Lib.hid (hx0.gr hg1)
    have hg2 := hg0.trans hg1
    have hx1 := hx0.gr hg1
    obtain ⟨x0, x1, x2, _, _, _⟩ := hx1
    clear cF hx0
    go_wp2
    go_loopg [4, 17] n (fun g v4 v17 wx => ∃ sb : ByteArray, ∃ k : Nat, v4 = .string sb ∧ v17 = .int .i64 (k : Int) ∧ k + g = n ∧ Gr w1 wx ∧ Hid (sb.data.toList = N.data.toList ++ (ps.take k).flatMap Ln.prP))
    case atStart => exact ⟨N, 0, rfl, rfl, by omega, Gr.refl _, Lib.hid (by simp)⟩
    case round =>
      obtain ⟨sb, k, rfl, rfl, hkg, hgx, HSB⟩ := hrel
      have HG := Lib.hid hkg
      clear hkg x0 x1 x2
      have hxr := HX1.out.gr hgx
      obtain ⟨x0, x1, x2, _, _, _⟩ := hxr
      have hsbl : sb.size ≤ N.size + 3 * Ln.wtPs (ps.take k) := by
        rw [Lib.size_eq sb, HSB.out, List.length_append, ← Lib.size_eq]
        have := Ln.prPs_len (ps.take k)
        omega
      by_cases hk : k < n
      · obtain ⟨ad, hk', rfl, hbl, hc0, A', n', c', hc1, hS⟩ := (hP.gr (hg2.trans hgx)).at_ hk
        have hwt := Ln.wtPs_take ps k hk'
        have hwl := Ln.wtPs_le ps (k + 1)
        have HAT := Lib.hid (Ln.prPs_at ps k hk' N.data.toList)
        have HC := Lib.hid (HCL.out k hk')
        have hpn : ps[k].1.length + 1 + Ln.wtV ps[k].2 = Ln.wtP ps[k] := rfl
        have hnz : (ByteArray.mk ps[k].1.toArray).size = ps[k].1.length := size_mk _
        have HND : Hid ((ByteArray.mk ps[k].1.toArray).data.toList = ps[k].1) := Lib.hid rfl
        rw [← hnz] at hpn
        have hvl := hS.1
        have hv0 := HVP.out k hk'
        obtain ⟨vs, hvs⟩ : ∃ vs, ps[k].2 = vs := ⟨_, rfl⟩
        rw [hvs] at hS HC hpn hvl hv0 HAT
        have hsb1 : (sb ++ ⟨#[59]⟩).size ≤ sb.size + 1 := by rw [ByteArray.size_append]; exact Nat.le_refl _
        have hbd : sb.size + 1 + ps[k].1.length + 3 * Ln.wtV vs + 1 ≤ 20000 := by omega
        rw [← hnz] at hbd
        have hnm2 : (ByteArray.mk ps[k].1.toArray).size ≤ 20000 := by omega
        have hsb2 : sb.size ≤ 20000 := by omega
        have hsb3 : (sb ++ ⟨#[59]⟩).size ≤ 20000 := by omega
        have hnv : n' ≤ 20000 := by have := Ln.wtV_len vs; omega
        have HVL := Lib.hid (And.intro hvl hv0)
        clear hvs hwt hwl hpn hnz hvl hv0 hsb1
        generalize (ByteArray.mk ps[k].1.toArray) = nm at *
        have hbd2 : (sb ++ ⟨#[59]⟩ ++ nm).size + (3 * Ln.wtV vs + 1) ≤ 20000 := by
          rw [ByteArray.size_append, ByteArray.size_append]
          show sb.size + 1 + nm.size + _ ≤ _
          omega
        have HB0 : Hid ((sb ++ ⟨#[59]⟩ ++ nm).data.toList = N.data.toList ++ (ps.take k).flatMap Ln.prP ++ [59] ++ ps[k].1) := Lib.hid (by rw [cat_list, cat_list, HSB.out, HND.out])
        have HBD := Lib.hid hbd2
        clear hbd hbd2 hsbl
        go_wp2
        obtain ⟨bs, hbs⟩ : ∃ bs, sb ++ ⟨#[59]⟩ ++ nm = bs := ⟨_, rfl⟩
        rw [hbs] at HB0 HBD
        try rw [hbs]
        go_loopg [4, 36] n' (fun g v4 v36 wy => ∃ sc : ByteArray, ∃ i : Nat, v4 = .string sc ∧ v36 = .int .i64 (i : Int) ∧ i + g = n' ∧ Gr wr wy ∧ Hid (sc.data.toList = bs.data.toList ++ Ln.prW (vs.take i)))
        case atStart => exact ⟨bs, 0, rfl, rfl, by omega, Gr.refl _, Lib.hid (by rw [List.take_zero, Ln.prW_nil, List.append_nil])⟩
        case round =>
          obtain ⟨sc, i, rfl, rfl, hig, hgy, HSC⟩ := hrel
          have HGI := Lib.hid hig
          clear hig x0 x1 x2
          have hxr := (HX1.out.gr hgx).gr hgy
          obtain ⟨x0, x1, x2, _, _, _⟩ := hxr
          have hscl : sc.size ≤ bs.size + (3 * Ln.wtV (vs.take i) + 1) := by
            rw [Lib.size_eq sc, HSC.out, List.length_append, ← Lib.size_eq]
            have := Ln.prW_len (vs.take i)
            omega
          by_cases hi : i < n'
          · obtain ⟨av, hi', rfl, hbv, hcv0⟩ := hS.at_ hi
            have hcv := gr_cell hgy hcv0
            have hd1 := gr_cell hgy hc1
            have hwvl := Ln.wtV_le vs i
            have hmem : vs[i] ∈ vs := List.getElem_mem hi'
            have hcl := HC.out _ hmem
            have hvz := Ln.wtV_mem hmem
            have hbb := HBD.out
            have hpq := Es.pq_len vs[i]
            have cP := fun w' => refparam_any ⟨vs[i].toArray⟩ w' (by rw [size_mk]; omega)
            have e1 : (ByteArray.mk vs[i].toArray).data.toList = vs[i] := rfl
            rw [e1, Es.pqT_ok hcl, hcl] at cP
            have hpz : (ByteArray.mk (Es.pq vs[i]).toArray).size = (Es.pq vs[i]).length := size_mk _
            rw [← hpz] at hpq
            have HPD : Hid ((ByteArray.mk (Es.pq vs[i]).toArray).data.toList = Es.pq vs[i]) := Lib.hid rfl
            have HV0 := Lib.hid (fun (h : i = 0) => show Ln.prW (vs.take (i + 1)) = Ln.prW (vs.take i) ++ [61] ++ Es.pq vs[i] by subst h; rw [Ln.prW_at0 vs hi']; simp [Ln.prW_nil])
            have HV1 := Lib.hid (fun (h : 0 < i) => Ln.prW_at vs i hi' h)
            have hsc1 : sc.size ≤ 60000 := by omega
            have hpv1 : (ByteArray.mk (Es.pq vs[i]).toArray).size ≤ 60010 := by omega
            clear e1 hcl hpz hpq hvz hmem hwvl hbb hscl
            generalize (ByteArray.mk (Es.pq vs[i]).toArray) = pv at *
            generalize (ByteArray.mk vs[i].toArray) = sv at *
            by_cases h0 : i = 0
            · have hz : ((i : Int) == 0) = true := by rw [h0]; rfl
              have hsc2 : (sc ++ ⟨#[61]⟩).size ≤ 60001 := by rw [ByteArray.size_append]; show sc.size + 1 ≤ _; omega
              have HE : Hid ((sc ++ ⟨#[61]⟩ ++ pv).data.toList = bs.data.toList ++ Ln.prW (vs.take (i + 1))) := Lib.hid (by rw [cat_list, cat_list, HSC.out, HPD.out, HV0.out h0]; simp)
              clear h0
              go_wp2_with (go_at_call 22; refine (cP _).mono ?_; rintro e w' ⟨rfl, hg7⟩)
              go_roundg (n' - (i + 1))
              case measure => have := HGI.out; omega
              case rel => exact ⟨_, i + 1, rfl, by go_num, by omega, hgy.trans hg7, HE⟩
            · have hz : ((i : Int) == 0) = false := by rw [beq_eq_false_iff_ne]; omega
              have hsc2 : (sc ++ ⟨#[44]⟩).size ≤ 60001 := by rw [ByteArray.size_append]; show sc.size + 1 ≤ _; omega
              have HE : Hid ((sc ++ ⟨#[44]⟩ ++ pv).data.toList = bs.data.toList ++ Ln.prW (vs.take (i + 1))) := Lib.hid (by rw [cat_list, cat_list, HSC.out, HPD.out, HV1.out (by omega)]; simp)
              clear h0
              go_wp2_with (go_at_call 22; refine (cP _).mono ?_; rintro e w' ⟨rfl, hg7⟩)
              go_roundg (n' - (i + 1))
              case measure => have := HGI.out; omega
              case rel => exact ⟨_, i + 1, rfl, by go_num, by omega, hgy.trans hg7, HE⟩
          · obtain rfl : i = n' := by have := HGI.out; omega
            have he := HSC.out
            rw [List.take_of_length_le (by rw [HVL.out.1]; exact Nat.le_refl _), Ln.prW_all HVL.out.2, HB0.out] at he
            have HE : Hid (sc.data.toList = N.data.toList ++ (ps.take (k + 1)).flatMap Ln.prP) := Lib.hid (by rw [he, HAT.out]; simp)
            clear he
            go_wp2
            go_roundg (n - (k + 1))
            case measure => have := HG.out; omega
            case rel => exact ⟨sc, k + 1, rfl, by go_num, by omega, hgx.trans hgy, HE⟩
      · obtain rfl : k = n := by have := HG.out; omega
        have hsb : sb.size ≤ 20000 := by have := Ln.wtPs_le ps k; omega
        have hsb1 : (sb ++ ⟨#[58]⟩).size ≤ 20001 := by rw [ByteArray.size_append]; show sb.size + 1 ≤ _; omega
        have hV2 : V.size ≤ 20000 := by omega
        have HTX : Hid ((sb ++ ⟨#[58]⟩ ++ V).data.toList = PR) := Lib.hid (by
          rw [cat_list, cat_list, HSB.out, HPR.out, List.take_of_length_le (by rw [HL.out]; exact Nat.le_refl _)])
        have HSZ : Hid (sb.size + 1 + V.size = PR.length) := Lib.hid (by
          have h1 : (sb ++ ⟨#[58]⟩ ++ V).size = PR.length := by rw [Lib.size_eq, HTX.out]
          rw [ByteArray.size_append, ByteArray.size_append] at h1
          exact h1)
        clear hsbl
        by_cases hlen : 2000 < PR.length
        · obtain ⟨e1, e2⟩ := HLG.out hlen
          have hli : (2000 : Int) < (sb.size : Int) + 1 + (V.size : Int) := by have := HSZ.out; omega
          have HE := Lib.hid (And.intro e1 e2)
          clear e1 e2 hlen HLG HOK
          go_wp2
          go_ret2
          rw [HE.out.1, HE.out.2]
          exact ⟨rfl, hg2.trans hgx⟩
        · obtain ⟨e1, e2⟩ := HOK.out (by omega)
          have hli : ¬ (2000 : Int) < (sb.size : Int) + 1 + (V.size : Int) := by have := HSZ.out; omega
          have HE := Lib.hid (And.intro e1 e2)
          clear e1 e2 hlen HLG HOK
          go_wp2
          go_ret2
          rw [HE.out.1, HE.out.2, ← mk_list HTX.out]
          exact ⟨rfl, hg2.trans hgx⟩
end Go.Proofs.YtpcmhaflmpcicaaDoor
