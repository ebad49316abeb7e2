/- What the reference's Name and Formed of lines return. -/
import Derived.Test.YtpcmhaflmpcicaaDoorLnForm2
import Derived.Test.YtpcmhaflmpcicaaDoorRefTx
namespace Go.Proofs.YtpcmhaflmpcicaaDoor
open Go.RowKit

set_option maxHeartbeats 2000000 in
set_option maxRecDepth 100000 in
theorem refname_any (s : ByteArray) (w : World) (hs : s.size ≤ 140737488355328) :
    Calls Tryd.prog 15 #[.string s] w fun e w' => e = .returned (.bool (Ln.nameB s.data.toList)) ∧ w = w' := by
  have hsz := Lib.size_eq s
  have HB := Lib.hid (fun b h hb => Ln.nameB_bad (s := s.data.toList) (b := b) h hb)
  have HO := Lib.hid (fun (h0 : 0 < s.size) (h1 : s.size ≤ 60) h => Ln.nameB_ok (s := s.data.toList) (by omega) (by omega) h)
  have HZ := Lib.hid (fun (h : s.size = 0) => show Ln.nameB s.data.toList = false by rw [empty_list s h]; rfl)
  have HL := Lib.hid (fun (h : 60 < s.size) => Ln.nameB_long (s := s.data.toList) (by omega))
  generalize Ln.nameB s.data.toList = E at *
  clear hsz
  go_enter Tryd.func15, Tryd.ntmps15
  go_wp2
  go_loopg [6] s.size (fun g v wx => ∃ i : Nat, v = .int .i64 (i : Int) ∧ i + g = s.size ∧ w = wx ∧ Hid ((s.data.toList.take i).all Ln.inN = true))
  case atStart => exact ⟨0, rfl, by omega, rfl, Lib.hid (by simp)⟩
  case round =>
    obtain ⟨i, rfl, hig, rfl, HN⟩ := hrel
    have HG := Lib.hid hig
    clear hig
    by_cases hi : i < s.size
    · have cI := fun w => letter_any s[i] w
      cases hin : Ln.inN s[i]
      · have HE := Lib.hid (HB.out _ (at_mem s i hi) hin)
        rw [hin] at cI
        clear hin
        go_wp2_with (go_at_call 28; refine (cI _).mono ?_; rintro e w' ⟨rfl, rfl⟩)
        go_ret
        exact ⟨ret_bool HE.out.symm, rfl⟩
      · have HE := Lib.hid (all_at hi HN.out hin)
        rw [hin] at cI
        clear hin
        go_wp2_with (go_at_call 28; refine (cI _).mono ?_; rintro e w' ⟨rfl, rfl⟩)
        go_roundg (s.size - (i + 1))
        case measure => have := HG.out; omega
        case rel => exact ⟨i + 1, by go_num, by omega, rfl, HE⟩
    · have he := HN.out
      rw [take_end s i (by omega)] at he
      obtain rfl : i = s.size := by have := HG.out; omega
      rcases Nat.eq_zero_or_pos s.size with h0 | h0
      · have HE := Lib.hid (HZ.out h0)
        have h1 : ¬ (0 : Int) < (s.size : Int) := by omega
        clear he h0
        go_wp2
        go_ret
        exact ⟨ret_bool HE.out.symm, rfl⟩
      · have h1 : (0 : Int) < (s.size : Int) := by omega
        by_cases h60 : 60 < s.size
        · have HE := Lib.hid (HL.out h60)
          have h2 : ¬ (s.size : Int) ≤ 60 := by omega
          clear he h60
          go_wp2
          go_ret
          exact ⟨ret_bool HE.out.symm, rfl⟩
        · have HE := Lib.hid (HO.out h0 (by omega) he)
          have h2 : (s.size : Int) ≤ 60 := by omega
          clear he h60
          go_wp2
          go_ret
          exact ⟨ret_bool HE.out.symm, rfl⟩
set_option maxHeartbeats 8000000 in
set_option maxRecDepth 100000 in
theorem refformed_any (N V : ByteArray) (A : Option Addr) (n c : Nat) (ps : List Ln.Par) (w : World) (hP : Pars w w.heap.size A n ps) (hN : N.size ≤ 140737488355328) (hV : V.size ≤ 140737488355328)
    (hp1 : ∀ p ∈ ps, p.1.length ≤ 140737488355328) (hvn : ∀ p ∈ ps, p.2.length ≤ 140737488355328) (hp3 : ∀ p ∈ ps, ∀ v ∈ p.2, v.length ≤ 140737488355328) :
    Calls Tryd.prog 13 #[.agg #[.string N, .slice A n c, .string V]] w fun e w' => e = .returned (.bool (Ln.formed ⟨N.data.toList, ps, V.data.toList⟩)) ∧ Gr w w' := by
  have hlen : ps.length = n := hP.1
  have hg0 : Gr w (w.alloc (.cells #[.string N, .slice A n c, .string V] 24)) := (Gr.refl w).allocO _
  have hx0 := Bx3.new w (.string N) (.slice A n c) (.string V) 24
  have cN := fun w => refname_any N w hN
  cases hnm : Ln.nameB N.data.toList
  · rw [Ln.formed_name (l := ⟨N.data.toList, ps, V.data.toList⟩) hnm]
    rw [hnm] at cN
    clear hnm
    go_enter Tryd.func13, Tryd.ntmps13
    go_wp2_with (go_at_call 15; refine (cN _).mono ?_; rintro e w' ⟨rfl, rfl⟩)
    go_ret
    exact ⟨rfl, hg0⟩
  · rw [hnm] at cN
    by_cases h60 : 60 < n
    · rw [Ln.formed_many (l := ⟨N.data.toList, ps, V.data.toList⟩) (by show 60 < ps.length; omega)]
      have hi60 : (60 : Int) < (n : Int) := by omega
      clear hnm
      go_enter Tryd.func13, Tryd.ntmps13
      go_wp2_with (go_at_call 15; refine (cN _).mono ?_; rintro e w' ⟨rfl, rfl⟩)
      go_ret
      exact ⟨rfl, hg0⟩
    · have hi60 : ¬ (60 : Int) < (n : Int) := by omega
      have cF := fun w => clean_any false V w hV
      by_cases hcl : Es.clE false V.data.toList = 0
      · rw [hcl] at cF
        have HB := Lib.hid (fun h => Ln.formed_ps (l := ⟨N.data.toList, ps, V.data.toList⟩) h)
        have HO := Lib.hid (fun h => Ln.formed_ok (l := ⟨N.data.toList, ps, V.data.toList⟩) hnm (by show ps.length ≤ 60; omega) hcl h)
        have HL := Lib.hid hlen
        generalize Ln.formed ⟨N.data.toList, ps, V.data.toList⟩ = E at *
        clear hnm hlen hcl
        go_enter Tryd.func13, Tryd.ntmps13
        go_wp2_with (first
          | (go_at_call 15; refine (cN _).mono ?_; rintro e w' ⟨rfl, rfl⟩)
          | (go_at_call 26; refine (cF _).mono ?_; rintro e w' ⟨rfl, rfl⟩))
        generalize w.alloc (.cells #[.string N, .slice A n c, .string V] 24) = w0 at *
        have HX0 := Lib.hid hx0
        go_loopg [26] n (fun g v wx => ∃ k : Nat, v = .int .i64 (k : Int) ∧ k + g = n ∧ Gr w0 wx ∧ Hid (Ln.psB (ps.take k) = true))
        case atStart => exact ⟨0, rfl, by omega, Gr.refl _, Lib.hid (by rw [List.take_zero]; decide)⟩
        case round =>
          obtain ⟨k, rfl, hkg, hg3, HN⟩ := hrel
          have HG := Lib.hid hkg
          clear hkg
          have hg4 := hg0.trans hg3
          have hx3 := HX0.out.gr hg3
          by_cases hk : k < n
          · have hPr := hP.gr hg4
            obtain ⟨ad, hk', rfl, hbl, hc0, A', n', c', hc1, hS⟩ := hPr.at_ hk
            obtain ⟨x0, x1, x2, _, _, _⟩ := hx3
            have hvk := hvn _ (List.getElem_mem hk')
            have hvl := hS.1
            have hnv : n' ≤ 140737488355328 := by omega
            have HST := Lib.hid (Ln.psB_at ps k hk')
            have e1 : (ByteArray.mk ps[k].1.toArray).data.toList = ps[k].1 := rfl
            have cP := fun w => refname_any ⟨ps[k].1.toArray⟩ w (by rw [size_mk]; exact hp1 _ (List.getElem_mem hk'))
            rw [e1] at cP
            have hg5 : Gr wr (wr.alloc (.cells #[.string ⟨ps[k].1.toArray⟩, .slice A' n' c'] 46)) := (Gr.refl wr).allocO _
            have hy5 := Bx2.new wr (.string ⟨ps[k].1.toArray⟩) (.slice A' n' c') 46
            have HND : Hid ((ByteArray.mk ps[k].1.toArray).data.toList = ps[k].1) := Lib.hid rfl
            have HPN := Lib.hid (fun (h : Ln.parB ps[k] = false) => HB.out (Ln.psB_no ps (k + 1) (by rw [HST.out, h]; simp)))
            cases hnb : Ln.nameB ps[k].1
            · have HE : Hid (E = false) := Lib.hid (HPN.out (Ln.parB_name hnb))
              rw [hnb] at cP
              clear hnb e1 hvk hvl HST HPN HND
              generalize (ByteArray.mk ps[k].1.toArray) = nb at *
              go_wp2_with (go_at_call 15; refine (cP _).mono ?_; rintro e w' ⟨rfl, rfl⟩)
              go_ret
              exact ⟨ret_bool HE.out.symm, hg4.trans hg5⟩
            · rw [hnb] at cP
              rcases Nat.eq_zero_or_pos n' with h0 | h0
              · subst h0
                have HE : Hid (E = false) := Lib.hid (HPN.out (Ln.parB_zero hvl))
                clear hnb e1 hvk hvl HST HPN HND
                generalize (ByteArray.mk ps[k].1.toArray) = nb at *
                go_wp2_with (go_at_call 15; refine (cP _).mono ?_; rintro e w' ⟨rfl, rfl⟩)
                go_ret
                exact ⟨ret_bool HE.out.symm, hg4.trans hg5⟩
              · have h1 : ¬ (n' : Int) < 1 := by omega
                by_cases hm : 60 < n'
                · have HE : Hid (E = false) := Lib.hid (HPN.out (Ln.parB_many (by rw [hvl]; exact hm)))
                  have hm1 : (60 : Int) < (n' : Int) := by omega
                  clear hnb e1 hvk hvl HST HPN HND hm
                  generalize (ByteArray.mk ps[k].1.toArray) = nb at *
                  go_wp2_with (go_at_call 15; refine (cP _).mono ?_; rintro e w' ⟨rfl, rfl⟩)
                  go_ret
                  exact ⟨ret_bool HE.out.symm, hg4.trans hg5⟩
                · have hm1 : ¬ (60 : Int) < (n' : Int) := by omega
                  have HOk := Lib.hid (fun (h : ∀ v ∈ ps[k].2, Es.clE true v = 0) => Ln.parB_ok (p := ps[k]) hnb (by omega) (by omega) h)
                  have HVL := Lib.hid hvl
                  have HBD := Lib.hid (fun (v : List UInt8) (hv : v ∈ ps[k].2) (hc : Es.clE true v ≠ 0) => HPN.out (Ln.parB_bad (p := ps[k]) (v := v) hv hc))
                  have hp3k := hp3 _ (List.getElem_mem hk')
                  have HCT := Lib.hid (fun (h : ((ps.take k).map Prod.fst).contains ps[k].1 = true) => HB.out (Ln.psB_no ps (k + 1) (by rw [HST.out, h]; simp)))
                  have HGO := Lib.hid (fun (h : ((ps.take k).map Prod.fst).contains ps[k].1 = false) (h2 : Ln.parB ps[k] = true) => show Ln.psB (ps.take (k + 1)) = true by rw [HST.out, h, h2, HN.out]; rfl)
                  obtain ⟨pn, hpn⟩ : ∃ pn, ps[k].1 = pn := ⟨_, rfl⟩
                  clear hnb e1 hvk hvl HST HPN hm
                  rw [hpn] at HCT HGO
                  have HPK := Lib.hid hpn
                  have HNP : Hid ((ByteArray.mk ps[k].1.toArray).data.toList = pn) := Lib.hid (by rw [HND.out, hpn])
                  clear hpn HND
                  generalize (ByteArray.mk ps[k].1.toArray) = nb at *
                  go_wp2_with (go_at_call 15; refine (cP _).mono ?_; rintro e w' ⟨rfl, rfl⟩)
                  generalize wr.alloc (.cells #[.string nb, .slice A' n' c'] 46) = W at *
                  have HY5 := Lib.hid hy5
                  have HX5 := Lib.hid ((HX0.out.gr hg3).gr hg5)
                  have hgW := hg4.trans hg5
                  clear x0 x1 x2 hc0 hc1 hPr hy5
                  go_loopg [51] k (fun g v wx => ∃ j : Nat, v = .int .i64 (j : Int) ∧ j + g = k ∧ Gr W wx ∧ Hid (pn ∉ (ps.take j).map Prod.fst))
                  case atStart => exact ⟨0, rfl, by omega, Gr.refl _, Lib.hid (by simp)⟩
                  case round =>
                    obtain ⟨j, rfl, hjg, hgx, HNo⟩ := hrel
                    have HGJ := Lib.hid hjg
                    clear hjg
                    have hgWx := hgW.trans hgx
                    by_cases hj : j < k
                    · have hjn : j < n := by omega
                      have hxx := HX5.out.gr hgx
                      have hyx := HY5.out.gr hgx
                      obtain ⟨x0, x1, x2, _, _, _⟩ := hxx
                      have y0 := hyx.c0
                      have y1 := hyx.c1
                      obtain ⟨ad2, hj', he2, hbl2, hd0, A2', n2', c2', hd1, hS2⟩ := (hP.gr hgWx).at_ hjn
                      injection he2 with he2
                      subst he2
                      have HT1 := Lib.hid (List.take_succ_eq_append_getElem hj')
                      by_cases he : ps[j].1 = pn
                      · have hs1 : ((ByteArray.mk ps[j].1.toArray).toList == nb.toList) = true := str_eq ⟨fun _ => by rw [HNP.out]; exact he, fun _ => rfl⟩
                        have HE : Hid (E = false) := Lib.hid (HCT.out (by
                          rw [List.contains_iff_mem]
                          exact List.mem_map.2 ⟨ps[j], by rw [List.mem_take_iff_getElem]; exact ⟨j, by omega, rfl⟩, he⟩))
                        clear he
                        generalize (ByteArray.mk ps[j].1.toArray) = nj at *
                        go_wp2
                        go_quiet (fail)
                        go_wp2
                        go_ret
                        exact ⟨ret_bool HE.out.symm, hgWx.trans ((Gr.refl _).drewN _)⟩
                      · have hs1 : ((ByteArray.mk ps[j].1.toArray).toList == nb.toList) = false := str_eq ⟨fun h => (by cases h), fun h => absurd (by rw [HNP.out] at h; exact h) he⟩
                        have HE : Hid (pn ∉ (ps.take (j + 1)).map Prod.fst) := Lib.hid (by
                          rw [HT1.out, List.map_append, List.mem_append, List.map_cons, List.map_nil, List.mem_singleton]
                          exact fun h => h.elim HNo.out (fun e => he e.symm))
                        clear he
                        generalize (ByteArray.mk ps[j].1.toArray) = nj at *
                        go_wp2
                        go_quiet (fail)
                        go_wp2
                        go_roundg (k - (j + 1))
                        case measure => have := HGJ.out; omega
                        case rel => exact ⟨j + 1, by go_num, by omega, hgx.trans ((Gr.refl _).drewN _), HE⟩
                    · obtain rfl : j = k := by have := HGJ.out; omega
                      have HGO2 := Lib.hid (fun h2 => HGO.out (by
                        cases hc : ((ps.take j).map Prod.fst).contains pn
                        · rfl
                        · exact absurd (List.contains_iff_mem.1 hc) HNo.out) h2)
                      have hyx := HY5.out.gr hgx
                      have y0 := hyx.c0
                      have y1 := hyx.c1
                      have hSx := (hS.keep (hg5.trans hgx).below).more (hg5.trans hgx).lt
                      obtain ⟨vs, hvs⟩ : ∃ vs, ps[j].2 = vs := ⟨_, rfl⟩
                      rw [hvs] at hSx HBD HVL hp3k
                      have HOk2 := Lib.hid (fun (h : ∀ v ∈ vs, Es.clE true v = 0) => HGO2.out (HOk.out (by rw [hvs]; exact h)))
                      clear hvs
                      go_wp2
                      generalize wr = wy at *
                      go_loopg [67] n' (fun g v wx => ∃ i : Nat, v = .int .i64 (i : Int) ∧ i + g = n' ∧ Gr wy wx ∧ Hid (∀ v ∈ vs.take i, Es.clE true v = 0))
                      case atStart => exact ⟨0, rfl, by omega, Gr.refl _, Lib.hid (by simp)⟩
                      case round =>
                        obtain ⟨i, rfl, hig, hgz, HAll⟩ := hrel
                        have HGI := Lib.hid hig
                        clear hig y0 y1
                        have hyz := hyx.gr hgz
                        have y0 := hyz.c0
                        have y1 := hyz.c1
                        by_cases hi : i < n'
                        · obtain ⟨av, hi', rfl, hbv, hcv⟩ := ((hSx.keep hgz.below).more hgz.lt).at_ hi
                          have hle := hp3k _ (List.getElem_mem hi')
                          have cC := fun w => clean_any true ⟨vs[i].toArray⟩ w (by rw [size_mk]; exact hle)
                          have e3 : (ByteArray.mk vs[i].toArray).data.toList = vs[i] := rfl
                          rw [e3] at cC
                          by_cases hcl : Es.clE true vs[i] = 0
                          · rw [hcl] at cC
                            have HE := Lib.hid (all_take hi' HAll.out hcl)
                            clear hcl e3 hle
                            generalize (ByteArray.mk vs[i].toArray) = sv at *
                            go_wp2_with (go_at_call 26; refine (cC _).mono ?_; rintro e w' ⟨rfl, rfl⟩)
                            go_roundg (n' - (i + 1))
                            case measure => have := HGI.out; omega
                            case rel => exact ⟨i + 1, by go_num, by omega, hgz, HE⟩
                          · have HE := Lib.hid (HBD.out _ (List.getElem_mem hi') hcl)
                            have hne : ((Es.clE true vs[i] : Int) != 0) = true := by simpa using hcl
                            generalize Es.clE true vs[i] = EC at *
                            clear hcl e3 hle
                            generalize (ByteArray.mk vs[i].toArray) = sv at *
                            go_wp2_with (go_at_call 26; refine (cC _).mono ?_; rintro e w' ⟨rfl, rfl⟩)
                            go_ret
                            exact ⟨ret_bool HE.out.symm, hgWx.trans hgz⟩
                        · obtain rfl : i = n' := by have := HGI.out; omega
                          have he := HAll.out
                          rw [List.take_of_length_le (by rw [HVL.out]; exact Nat.le_refl _)] at he
                          have HE := Lib.hid (HOk2.out he)
                          clear he
                          go_wp2
                          go_roundg (n - (j + 1))
                          case measure => have := HG.out; omega
                          case rel => exact ⟨j + 1, by go_num, by omega, ((hg3.trans hg5).trans hgx).trans hgz, HE⟩
          · obtain rfl : k = n := by have := HG.out; omega
            have he := HN.out
            rw [List.take_of_length_le (by rw [HL.out]; exact Nat.le_refl _)] at he
            have HE := Lib.hid (HO.out he)
            clear he
            obtain ⟨x0, x1, x2, _, _, _⟩ := hx3
            go_wp2
            go_ret
            exact ⟨ret_bool HE.out.symm, hg4⟩
      · rw [Ln.formed_val (l := ⟨N.data.toList, ps, V.data.toList⟩) hcl]
        have hne : ((Es.clE false V.data.toList : Int) != 0) = true := by simpa using hcl
        generalize Es.clE false V.data.toList = EC at *
        clear hnm hcl
        go_enter Tryd.func13, Tryd.ntmps13
        go_wp2_with (first
          | (go_at_call 15; refine (cN _).mono ?_; rintro e w' ⟨rfl, rfl⟩)
          | (go_at_call 26; refine (cF _).mono ?_; rintro e w' ⟨rfl, rfl⟩))
        go_ret
        exact ⟨rfl, hg0⟩
end Go.Proofs.YtpcmhaflmpcicaaDoor
