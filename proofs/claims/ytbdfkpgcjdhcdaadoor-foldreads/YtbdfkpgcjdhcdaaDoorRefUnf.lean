/- What the reference's Unfold returns. -/
import Derived.Test.YtbdfkpgcjdhcdaaDoorRefUm
namespace Go.Proofs.YtbdfkpgcjdhcdaaDoor
open Go.RowKit

def ic (l : List (List UInt8 × Nat)) : List Value := l.map fun x => Value.int .i64 (x.2 : Int)
theorem ic_append (a b : List (List UInt8 × Nat)) : ic (a ++ b) = ic a ++ ic b := by simp [ic]
set_option maxHeartbeats 40000000 in
set_option maxRecDepth 100000 in
theorem refunf_any (s : ByteArray) (w : World) (hs : s.size ≤ 1000000) :
    Calls Tryd.prog 12 #[.string s] w fun e w' => ∃ A n c, e = .returned (.tuple #[.slice A n c, .int .i64 ((Fd.unf s.data.toList).2.1 : Int), .int .i64 (Fd.unf s.data.toList).2.2]) ∧ OwnV w' w.heap.size 9 A n c (sc (Fd.unf s.data.toList).1) ∧ Gr w w' := by
  obtain ⟨U, hU⟩ : ∃ U, Fd.unf s.data.toList = U := ⟨_, rfl⟩
  rw [hU]
  have HU := Lib.hid hU
  have hsz := Lib.size_eq s
  by_cases hl : 20000 < s.size
  · have hUe := Fd.unf_long s.data.toList (by omega)
    rw [hU] at hUe
    subst hUe
    clear hU HU hsz
    go_enter Tryd.func12, Tryd.ntmps12
    go_wp2
    go_ret3
    exact ⟨_, _, _, rfl, OwnV.nil _ _ _, Gr.refl _⟩
  · have hlen : ¬ 20000 < s.data.toList.length := by omega
    have HL := Lib.hid (And.intro hlen hsz)
    clear hU hlen hsz
    go_enter Tryd.func12, Tryd.ntmps12
    go_wp2
    go_loopg [5, 6, 7, 8] s.size (fun g v5 v6 v7 v8 wx => ∃ A2 n2 c2 A3 c3 ps, ∃ n bg : Nat, v5 = .slice A2 n2 c2 ∧ v6 = .slice A3 n2 c3 ∧ v7 = .int .i64 (n : Int) ∧ v8 = .int .i64 (bg : Int) ∧ bg + g = s.size ∧ n ≤ bg ∧ n2 ≤ n ∧ (0 < n → 0 < n2) ∧
      Below w.heap.size w wx ∧ w.heap.size ≤ wx.heap.size ∧ OwnV wx w.heap.size 9 A2 n2 c2 (sc ((Fd.gs [] 0 ps).map Prod.fst)) ∧ OwnV wx w.heap.size 3 A3 n2 c3 (ic (Fd.gs [] 0 ps)) ∧
      Hid (ps.length = n ∧ Fd.cmb ps (Fd.sp n (s.data.toList.drop bg)) = Fd.sp 0 s.data.toList ∧ ps.flatten.length ≤ bg))
    case atStart => exact ⟨_, _, _, _, _, [], 0, 0, rfl, rfl, rfl, rfl, by omega, by omega, by omega, fun h => h, Below.refl _ _, Nat.le_refl _, OwnV.nil _ _ _, OwnV.nil _ _ _, Lib.hid ⟨rfl, by rw [List.drop_zero, Fd.cmb_nil _ (Fd.sp_err _ _)], by simp⟩⟩
    case round =>
      obtain ⟨A2, n2, c2, A3, c3, ps, n, bg, rfl, rfl, rfl, rfl, hbg, hnb, hn2, hn20, hb2, hsz2, hown2, hown3, HP⟩ := hrel
      have HBG := Lib.hid hbg
      have hbs : bg ≤ s.size := by omega
      clear hbg
      by_cases hb : bg < s.size
      · have htl : s.data.toList.drop bg ≠ [] := by
          intro h
          have := congrArg List.length h
          rw [List.length_drop, List.length_nil, ← HL.out.2] at this
          omega
        have HBAD := Lib.hid (fun b => Fd.cmb_bad ps n (s.data.toList.drop bg) htl b)
        have HGOOD := Lib.hid (fun b => Fd.cmb_good ps n (s.data.toList.drop bg) htl b)
        clear htl
        go_wp2
        go_loopg [9] (s.size - bg) (fun g v9 wx => ∃ en : Nat, v9 = .int .i64 (en : Int) ∧ en + g = s.size ∧ bg ≤ en ∧ wr = wx ∧ Hid (∀ (i : Nat) (b : UInt8), i < en - bg → (s.data.toList.drop bg)[i]? = some b → b ≠ 10))
        case atStart => exact ⟨bg, rfl, by omega, Nat.le_refl _, rfl, Lib.hid (fun i b h => by omega)⟩
        case round =>
          obtain ⟨en, rfl, heg, hbe, rfl, HN⟩ := hrel
          have HE := Lib.hid heg
          have hes : en ≤ s.size := by omega
          clear heg
          by_cases he : en < s.size
          · have hat := at_toNat s en he
            have hat2 : (s.data.toList.drop bg)[en - bg]? = some s[en] := by rw [List.getElem?_drop, show bg + (en - bg) = en by omega]; exact hat
            cases h10 : ((s[en].toNat : Int) != 10)
            · have h10' : s[en] = 10 := (byte_eq (n := 10) (by omega)).1 (by simpa using h10)
              rw [h10'] at hat2
              obtain ⟨q1, q2⟩ := Fd.bl_at _ _ HN.out hat2
              have hal : (Fd.al (s.data.toList.drop bg)).isEmpty = false := by rw [q2]; rfl
              have htail : (Fd.al (s.data.toList.drop bg)).tail = s.data.toList.drop (en + 1) := by rw [q2, List.tail_cons, List.drop_drop, show bg + (en - bg + 1) = en + 1 by omega]
              obtain ⟨pb, hpb⟩ : ∃ pb, s.extract bg en = pb := ⟨_, rfl⟩
              have hpd : pb.data.toList = Fd.bl (s.data.toList.drop bg) := by
                rw [← hpb, extract_mid, q1]
                show List.drop bg (List.take en s.data.toList) = _
                rw [List.take_drop, show bg + (en - bg) = en by omega]
              have hpz : pb.size = en - bg := by
                rw [Lib.size_eq, hpd, q1, List.length_take, List.length_drop, ← HL.out.2]; omega
              have HQ := Lib.hid (And.intro hal (And.intro htail (And.intro hpd hpz)))
              have hpz1 : pb.size ≤ 20000 := by omega
              have hne : ((en : Int) == (s.size : Int)) = false := by rw [beq_eq_false_iff_ne]; omega
              clear hat hat2 h10' q1 q2 hal htail hpd
              by_cases hz : pb.size = 0
              · have hem : pb.toList.isEmpty = true := by rw [Lib.toList_data, isEmpty_size]; simp [hz]
                have htc : Fd.tc (Fd.bl (s.data.toList.drop bg)) = [] := by
                  have h1 : pb.data.toList = [] := List.eq_nil_of_length_eq_zero (by rw [← Lib.size_eq]; exact hz)
                  rw [← HQ.out.2.2.1, h1]; rfl
                have hUe := Fd.unf_bad s.data.toList HL.out.1 (n + 1) (by rw [← HP.out.2.1]; exact HBAD.out (by unfold Fd.badp; rw [htc]; simp)) (by omega)
                rw [HU.out] at hUe
                subst hUe
                clear HU htc hpz
                go_wp2
                refine wp_loop_rounds 1 ?_
                rw [rounds_succ]
                go_wp2
                go_ret3
                exact ⟨_, _, _, by simp, OwnV.nil _ _ _, ⟨hb2⟩⟩
              · obtain ⟨m1, hm1⟩ : ∃ m1, pb.size = m1 + 1 := ⟨pb.size - 1, by omega⟩
                have hm1l : m1 < pb.size := by omega
                have hatl := at_toNat pb m1 hm1l
                have hlp : pb.data.toList.length - 1 = m1 := by rw [← Lib.size_eq]; omega
                have hpos : (0 : Int) < (pb.size : Int) := by omega
                have HM1 := Lib.hid hm1
                have hm1i : (pb.size : Int) - 1 = (m1 : Int) := by omega
                have HLP := Lib.hid (And.intro hlp hatl)
                have HPZ := Lib.hid hpz
                clear hpz hm1 hlp hatl
                cases h13 : ((pb[m1].toNat : Int) == 13)
                · have htc : Fd.tc (Fd.bl (s.data.toList.drop bg)) = pb.data.toList := by
                    rw [← HQ.out.2.2.1]
                    exact Fd.tc_no _ (fun b hb => by
                      rw [HLP.out.1, HLP.out.2] at hb
                      obtain rfl := Option.some.inj hb
                      intro e; rw [e] at h13; cases h13)
                  have HTC := Lib.hid htc
                  have hqb : pb.size ≤ en - bg := by rw [HPZ.out]; exact Nat.le_refl _
                  have HQB := Lib.hid hqb
                  clear htc hqb
                  go_wp2
                  go_loopg [11, 66] pb.size (fun g v11 v wx => ∃ bb : Bool, ∃ k : Nat, v11 = .bool bb ∧ v = .int .i64 (k : Int) ∧ k + g = pb.size ∧ wr = wx ∧ Hid (bb = (pb.data.toList.isEmpty || (pb.data.toList.take k).contains 13)))
                  case atStart => exact ⟨_, 0, rfl, rfl, by omega, rfl, Lib.hid (by rw [← Lib.toList_data]; simp)⟩
                  case round =>
                    obtain ⟨bb, k, rfl, rfl, hkg, rfl, HB⟩ := hrel
                    have HK := Lib.hid hkg
                    clear hkg
                    by_cases hk : k < pb.size
                    · have hk' : k < pb.data.toList.length := by rw [← Lib.size_eq]; exact hk
                      have hcs := Fd.contains_succ pb.data.toList k hk' 13
                      have hbk : pb.data.toList[k] = pb[k] := rfl
                      rw [hbk] at hcs
                      have HCS := Lib.hid hcs
                      clear hcs hbk
                      cases bb
                      · cases h13 : ((pb[k].toNat : Int) == 13)
                        · have h13' : (pb[k] == 13) = false := by rw [beq_eq_false_iff_ne]; intro e; rw [e] at h13; cases h13
                          have HNX : Hid (false = (pb.data.toList.isEmpty || (pb.data.toList.take (k + 1)).contains 13)) := Lib.hid (by rw [HCS.out, ← Bool.or_assoc, ← HB.out, h13']; rfl)
                          clear h13'
                          go_wp2
                          go_roundg (pb.size - (k + 1))
                          case measure => have := HK.out; omega
                          case rel => exact ⟨false, k + 1, rfl, by go_num, by omega, rfl, HNX⟩
                        · have h13' : (pb[k] == 13) = true := by rw [(byte_eq (n := 13) (by omega)).1 h13]; rfl
                          have HNX : Hid (true = (pb.data.toList.isEmpty || (pb.data.toList.take (k + 1)).contains 13)) := Lib.hid (by rw [HCS.out, h13']; simp)
                          clear h13'
                          go_wp2
                          go_roundg (pb.size - (k + 1))
                          case measure => have := HK.out; omega
                          case rel => exact ⟨true, k + 1, rfl, by go_num, by omega, rfl, HNX⟩
                      · have HNX : Hid (true = (pb.data.toList.isEmpty || (pb.data.toList.take (k + 1)).contains 13)) := Lib.hid (by rw [HCS.out, ← Bool.or_assoc, ← HB.out]; rfl)
                        go_wp2
                        go_roundg (pb.size - (k + 1))
                        case measure => have := HK.out; omega
                        case rel => exact ⟨true, k + 1, rfl, by go_num, by omega, rfl, HNX⟩
                    · have hkq : k = pb.size := by have := HK.out; omega
                      have hta : pb.data.toList.take k = pb.data.toList := List.take_of_length_le (by rw [← Lib.size_eq]; omega)
                      have hbf := HB.out
                      rw [hta] at hbf
                      have hbd : Fd.badp (s.data.toList.drop bg) = bb := by
                        unfold Fd.badp
                        rw [HQ.out.1, HTC.out, hbf, Bool.false_or]
                      have HBD := Lib.hid hbd
                      subst hkq
                      clear hta hbd
                      cases bb
                      · have hqp : 0 < pb.size := by
                          rw [Lib.size_eq]
                          refine List.length_pos_iff.2 ?_
                          intro h; rw [h] at hbf; simp at hbf
                        have hch := ct_head pb hqp
                        clear hbf
                        cases h32 : ((pb[0].toNat : Int) == 32)
                        · cases h9 : ((pb[0].toNat : Int) == 9)
                          · rw [h32, h9] at hch
                            have HCH : Hid (Fd.ct pb.data.toList = false) := Lib.hid (by rw [hch]; rfl)
                            clear hch
                            have hg0 : (Fd.badp (s.data.toList.drop bg) || (decide (n = 0) && Fd.ct (Fd.tc (Fd.bl (s.data.toList.drop bg))))) = false := by
                              rw [HBD.out, HTC.out, HCH.out]; simp
                            have HG0 := Lib.hid (HGOOD.out hg0)
                            have hgs : Fd.gs [] 0 (ps ++ [pb.data.toList]) = Fd.gs [] 0 ps ++ [(pb.data.toList, n + 1)] := by
                              rw [Fd.gs_snoc, HP.out.1, Nat.zero_add]
                              unfold Fd.gst
                              rw [HCH.out]; rfl
                            have HGS := Lib.hid hgs
                            clear hg0 hgs
                            go_wp2_with (first | (at_builtin; refine ap_two wr rfl (.tmp 114) (.tmp 116) 22 9 (.string ⟨#[]⟩) 16 Tryd.underlying22 info_str rfl (by omega) rfl w.heap.size A2 n2 c2 (sc ((Fd.gs [] 0 ps).map Prod.fst)) [.string pb] rfl hown2 1 1 rfl rfl (by intro u hu; simp at hu; subst hu; rfl) (by omega) hsz2 3 A3 n2 c3 (ic (Fd.gs [] 0 ps)) hown3 (by decide) ?_; intro A5 c5 w5 hown5 hb5 hown6) | (at_builtin; refine ap_two w5 rfl (.tmp 118) (.tmp 120) 41 3 (.int .i64 0) 8 Tryd.underlying41 info_int rfl (by omega) rfl w.heap.size A3 n2 c3 (ic (Fd.gs [] 0 ps)) [.int .i64 ((n : Int) + 1)] rfl hown6 1 1 rfl rfl (by intro u hu; simp at hu; subst hu; rfl) (by omega) (by have := hb5.size; omega) 9 A5 (n2 + 1) c5 (sc ((Fd.gs [] 0 ps).map Prod.fst) ++ [.string pb]) hown5 (by decide) ?_; intro A7 c7 w7 hown7 hb7 hown8))
                            go_roundg (s.size - (en + 1))
                            case measure => have := HBG.out; omega
                            case rel =>
                              refine ⟨A5, n2 + 1, c5, A7, c7, ps ++ [pb.data.toList], n + 1, en + 1, rfl, rfl, by go_num, by go_num, by omega, by omega, by omega, fun _ => by omega, hb2.trans (hb5.trans hb7), by have := (hb5.trans hb7).size; omega, ?_, ?_, Lib.hid ⟨?_, ?_, ?_⟩⟩
                              · rw [HGS.out, List.map_append, sc_append]; exact hown8
                              · rw [HGS.out, ic_append]; exact hown7
                              · rw [List.length_append, HP.out.1]; rfl
                              · rw [← HP.out.2.1, HG0.out, HQ.out.2.1, HTC.out]
                              · have h1 := HP.out.2.2
                                have h2 := HQB.out
                                rw [List.flatten_append, List.length_append]
                                simp only [List.flatten_cons, List.flatten_nil, List.append_nil]
                                rw [← Lib.size_eq]; omega
                          · rw [h32, h9] at hch
                            have HCH : Hid (Fd.ct pb.data.toList = true) := Lib.hid (by rw [hch]; rfl)
                            clear hch
                            by_cases hz2 : n2 = 0
                            · have hn0 : n = 0 := by
                                rcases Nat.eq_zero_or_pos n with h | h
                                · exact h
                                · have := hn20 h; omega
                              have hUe := Fd.unf_bad s.data.toList HL.out.1 (n + 1) (by rw [← HP.out.2.1]; exact HBAD.out (by rw [HTC.out, HCH.out, hn0]; simp)) (by omega)
                              rw [HU.out] at hUe
                              subst hUe
                              have hz3 : ((n2 : Int) == 0) = true := by rw [hz2]; rfl
                              clear HU hz2 hn0
                              go_wp2
                              go_ret3
                              exact ⟨_, _, _, by simp, OwnV.nil _ _ _, ⟨hb2⟩⟩
                            · have hz3 : ((n2 : Int) == 0) = false := by rw [beq_eq_false_iff_ne]; omega
                              obtain ⟨m, rfl⟩ : ∃ m, n2 = m + 1 := ⟨n2 - 1, by omega⟩
                              have hacc : (Fd.gs [] 0 ps).length = m + 1 := by have := hown3.len; simpa [ic] using this
                              obtain ⟨acc, x, k0, hax⟩ : ∃ acc x k0, Fd.gs [] 0 ps = acc ++ [(x, k0)] := by
                                have hne : Fd.gs [] 0 ps ≠ [] := by intro h; rw [h] at hacc; simp at hacc
                                exact ⟨(Fd.gs [] 0 ps).dropLast, ((Fd.gs [] 0 ps).getLast hne).1, ((Fd.gs [] 0 ps).getLast hne).2, (List.dropLast_concat_getLast hne).symm⟩
                              have ham : acc.length = m := by rw [hax, List.length_append] at hacc; simp at hacc; exact hacc
                              have hg0 : (Fd.badp (s.data.toList.drop bg) || (decide (n = 0) && Fd.ct (Fd.tc (Fd.bl (s.data.toList.drop bg))))) = false := by
                                have : decide (n = 0) = false := by simp; omega
                                rw [HBD.out, this]; rfl
                              have HG0 := Lib.hid (HGOOD.out hg0)
                              have hgs : Fd.gs [] 0 (ps ++ [pb.data.toList]) = acc ++ [(x ++ pb.data.toList.tail, k0)] := by
                                rw [Fd.gs_snoc]
                                unfold Fd.gst
                                rw [HCH.out, hax, if_pos rfl, Fd.addLast_snoc]
                              obtain ⟨gb, rfl, hgb, _, _⟩ := hown2.cells (by omega)
                              have hlast := own_cell hown2 m (by omega)
                              have hfr := own_free hown2 m
                              rw [hax, List.map_append, sc_append, List.getElem?_append_right (by simp [sc, ham]), show (sc (List.map Prod.fst acc)).length = m by simp [sc, ham], Nat.sub_self] at hlast
                              have hlast2 : wr.cell? ⟨gb, m, none⟩ = some (.string ⟨x.toArray⟩) := hlast
                              obtain ⟨xb, hxb⟩ : ∃ xb : ByteArray, ByteArray.mk x.toArray = xb := ⟨_, rfl⟩
                              rw [hxb] at hlast2
                              obtain ⟨tb, htb⟩ : ∃ tb, pb.extract 1 pb.size = tb := ⟨_, rfl⟩
                              have htd : tb.data.toList = pb.data.toList.tail := by rw [← htb, extract_from, ← List.drop_one]
                              have HXX := Lib.hid (And.intro hxb (And.intro htd (And.intro hgs (And.intro hax ham))))
                              have hxz : xb.size ≤ 1000000 := by
                                have h1 := Fd.gs_total ps [] 0
                                have h2 : Fd.total [] = 0 := rfl
                                have h3 : Fd.total [(x, k0)] = x.length := by simp [Fd.total]
                                rw [hax, Fd.total_append, h2, h3] at h1
                                have h4 := HP.out.2.2
                                rw [← hxb, size_mk]; omega
                              have htz : tb.size ≤ 1000000 := by rw [Lib.size_eq, htd, List.length_tail, ← Lib.size_eq]; omega
                              clear hacc hax ham hg0 hgs hlast hxb htd hz2
                              have hQ1 : 1 ≤ pb.size := hqp
                              go_wp2
                              go_big_region
                              go_wp2
                              go_roundg (s.size - (en + 1))
                              case measure => have := HBG.out; omega
                              case rel =>
                                obtain ⟨hxb, htd, hgs, hax, ham⟩ := HXX.out
                                have hval : Value.string (xb ++ tb) = .string ⟨(x ++ pb.data.toList.tail).toArray⟩ := by
                                  rw [← str_data (s := xb ++ tb) (l := x ++ pb.data.toList.tail)]
                                  rw [cat_data, htd, ← hxb]
                                refine ⟨_, m + 1, c2, A3, c3, ps ++ [pb.data.toList], n + 1, en + 1, rfl, rfl, by go_num, by go_num, by omega, by omega, by omega, fun _ => by omega, (hb2.setCell (p := ⟨gb, m, none⟩) hgb _).drew, by simpa using hsz2, ?_, ?_, Lib.hid ⟨?_, ?_, ?_⟩⟩
                                · have h1 := (own_store hown2 m (.string (xb ++ tb))).drew
                                  rw [hval] at h1 ⊢
                                  have e1 : sc ((Fd.gs [] 0 (ps ++ [pb.data.toList])).map Prod.fst) = (sc ((Fd.gs [] 0 ps).map Prod.fst)).set m (.string ⟨(x ++ pb.data.toList.tail).toArray⟩) := by
                                    rw [hgs, hax, List.map_append, List.map_append, sc_append, sc_append, List.set_append_right (h := by simp [sc, ham])]
                                    congr 1
                                    simp [sc, ham]
                                  rw [e1]
                                  exact h1
                                · have h1 := (own_store_far hown2 hown3 (by decide) m (.string (xb ++ tb))).drew
                                  have e1 : ic (Fd.gs [] 0 (ps ++ [pb.data.toList])) = ic (Fd.gs [] 0 ps) := by rw [hgs, hax, ic_append, ic_append]; rfl
                                  rw [e1]
                                  exact h1
                                · rw [List.length_append, HP.out.1]; rfl
                                · rw [← HP.out.2.1, HG0.out, HQ.out.2.1, HTC.out]
                                · have h1 := HP.out.2.2
                                  have h2 := HQB.out
                                  rw [List.flatten_append, List.length_append]
                                  simp only [List.flatten_cons, List.flatten_nil, List.append_nil]
                                  rw [← Lib.size_eq]; omega
                        · rw [h32] at hch
                          have HCH : Hid (Fd.ct pb.data.toList = true) := Lib.hid (by rw [hch]; rfl)
                          clear hch
                          by_cases hz2 : n2 = 0
                          · have hn0 : n = 0 := by
                              rcases Nat.eq_zero_or_pos n with h | h
                              · exact h
                              · have := hn20 h; omega
                            have hUe := Fd.unf_bad s.data.toList HL.out.1 (n + 1) (by rw [← HP.out.2.1]; exact HBAD.out (by rw [HTC.out, HCH.out, hn0]; simp)) (by omega)
                            rw [HU.out] at hUe
                            subst hUe
                            have hz3 : ((n2 : Int) == 0) = true := by rw [hz2]; rfl
                            clear HU hz2 hn0
                            go_wp2
                            go_ret3
                            exact ⟨_, _, _, by simp, OwnV.nil _ _ _, ⟨hb2⟩⟩
                          · have hz3 : ((n2 : Int) == 0) = false := by rw [beq_eq_false_iff_ne]; omega
                            obtain ⟨m, rfl⟩ : ∃ m, n2 = m + 1 := ⟨n2 - 1, by omega⟩
                            have hacc : (Fd.gs [] 0 ps).length = m + 1 := by have := hown3.len; simpa [ic] using this
                            obtain ⟨acc, x, k0, hax⟩ : ∃ acc x k0, Fd.gs [] 0 ps = acc ++ [(x, k0)] := by
                              have hne : Fd.gs [] 0 ps ≠ [] := by intro h; rw [h] at hacc; simp at hacc
                              exact ⟨(Fd.gs [] 0 ps).dropLast, ((Fd.gs [] 0 ps).getLast hne).1, ((Fd.gs [] 0 ps).getLast hne).2, (List.dropLast_concat_getLast hne).symm⟩
                            have ham : acc.length = m := by rw [hax, List.length_append] at hacc; simp at hacc; exact hacc
                            have hg0 : (Fd.badp (s.data.toList.drop bg) || (decide (n = 0) && Fd.ct (Fd.tc (Fd.bl (s.data.toList.drop bg))))) = false := by
                              have : decide (n = 0) = false := by simp; omega
                              rw [HBD.out, this]; rfl
                            have HG0 := Lib.hid (HGOOD.out hg0)
                            have hgs : Fd.gs [] 0 (ps ++ [pb.data.toList]) = acc ++ [(x ++ pb.data.toList.tail, k0)] := by
                              rw [Fd.gs_snoc]
                              unfold Fd.gst
                              rw [HCH.out, hax, if_pos rfl, Fd.addLast_snoc]
                            obtain ⟨gb, rfl, hgb, _, _⟩ := hown2.cells (by omega)
                            have hlast := own_cell hown2 m (by omega)
                            have hfr := own_free hown2 m
                            rw [hax, List.map_append, sc_append, List.getElem?_append_right (by simp [sc, ham]), show (sc (List.map Prod.fst acc)).length = m by simp [sc, ham], Nat.sub_self] at hlast
                            have hlast2 : wr.cell? ⟨gb, m, none⟩ = some (.string ⟨x.toArray⟩) := hlast
                            obtain ⟨xb, hxb⟩ : ∃ xb : ByteArray, ByteArray.mk x.toArray = xb := ⟨_, rfl⟩
                            rw [hxb] at hlast2
                            obtain ⟨tb, htb⟩ : ∃ tb, pb.extract 1 pb.size = tb := ⟨_, rfl⟩
                            have htd : tb.data.toList = pb.data.toList.tail := by rw [← htb, extract_from, ← List.drop_one]
                            have HXX := Lib.hid (And.intro hxb (And.intro htd (And.intro hgs (And.intro hax ham))))
                            have hxz : xb.size ≤ 1000000 := by
                              have h1 := Fd.gs_total ps [] 0
                              have h2 : Fd.total [] = 0 := rfl
                              have h3 : Fd.total [(x, k0)] = x.length := by simp [Fd.total]
                              rw [hax, Fd.total_append, h2, h3] at h1
                              have h4 := HP.out.2.2
                              rw [← hxb, size_mk]; omega
                            have htz : tb.size ≤ 1000000 := by rw [Lib.size_eq, htd, List.length_tail, ← Lib.size_eq]; omega
                            clear hacc hax ham hg0 hgs hlast hxb htd hz2
                            have hQ1 : 1 ≤ pb.size := hqp
                            go_wp2
                            go_big_region
                            go_wp2
                            go_roundg (s.size - (en + 1))
                            case measure => have := HBG.out; omega
                            case rel =>
                              obtain ⟨hxb, htd, hgs, hax, ham⟩ := HXX.out
                              have hval : Value.string (xb ++ tb) = .string ⟨(x ++ pb.data.toList.tail).toArray⟩ := by
                                rw [← str_data (s := xb ++ tb) (l := x ++ pb.data.toList.tail)]
                                rw [cat_data, htd, ← hxb]
                              refine ⟨_, m + 1, c2, A3, c3, ps ++ [pb.data.toList], n + 1, en + 1, rfl, rfl, by go_num, by go_num, by omega, by omega, by omega, fun _ => by omega, (hb2.setCell (p := ⟨gb, m, none⟩) hgb _).drew, by simpa using hsz2, ?_, ?_, Lib.hid ⟨?_, ?_, ?_⟩⟩
                              · have h1 := (own_store hown2 m (.string (xb ++ tb))).drew
                                rw [hval] at h1 ⊢
                                have e1 : sc ((Fd.gs [] 0 (ps ++ [pb.data.toList])).map Prod.fst) = (sc ((Fd.gs [] 0 ps).map Prod.fst)).set m (.string ⟨(x ++ pb.data.toList.tail).toArray⟩) := by
                                  rw [hgs, hax, List.map_append, List.map_append, sc_append, sc_append, List.set_append_right (h := by simp [sc, ham])]
                                  congr 1
                                  simp [sc, ham]
                                rw [e1]
                                exact h1
                              · have h1 := (own_store_far hown2 hown3 (by decide) m (.string (xb ++ tb))).drew
                                have e1 : ic (Fd.gs [] 0 (ps ++ [pb.data.toList])) = ic (Fd.gs [] 0 ps) := by rw [hgs, hax, ic_append, ic_append]; rfl
                                rw [e1]
                                exact h1
                              · rw [List.length_append, HP.out.1]; rfl
                              · rw [← HP.out.2.1, HG0.out, HQ.out.2.1, HTC.out]
                              · have h1 := HP.out.2.2
                                have h2 := HQB.out
                                rw [List.flatten_append, List.length_append]
                                simp only [List.flatten_cons, List.flatten_nil, List.append_nil]
                                rw [← Lib.size_eq]; omega
                      · have hUe := Fd.unf_bad s.data.toList HL.out.1 (n + 1) (by rw [← HP.out.2.1]; exact HBAD.out (by rw [HBD.out]; rfl)) (by omega)
                        rw [HU.out] at hUe
                        subst hUe
                        clear HU hbf
                        go_wp2
                        go_ret3
                        exact ⟨_, _, _, by simp, OwnV.nil _ _ _, ⟨hb2⟩⟩
                · obtain ⟨qb, hqb⟩ : ∃ qb, pb.extract 0 m1 = qb := ⟨_, rfl⟩
                  have hqd : qb.data.toList = pb.data.toList.take m1 := by rw [← hqb, extract_to]
                  have htc : Fd.tc (Fd.bl (s.data.toList.drop bg)) = qb.data.toList := by
                    rw [← HQ.out.2.2.1, hqd, Fd.tc_cr _ (by rw [HLP.out.1, HLP.out.2, (byte_eq (n := 13) (by omega)).1 h13]; rfl), HLP.out.1]
                  have HTC := Lib.hid htc
                  have hqz : qb.size = m1 := by rw [Lib.size_eq, hqd, List.length_take, ← Lib.size_eq]; omega
                  have HQB : Hid (qb.size ≤ en - bg) := Lib.hid (by have := HM1.out; have := HPZ.out; omega)
                  have hqz1 : qb.size ≤ 20000 := by omega
                  clear htc hqd hqz
                  go_wp2
                  go_loopg [11, 66] qb.size (fun g v11 v wx => ∃ bb : Bool, ∃ k : Nat, v11 = .bool bb ∧ v = .int .i64 (k : Int) ∧ k + g = qb.size ∧ wr = wx ∧ Hid (bb = (qb.data.toList.isEmpty || (qb.data.toList.take k).contains 13)))
                  case atStart => exact ⟨_, 0, rfl, rfl, by omega, rfl, Lib.hid (by rw [← Lib.toList_data]; simp)⟩
                  case round =>
                    obtain ⟨bb, k, rfl, rfl, hkg, rfl, HB⟩ := hrel
                    have HK := Lib.hid hkg
                    clear hkg
                    by_cases hk : k < qb.size
                    · have hk' : k < qb.data.toList.length := by rw [← Lib.size_eq]; exact hk
                      have hcs := Fd.contains_succ qb.data.toList k hk' 13
                      have hbk : qb.data.toList[k] = qb[k] := rfl
                      rw [hbk] at hcs
                      have HCS := Lib.hid hcs
                      clear hcs hbk
                      cases bb
                      · cases h13 : ((qb[k].toNat : Int) == 13)
                        · have h13' : (qb[k] == 13) = false := by rw [beq_eq_false_iff_ne]; intro e; rw [e] at h13; cases h13
                          have HNX : Hid (false = (qb.data.toList.isEmpty || (qb.data.toList.take (k + 1)).contains 13)) := Lib.hid (by rw [HCS.out, ← Bool.or_assoc, ← HB.out, h13']; rfl)
                          clear h13'
                          go_wp2
                          go_roundg (qb.size - (k + 1))
                          case measure => have := HK.out; omega
                          case rel => exact ⟨false, k + 1, rfl, by go_num, by omega, rfl, HNX⟩
                        · have h13' : (qb[k] == 13) = true := by rw [(byte_eq (n := 13) (by omega)).1 h13]; rfl
                          have HNX : Hid (true = (qb.data.toList.isEmpty || (qb.data.toList.take (k + 1)).contains 13)) := Lib.hid (by rw [HCS.out, h13']; simp)
                          clear h13'
                          go_wp2
                          go_roundg (qb.size - (k + 1))
                          case measure => have := HK.out; omega
                          case rel => exact ⟨true, k + 1, rfl, by go_num, by omega, rfl, HNX⟩
                      · have HNX : Hid (true = (qb.data.toList.isEmpty || (qb.data.toList.take (k + 1)).contains 13)) := Lib.hid (by rw [HCS.out, ← Bool.or_assoc, ← HB.out]; rfl)
                        go_wp2
                        go_roundg (qb.size - (k + 1))
                        case measure => have := HK.out; omega
                        case rel => exact ⟨true, k + 1, rfl, by go_num, by omega, rfl, HNX⟩
                    · have hkq : k = qb.size := by have := HK.out; omega
                      have hta : qb.data.toList.take k = qb.data.toList := List.take_of_length_le (by rw [← Lib.size_eq]; omega)
                      have hbf := HB.out
                      rw [hta] at hbf
                      have hbd : Fd.badp (s.data.toList.drop bg) = bb := by
                        unfold Fd.badp
                        rw [HQ.out.1, HTC.out, hbf, Bool.false_or]
                      have HBD := Lib.hid hbd
                      subst hkq
                      clear hta hbd
                      cases bb
                      · have hqp : 0 < qb.size := by
                          rw [Lib.size_eq]
                          refine List.length_pos_iff.2 ?_
                          intro h; rw [h] at hbf; simp at hbf
                        have hch := ct_head qb hqp
                        clear hbf
                        cases h32 : ((qb[0].toNat : Int) == 32)
                        · cases h9 : ((qb[0].toNat : Int) == 9)
                          · rw [h32, h9] at hch
                            have HCH : Hid (Fd.ct qb.data.toList = false) := Lib.hid (by rw [hch]; rfl)
                            clear hch
                            have hg0 : (Fd.badp (s.data.toList.drop bg) || (decide (n = 0) && Fd.ct (Fd.tc (Fd.bl (s.data.toList.drop bg))))) = false := by
                              rw [HBD.out, HTC.out, HCH.out]; simp
                            have HG0 := Lib.hid (HGOOD.out hg0)
                            have hgs : Fd.gs [] 0 (ps ++ [qb.data.toList]) = Fd.gs [] 0 ps ++ [(qb.data.toList, n + 1)] := by
                              rw [Fd.gs_snoc, HP.out.1, Nat.zero_add]
                              unfold Fd.gst
                              rw [HCH.out]; rfl
                            have HGS := Lib.hid hgs
                            clear hg0 hgs
                            go_wp2_with (first | (at_builtin; refine ap_two wr rfl (.tmp 114) (.tmp 116) 22 9 (.string ⟨#[]⟩) 16 Tryd.underlying22 info_str rfl (by omega) rfl w.heap.size A2 n2 c2 (sc ((Fd.gs [] 0 ps).map Prod.fst)) [.string qb] rfl hown2 1 1 rfl rfl (by intro u hu; simp at hu; subst hu; rfl) (by omega) hsz2 3 A3 n2 c3 (ic (Fd.gs [] 0 ps)) hown3 (by decide) ?_; intro A5 c5 w5 hown5 hb5 hown6) | (at_builtin; refine ap_two w5 rfl (.tmp 118) (.tmp 120) 41 3 (.int .i64 0) 8 Tryd.underlying41 info_int rfl (by omega) rfl w.heap.size A3 n2 c3 (ic (Fd.gs [] 0 ps)) [.int .i64 ((n : Int) + 1)] rfl hown6 1 1 rfl rfl (by intro u hu; simp at hu; subst hu; rfl) (by omega) (by have := hb5.size; omega) 9 A5 (n2 + 1) c5 (sc ((Fd.gs [] 0 ps).map Prod.fst) ++ [.string qb]) hown5 (by decide) ?_; intro A7 c7 w7 hown7 hb7 hown8))
                            go_roundg (s.size - (en + 1))
                            case measure => have := HBG.out; omega
                            case rel =>
                              refine ⟨A5, n2 + 1, c5, A7, c7, ps ++ [qb.data.toList], n + 1, en + 1, rfl, rfl, by go_num, by go_num, by omega, by omega, by omega, fun _ => by omega, hb2.trans (hb5.trans hb7), by have := (hb5.trans hb7).size; omega, ?_, ?_, Lib.hid ⟨?_, ?_, ?_⟩⟩
                              · rw [HGS.out, List.map_append, sc_append]; exact hown8
                              · rw [HGS.out, ic_append]; exact hown7
                              · rw [List.length_append, HP.out.1]; rfl
                              · rw [← HP.out.2.1, HG0.out, HQ.out.2.1, HTC.out]
                              · have h1 := HP.out.2.2
                                have h2 := HQB.out
                                rw [List.flatten_append, List.length_append]
                                simp only [List.flatten_cons, List.flatten_nil, List.append_nil]
                                rw [← Lib.size_eq]; omega
                          · rw [h32, h9] at hch
                            have HCH : Hid (Fd.ct qb.data.toList = true) := Lib.hid (by rw [hch]; rfl)
                            clear hch
                            by_cases hz2 : n2 = 0
                            · have hn0 : n = 0 := by
                                rcases Nat.eq_zero_or_pos n with h | h
                                · exact h
                                · have := hn20 h; omega
                              have hUe := Fd.unf_bad s.data.toList HL.out.1 (n + 1) (by rw [← HP.out.2.1]; exact HBAD.out (by rw [HTC.out, HCH.out, hn0]; simp)) (by omega)
                              rw [HU.out] at hUe
                              subst hUe
                              have hz3 : ((n2 : Int) == 0) = true := by rw [hz2]; rfl
                              clear HU hz2 hn0
                              go_wp2
                              go_ret3
                              exact ⟨_, _, _, by simp, OwnV.nil _ _ _, ⟨hb2⟩⟩
                            · have hz3 : ((n2 : Int) == 0) = false := by rw [beq_eq_false_iff_ne]; omega
                              obtain ⟨m, rfl⟩ : ∃ m, n2 = m + 1 := ⟨n2 - 1, by omega⟩
                              have hacc : (Fd.gs [] 0 ps).length = m + 1 := by have := hown3.len; simpa [ic] using this
                              obtain ⟨acc, x, k0, hax⟩ : ∃ acc x k0, Fd.gs [] 0 ps = acc ++ [(x, k0)] := by
                                have hne : Fd.gs [] 0 ps ≠ [] := by intro h; rw [h] at hacc; simp at hacc
                                exact ⟨(Fd.gs [] 0 ps).dropLast, ((Fd.gs [] 0 ps).getLast hne).1, ((Fd.gs [] 0 ps).getLast hne).2, (List.dropLast_concat_getLast hne).symm⟩
                              have ham : acc.length = m := by rw [hax, List.length_append] at hacc; simp at hacc; exact hacc
                              have hg0 : (Fd.badp (s.data.toList.drop bg) || (decide (n = 0) && Fd.ct (Fd.tc (Fd.bl (s.data.toList.drop bg))))) = false := by
                                have : decide (n = 0) = false := by simp; omega
                                rw [HBD.out, this]; rfl
                              have HG0 := Lib.hid (HGOOD.out hg0)
                              have hgs : Fd.gs [] 0 (ps ++ [qb.data.toList]) = acc ++ [(x ++ qb.data.toList.tail, k0)] := by
                                rw [Fd.gs_snoc]
                                unfold Fd.gst
                                rw [HCH.out, hax, if_pos rfl, Fd.addLast_snoc]
                              obtain ⟨gb, rfl, hgb, _, _⟩ := hown2.cells (by omega)
                              have hlast := own_cell hown2 m (by omega)
                              have hfr := own_free hown2 m
                              rw [hax, List.map_append, sc_append, List.getElem?_append_right (by simp [sc, ham]), show (sc (List.map Prod.fst acc)).length = m by simp [sc, ham], Nat.sub_self] at hlast
                              have hlast2 : wr.cell? ⟨gb, m, none⟩ = some (.string ⟨x.toArray⟩) := hlast
                              obtain ⟨xb, hxb⟩ : ∃ xb : ByteArray, ByteArray.mk x.toArray = xb := ⟨_, rfl⟩
                              rw [hxb] at hlast2
                              obtain ⟨tb, htb⟩ : ∃ tb, qb.extract 1 qb.size = tb := ⟨_, rfl⟩
                              have htd : tb.data.toList = qb.data.toList.tail := by rw [← htb, extract_from, ← List.drop_one]
                              have HXX := Lib.hid (And.intro hxb (And.intro htd (And.intro hgs (And.intro hax ham))))
                              have hxz : xb.size ≤ 1000000 := by
                                have h1 := Fd.gs_total ps [] 0
                                have h2 : Fd.total [] = 0 := rfl
                                have h3 : Fd.total [(x, k0)] = x.length := by simp [Fd.total]
                                rw [hax, Fd.total_append, h2, h3] at h1
                                have h4 := HP.out.2.2
                                rw [← hxb, size_mk]; omega
                              have htz : tb.size ≤ 1000000 := by rw [Lib.size_eq, htd, List.length_tail, ← Lib.size_eq]; omega
                              clear hacc hax ham hg0 hgs hlast hxb htd hz2
                              have hQ1 : 1 ≤ qb.size := hqp
                              go_wp2
                              go_big_region
                              go_wp2
                              go_roundg (s.size - (en + 1))
                              case measure => have := HBG.out; omega
                              case rel =>
                                obtain ⟨hxb, htd, hgs, hax, ham⟩ := HXX.out
                                have hval : Value.string (xb ++ tb) = .string ⟨(x ++ qb.data.toList.tail).toArray⟩ := by
                                  rw [← str_data (s := xb ++ tb) (l := x ++ qb.data.toList.tail)]
                                  rw [cat_data, htd, ← hxb]
                                refine ⟨_, m + 1, c2, A3, c3, ps ++ [qb.data.toList], n + 1, en + 1, rfl, rfl, by go_num, by go_num, by omega, by omega, by omega, fun _ => by omega, (hb2.setCell (p := ⟨gb, m, none⟩) hgb _).drew, by simpa using hsz2, ?_, ?_, Lib.hid ⟨?_, ?_, ?_⟩⟩
                                · have h1 := (own_store hown2 m (.string (xb ++ tb))).drew
                                  rw [hval] at h1 ⊢
                                  have e1 : sc ((Fd.gs [] 0 (ps ++ [qb.data.toList])).map Prod.fst) = (sc ((Fd.gs [] 0 ps).map Prod.fst)).set m (.string ⟨(x ++ qb.data.toList.tail).toArray⟩) := by
                                    rw [hgs, hax, List.map_append, List.map_append, sc_append, sc_append, List.set_append_right (h := by simp [sc, ham])]
                                    congr 1
                                    simp [sc, ham]
                                  rw [e1]
                                  exact h1
                                · have h1 := (own_store_far hown2 hown3 (by decide) m (.string (xb ++ tb))).drew
                                  have e1 : ic (Fd.gs [] 0 (ps ++ [qb.data.toList])) = ic (Fd.gs [] 0 ps) := by rw [hgs, hax, ic_append, ic_append]; rfl
                                  rw [e1]
                                  exact h1
                                · rw [List.length_append, HP.out.1]; rfl
                                · rw [← HP.out.2.1, HG0.out, HQ.out.2.1, HTC.out]
                                · have h1 := HP.out.2.2
                                  have h2 := HQB.out
                                  rw [List.flatten_append, List.length_append]
                                  simp only [List.flatten_cons, List.flatten_nil, List.append_nil]
                                  rw [← Lib.size_eq]; omega
                        · rw [h32] at hch
                          have HCH : Hid (Fd.ct qb.data.toList = true) := Lib.hid (by rw [hch]; rfl)
                          clear hch
                          by_cases hz2 : n2 = 0
                          · have hn0 : n = 0 := by
                              rcases Nat.eq_zero_or_pos n with h | h
                              · exact h
                              · have := hn20 h; omega
                            have hUe := Fd.unf_bad s.data.toList HL.out.1 (n + 1) (by rw [← HP.out.2.1]; exact HBAD.out (by rw [HTC.out, HCH.out, hn0]; simp)) (by omega)
                            rw [HU.out] at hUe
                            subst hUe
                            have hz3 : ((n2 : Int) == 0) = true := by rw [hz2]; rfl
                            clear HU hz2 hn0
                            go_wp2
                            go_ret3
                            exact ⟨_, _, _, by simp, OwnV.nil _ _ _, ⟨hb2⟩⟩
                          · have hz3 : ((n2 : Int) == 0) = false := by rw [beq_eq_false_iff_ne]; omega
                            obtain ⟨m, rfl⟩ : ∃ m, n2 = m + 1 := ⟨n2 - 1, by omega⟩
                            have hacc : (Fd.gs [] 0 ps).length = m + 1 := by have := hown3.len; simpa [ic] using this
                            obtain ⟨acc, x, k0, hax⟩ : ∃ acc x k0, Fd.gs [] 0 ps = acc ++ [(x, k0)] := by
                              have hne : Fd.gs [] 0 ps ≠ [] := by intro h; rw [h] at hacc; simp at hacc
                              exact ⟨(Fd.gs [] 0 ps).dropLast, ((Fd.gs [] 0 ps).getLast hne).1, ((Fd.gs [] 0 ps).getLast hne).2, (List.dropLast_concat_getLast hne).symm⟩
                            have ham : acc.length = m := by rw [hax, List.length_append] at hacc; simp at hacc; exact hacc
                            have hg0 : (Fd.badp (s.data.toList.drop bg) || (decide (n = 0) && Fd.ct (Fd.tc (Fd.bl (s.data.toList.drop bg))))) = false := by
                              have : decide (n = 0) = false := by simp; omega
                              rw [HBD.out, this]; rfl
                            have HG0 := Lib.hid (HGOOD.out hg0)
                            have hgs : Fd.gs [] 0 (ps ++ [qb.data.toList]) = acc ++ [(x ++ qb.data.toList.tail, k0)] := by
                              rw [Fd.gs_snoc]
                              unfold Fd.gst
                              rw [HCH.out, hax, if_pos rfl, Fd.addLast_snoc]
                            obtain ⟨gb, rfl, hgb, _, _⟩ := hown2.cells (by omega)
                            have hlast := own_cell hown2 m (by omega)
                            have hfr := own_free hown2 m
                            rw [hax, List.map_append, sc_append, List.getElem?_append_right (by simp [sc, ham]), show (sc (List.map Prod.fst acc)).length = m by simp [sc, ham], Nat.sub_self] at hlast
                            have hlast2 : wr.cell? ⟨gb, m, none⟩ = some (.string ⟨x.toArray⟩) := hlast
                            obtain ⟨xb, hxb⟩ : ∃ xb : ByteArray, ByteArray.mk x.toArray = xb := ⟨_, rfl⟩
                            rw [hxb] at hlast2
                            obtain ⟨tb, htb⟩ : ∃ tb, qb.extract 1 qb.size = tb := ⟨_, rfl⟩
                            have htd : tb.data.toList = qb.data.toList.tail := by rw [← htb, extract_from, ← List.drop_one]
                            have HXX := Lib.hid (And.intro hxb (And.intro htd (And.intro hgs (And.intro hax ham))))
                            have hxz : xb.size ≤ 1000000 := by
                              have h1 := Fd.gs_total ps [] 0
                              have h2 : Fd.total [] = 0 := rfl
                              have h3 : Fd.total [(x, k0)] = x.length := by simp [Fd.total]
                              rw [hax, Fd.total_append, h2, h3] at h1
                              have h4 := HP.out.2.2
                              rw [← hxb, size_mk]; omega
                            have htz : tb.size ≤ 1000000 := by rw [Lib.size_eq, htd, List.length_tail, ← Lib.size_eq]; omega
                            clear hacc hax ham hg0 hgs hlast hxb htd hz2
                            have hQ1 : 1 ≤ qb.size := hqp
                            go_wp2
                            go_big_region
                            go_wp2
                            go_roundg (s.size - (en + 1))
                            case measure => have := HBG.out; omega
                            case rel =>
                              obtain ⟨hxb, htd, hgs, hax, ham⟩ := HXX.out
                              have hval : Value.string (xb ++ tb) = .string ⟨(x ++ qb.data.toList.tail).toArray⟩ := by
                                rw [← str_data (s := xb ++ tb) (l := x ++ qb.data.toList.tail)]
                                rw [cat_data, htd, ← hxb]
                              refine ⟨_, m + 1, c2, A3, c3, ps ++ [qb.data.toList], n + 1, en + 1, rfl, rfl, by go_num, by go_num, by omega, by omega, by omega, fun _ => by omega, (hb2.setCell (p := ⟨gb, m, none⟩) hgb _).drew, by simpa using hsz2, ?_, ?_, Lib.hid ⟨?_, ?_, ?_⟩⟩
                              · have h1 := (own_store hown2 m (.string (xb ++ tb))).drew
                                rw [hval] at h1 ⊢
                                have e1 : sc ((Fd.gs [] 0 (ps ++ [qb.data.toList])).map Prod.fst) = (sc ((Fd.gs [] 0 ps).map Prod.fst)).set m (.string ⟨(x ++ qb.data.toList.tail).toArray⟩) := by
                                  rw [hgs, hax, List.map_append, List.map_append, sc_append, sc_append, List.set_append_right (h := by simp [sc, ham])]
                                  congr 1
                                  simp [sc, ham]
                                rw [e1]
                                exact h1
                              · have h1 := (own_store_far hown2 hown3 (by decide) m (.string (xb ++ tb))).drew
                                have e1 : ic (Fd.gs [] 0 (ps ++ [qb.data.toList])) = ic (Fd.gs [] 0 ps) := by rw [hgs, hax, ic_append, ic_append]; rfl
                                rw [e1]
                                exact h1
                              · rw [List.length_append, HP.out.1]; rfl
                              · rw [← HP.out.2.1, HG0.out, HQ.out.2.1, HTC.out]
                              · have h1 := HP.out.2.2
                                have h2 := HQB.out
                                rw [List.flatten_append, List.length_append]
                                simp only [List.flatten_cons, List.flatten_nil, List.append_nil]
                                rw [← Lib.size_eq]; omega
                      · have hUe := Fd.unf_bad s.data.toList HL.out.1 (n + 1) (by rw [← HP.out.2.1]; exact HBAD.out (by rw [HBD.out]; rfl)) (by omega)
                        rw [HU.out] at hUe
                        subst hUe
                        clear HU hbf
                        go_wp2
                        go_ret3
                        exact ⟨_, _, _, by simp, OwnV.nil _ _ _, ⟨hb2⟩⟩
            · go_wp2
              go_roundg (s.size - (en + 1))
              case measure => have := HE.out; omega
              case rel =>
                refine ⟨en + 1, by go_num, by omega, by omega, rfl, Lib.hid (fun i b hi hb => ?_)⟩
                rcases Nat.lt_or_ge i (en - bg) with h5 | h5
                · exact HN.out i b h5 hb
                · have : i = en - bg := by omega
                  subst this
                  rw [hat2] at hb
                  obtain rfl := Option.some.inj hb
                  intro e; rw [e] at h10; cases h10
          · obtain rfl : en = s.size := by omega
            have hal : Fd.al (s.data.toList.drop bg) = [] := Fd.al_none _ (fun i b hb => HN.out i b (by
              have := (List.getElem?_eq_some_iff.1 hb).1
              rw [List.length_drop, ← HL.out.2] at this; omega) hb)
            have hUe := Fd.unf_bad s.data.toList HL.out.1 (n + 1) (by rw [← HP.out.2.1]; exact HBAD.out (by unfold Fd.badp; rw [hal]; rfl)) (by omega)
            rw [HU.out] at hUe
            subst hUe
            clear HU hal
            go_wp2
            go_ret3
            exact ⟨_, _, _, by simp, OwnV.nil _ _ _, ⟨hb2⟩⟩
      · obtain rfl : bg = s.size := by omega
        have hdn : s.data.toList.drop s.size = [] := List.drop_eq_nil_of_le (by rw [← HL.out.2]; exact Nat.le_refl _)
        have hsp : Fd.sp 0 s.data.toList = (0, ps) := by rw [← HP.out.2.1, hdn, Fd.cmb_end]
        have HSP := Lib.hid hsp
        have hal : (Fd.gs [] 0 ps).length = n2 := by have := hown3.len; simpa [ic] using this
        have HAL := Lib.hid hal
        clear hdn hsp hal
        go_wp2
        go_loopg [126] n2 (fun g v wx => ∃ k : Nat, v = .int .i64 (k : Int) ∧ k + g = n2 ∧ wr = wx ∧ Hid (Fd.chk ((Fd.gs [] 0 ps).take k) = none))
        case atStart => exact ⟨0, rfl, by omega, rfl, Lib.hid rfl⟩
        case round =>
          obtain ⟨k, rfl, hkg, rfl, HC⟩ := hrel
          have HK := Lib.hid hkg
          clear hkg
          by_cases hk : k < n2
          · have hk' : k < (Fd.gs [] 0 ps).length := by rw [HAL.out]; exact hk
            obtain ⟨gb, rfl, hgb, _, _⟩ := hown2.cells (by omega)
            obtain ⟨gc, rfl, hgc, _, _⟩ := hown3.cells (by omega)
            have hc1 := own_cell hown2 k hk
            have hc2 := own_cell hown3 k hk
            unfold sc at hc1
            unfold ic at hc2
            rw [List.getElem?_map, List.getElem?_map, List.getElem?_eq_getElem hk'] at hc1
            rw [List.getElem?_map, List.getElem?_eq_getElem hk'] at hc2
            simp only [Option.map_some] at hc1 hc2
            have HCA := Lib.hid (fun x hx => Fd.chk_at (Fd.gs [] 0 ps) k hk' HC.out x hx)
            have HCM := Lib.hid (fun hx => Fd.chk_more (Fd.gs [] 0 ps) k hk' HC.out hx)
            have hxl : ((Fd.gs [] 0 ps)[k]).1.length ≤ 20000 := by
              have h1 := Fd.gs_total ps [] 0
              have h2 : Fd.total [] = 0 := rfl
              have h3 := Fd.total_at (Fd.gs [] 0 ps) k hk'
              have h4 := HP.out.2.2
              omega
            obtain ⟨⟨x, kx⟩, hx⟩ : ∃ y, (Fd.gs [] 0 ps)[k] = y := ⟨_, rfl⟩
            rw [hx] at hc1 hc2 HCA HCM hxl
            simp only at hc1 hc2 hxl
            have cV := fun w => utf_any ⟨x.toArray⟩ w (by rw [size_mk]; omega)
            have ed : (ByteArray.mk x.toArray).data.toList = x := rfl
            rw [ed] at cV
            have hxz : (ByteArray.mk x.toArray).size = x.length := size_mk x
            obtain ⟨V, hV⟩ : ∃ V, Lib.validD x = V := ⟨_, rfl⟩
            rw [hV] at cV
            have HX := Lib.hid (And.intro hV hxz)
            rw [← hxz] at hxl
            clear hV hxz ed hx
            generalize (ByteArray.mk x.toArray) = xb at *
            cases V
            · have hUe := Fd.unf_err s.data.toList HL.out.1 ps HSP.out (kx, 3) (HCA.out _ (by rw [Fd.chk_one, if_pos HX.out.1]))
              rw [HU.out] at hUe
              subst hUe
              clear HU
              go_wp2_with (go_at_call 14; refine (cV _).mono ?_; rintro e w' ⟨rfl, rfl⟩)
              go_region
              all_goals (try go_wp2)
              all_goals go_ret3
              all_goals exact ⟨_, _, _, rfl, OwnV.nil _ _ _, ⟨hb2.drew⟩⟩
            · by_cases h2 : 2000 < xb.size
              · have hUe := Fd.unf_err s.data.toList HL.out.1 ps HSP.out (kx, 4) (HCA.out _ (by rw [Fd.chk_one, if_neg (by simp [HX.out.1]), if_pos (by rw [← HX.out.2]; exact h2)]))
                rw [HU.out] at hUe
                subst hUe
                clear HU
                go_wp2_with (go_at_call 14; refine (cV _).mono ?_; rintro e w' ⟨rfl, rfl⟩)
                go_region
                all_goals (try go_wp2)
                all_goals go_ret3
                all_goals exact ⟨_, _, _, rfl, OwnV.nil _ _ _, ⟨hb2.drew⟩⟩
              · have HNX := Lib.hid (HCM.out (by rw [Fd.chk_one, if_neg (by simp [HX.out.1]), if_neg (by rw [← HX.out.2]; exact h2)]))
                go_wp2_with (go_at_call 14; refine (cV _).mono ?_; rintro e w' ⟨rfl, rfl⟩)
                go_roundg (n2 - (k + 1))
                case measure => have := HK.out; omega
                case rel => exact ⟨k + 1, by go_num, by omega, rfl, HNX⟩
          · have e1 : (Fd.gs [] 0 ps).take k = Fd.gs [] 0 ps := List.take_of_length_le (by rw [HAL.out]; omega)
            have hck := HC.out
            rw [e1] at hck
            have hUe := Fd.unf_ok s.data.toList HL.out.1 ps HSP.out hck
            rw [HU.out] at hUe
            subst hUe
            clear e1 HU hck
            go_wp2
            go_ret3
            exact ⟨_, _, _, rfl, hown2, ⟨hb2⟩⟩
end Go.Proofs.YtbdfkpgcjdhcdaaDoor
