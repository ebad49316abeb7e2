/- What the reference's Parse returns. -/
import Derived.Test.YtleeklcpbflfhaaGreatDoorZX
import Derived.Test.YtleeklcpbflfhaaGreatDoorZRfForm
import Derived.Test.YtleeklcpbflfhaaGreatDoorZRcParse
namespace Go.Proofs.YtleeklcpbflfhaaGreatDoor
open Go.RowKit

/- what stands in the outer loop, behind k texts -/
structure PsI (w w1 : World) (Al : Option Addr) (k : Nat) (A : Option Addr) (c : Nat) (V : Rm.Rv) (st : Rm.St) (wx : World) : Prop where
  own : OwnV wx w1.heap.size 9 A k c (sc st.ns.reverse)
  rd : RdM wx w1.heap.size (w.heap.size + 1) V
  sm : Sm (fun j => j < w1.heap.size ∧ j ≠ w.heap.size + 1) w1 wx
  sep : Sep A V
  r : ∀ r, st.r = some r → r = V.r ∧ Rm.Bnd r
def PsR (R : Rm.Ru × Nat) (w : World) (e : Ending) (w' : World) : Prop :=
  ∃ V : Rm.Rv, e = .returned (.tuple #[.agg V.val, .int .i64 (R.2 : Int)]) ∧ V.r = R.1 ∧ RuM w' w'.heap.size V ∧ Gr w w'
set_option maxRecDepth 100000 in
set_option maxHeartbeats 8000000 in
theorem rparse_any (s : ByteArray) (w : World) (hs : s.size ≤ 100000) : Calls Tryz.prog 13 #[.string s] w (PsR (Rm.rdR s.data.toList) w) := by
  have cG := fun w' => great_any s w' hs
  have hUz : (ByteArray.mk (s.data.toList.map Rm.up).toArray).size ≤ 100000 := by
    have := Lib.size_eq s
    rw [size_mk, List.length_map]
    omega
  have cC := fun w' => rcut_any ⟨(s.data.toList.map Rm.up).toArray⟩ 59 w' hUz
  have hcl := Rm.cutB_len 59 (s.data.toList.map Rm.up)
  rw [List.length_map, ← Lib.size_eq] at hcl
  rw [show (ByteArray.mk (s.data.toList.map Rm.up).toArray).data.toList = s.data.toList.map Rm.up from rfl] at cC
  have HQ := Lib.hid (show Rm.rdR s.data.toList = Rm.fin ((Rm.cutB 59 (s.data.toList.map Rm.up)).foldl Rm.stepR (some ⟨some Rm.r0, [], false⟩)) from rfl)
  generalize Rm.rdR s.data.toList = R at *
  generalize Rm.cutB 59 (s.data.toList.map Rm.up) = ts at *
  generalize (ByteArray.mk (s.data.toList.map Rm.up).toArray) = U at *
  have HS := Lib.hid (fun pre (hp : pre <+: ts) (h : pre.foldl Rm.stepR (some ⟨some Rm.r0, [], false⟩) = none) => show R = (Rm.rz, 5) by
    rw [HQ.out, Rm.stepR_stop hp h]; rfl)
  have hk0 : (w.alloc (.cells #[.int .i64 0, .int .i64 0, .int .i64 0, .int .i64 0, .int .i64 0, .string ⟨#[]⟩, .bool false, .int .i64 0, .slice none 0 0, .slice none 0 0, .slice none 0 0, .slice none 0 0, .slice none 0 0, .slice none 0 0, .slice none 0 0, .slice none 0 0, .slice none 0 0] 27)).heap[w.heap.size]? = some (.cells Rm.V0.val 27 (0, 0)) := heap_alloc_new w (.cells Rm.V0.val 27)
  have hg0 : Gr w (w.alloc (.cells #[.int .i64 0, .int .i64 0, .int .i64 0, .int .i64 0, .int .i64 0, .string ⟨#[]⟩, .bool false, .int .i64 0, .slice none 0 0, .slice none 0 0, .slice none 0 0, .slice none 0 0, .slice none 0 0, .slice none 0 0, .slice none 0 0, .slice none 0 0, .slice none 0 0] 27)) := (Gr.refl w).allocO _
  have hz0 : (w.alloc (.cells #[.int .i64 0, .int .i64 0, .int .i64 0, .int .i64 0, .int .i64 0, .string ⟨#[]⟩, .bool false, .int .i64 0, .slice none 0 0, .slice none 0 0, .slice none 0 0, .slice none 0 0, .slice none 0 0, .slice none 0 0, .slice none 0 0, .slice none 0 0, .slice none 0 0] 27)).heap.size = w.heap.size + 1 := by simp
  clear hUz
  go_enter Tryz.func13, Tryz.ntmps13
  go_upto_region 2 with fail
  generalize w.alloc (.cells #[.int .i64 0, .int .i64 0, .int .i64 0, .int .i64 0, .int .i64 0, .string ⟨#[]⟩, .bool false, .int .i64 0, .slice none 0 0, .slice none 0 0, .slice none 0 0, .slice none 0 0, .slice none 0 0, .slice none 0 0, .slice none 0 0, .slice none 0 0, .slice none 0 0] 27) = W0 at *
  have hgA : Gr W0 (W0.alloc (.cells #[.int .i64 0, .int .i64 1, .int .i64 0, .int .i64 0, .int .i64 0, .string ⟨#[]⟩, .bool false, .int .i64 1, .slice none 0 0, .slice none 0 0, .slice none 0 0, .slice none 0 0, .slice none 0 0, .slice none 0 0, .slice none 0 0, .slice none 0 0, .slice none 0 0] 27)) := (Gr.refl _).allocO _
  have hzA : (W0.alloc (.cells #[.int .i64 0, .int .i64 1, .int .i64 0, .int .i64 0, .int .i64 0, .string ⟨#[]⟩, .bool false, .int .i64 1, .slice none 0 0, .slice none 0 0, .slice none 0 0, .slice none 0 0, .slice none 0 0, .slice none 0 0, .slice none 0 0, .slice none 0 0, .slice none 0 0] 27)).heap.size = w.heap.size + 2 := by simp [hz0]
  have hbx : RBx (W0.alloc (.cells #[.int .i64 0, .int .i64 1, .int .i64 0, .int .i64 0, .int .i64 0, .string ⟨#[]⟩, .bool false, .int .i64 1, .slice none 0 0, .slice none 0 0, .slice none 0 0, .slice none 0 0, .slice none 0 0, .slice none 0 0, .slice none 0 0, .slice none 0 0, .slice none 0 0] 27)) (w.heap.size + 1) Rm.V1 := by rw [← hz0]; exact RBx.now W0 Rm.V1 27
  have hfr : ∀ o, (W0.alloc (.cells #[.int .i64 0, .int .i64 1, .int .i64 0, .int .i64 0, .int .i64 0, .string ⟨#[]⟩, .bool false, .int .i64 1, .slice none 0 0, .slice none 0 0, .slice none 0 0, .slice none 0 0, .slice none 0 0, .slice none 0 0, .slice none 0 0, .slice none 0 0, .slice none 0 0] 27)).frozen? ⟨w.heap.size + 1, o, none⟩ = false := fun o => by rw [← hz0]; exact box_free (Gr.refl _) o
  generalize W0.alloc (.cells #[.int .i64 0, .int .i64 1, .int .i64 0, .int .i64 0, .int .i64 0, .string ⟨#[]⟩, .bool false, .int .i64 1, .slice none 0 0, .slice none 0 0, .slice none 0 0, .slice none 0 0, .slice none 0 0, .slice none 0 0, .slice none 0 0, .slice none 0 0, .slice none 0 0] 27) = WA at *
  go_wp2_with fail
  refine (cG _).mono ?_
  rintro e w0 ⟨rfl, hgB⟩
  go_wp2_with fail
  refine (cC _).mono ?_
  rintro e w1 ⟨Al, N, cl, rfl, hgC, hL, hLb⟩
  have hg01 := (hg0.trans hgA).trans (hgB.trans hgC)
  have hz1 : w.heap.size + 2 ≤ w1.heap.size := by have := (hgB.trans hgC).lt; omega
  have hk1 : w1.heap[w.heap.size]? = some (.cells Rm.V0.val 27 (0, 0)) := by
    rw [(hgA.trans (hgB.trans hgC)).below.block _ (by omega)]
    exact hk0
  have hI1 : PsI w w1 Al 0 none 0 Rm.V1 ⟨some Rm.r0, [], false⟩ w1 :=
    ⟨OwnV.nil _ _ _, ⟨hbx.gr (hgB.trans hgC), fun o => by rw [(hgB.trans hgC).frozen (a := ⟨w.heap.size + 1, o, none⟩) (by dsimp only; omega)]; exact hfr o, V1_mem _ _, V1_off _ _, fun h => absurd h (by decide)⟩, Sm.refl _ _,
      ⟨(fun i hi h => by rcases (show i = 0 ∨ i = 1 ∨ i = 2 ∨ i = 3 ∨ i = 4 ∨ i = 5 ∨ i = 6 ∨ i = 7 by omega) with rfl | rfl | rfl | rfl | rfl | rfl | rfl | rfl <;> cases h), (fun h => absurd h (by decide))⟩, (fun r h => by cases h; exact ⟨rfl, Rm.Bnd.zero⟩)⟩
  have HLN := Lib.hid hL.1
  have hLb2 : 0 < N → ∀ ad, Al = some ad → ad.block < w1.heap.size ∧ ad.block ≠ w.heap.size + 1 := fun hn ad e => by
    obtain ⟨ad2, e2, hb2, _⟩ := hL.2 hn
    rw [e] at e2
    cases e2
    have := hLb hn ad e
    have := hgB.lt
    exact ⟨hb2, by omega⟩
  have hNb : N ≤ 100001 := by rw [← hL.1]; omega
  have HK1 := Lib.hid hk1
  have HG01 := Lib.hid hg01
  clear cG cC hg0 hgA hgB hgC hbx hfr hk0 hk1 hLb hg01
  go_wp2
  go_loopg [6, 7, 8, 22] N (fun g v6 v7 v8 v wx => ∃ (k : Nat) (A : Option Addr) (c : Nat) (V : Rm.Rv) (st : Rm.St), v = .int .i64 (k : Int) ∧ v6 = .slice A k c ∧ v7 = .bool st.r.isSome ∧ v8 = .bool st.fq ∧ k + g = N ∧
    Hid ((ts.take k).foldl Rm.stepR (some ⟨some Rm.r0, [], false⟩) = some st) ∧ Hid (PsI w w1 Al k A c V st wx))
  case atStart => exact ⟨0, none, 0, Rm.V1, _, rfl, rfl, rfl, rfl, by omega, Lib.hid rfl, Lib.hid hI1⟩
  case round =>
    obtain ⟨k, A, c, V, st, rfl, rfl, rfl, rfl, hkg, HF, HI⟩ := hrel
    have HG := Lib.hid hkg
    clear hkg hI1
    have HKx : Hid (wr.heap[w.heap.size]? = some (.cells Rm.V0.val 27 (0, 0))) := Lib.hid (HI.out.sm.obj ⟨by omega, by omega⟩ HK1.out)
    have hzx := HI.out.sm.size
    have HGx : Hid (Gr w wr) := Lib.hid ⟨HG01.out.below.trans (HI.out.sm.below (B := w.heap.size) (fun j hj => ⟨by omega, by omega⟩) (by omega))⟩
    by_cases hk : k < N
    · obtain ⟨ad, hk', rfl, hab, hc0⟩ := hL.at_ hk
      obtain ⟨hb1, hb2⟩ := hLb2 (by omega) ad rfl
      have d0 := HI.out.sm.cell (a := ad.add k) (by show (ad.add k).block < _ ∧ (ad.add k).block ≠ _; rw [add_block]; exact ⟨hb1, hb2⟩) hc0
      have hkn : (k : Int) < (N : Int) := by omega
      have hxl := hcl.2 ts[k] (List.getElem_mem hk')
      have HTk := Lib.hid (List.take_succ_eq_append_getElem hk')
      have HPre := Lib.hid (show ts.take k ++ [ts[k]] <+: ts by rw [← List.take_succ_eq_append_getElem hk']; exact List.take_prefix _ _)
      have HX := Lib.hid hc0
      clear hc0
      generalize ts[k] = x at *
      have hXs := size_mk x
      have hXd : (ByteArray.mk x.toArray).data.toList = x := rfl
      generalize (ByteArray.mk x.toArray) = X at *
      have hle := Rm.tw_le x
      have HN1 := Lib.hid (Rm.tw_ne x)
      have HN2 := Lib.hid (Rm.tw_hit x)
      have HSp := Lib.hid (Rm.split_tw x)
      generalize Rm.tw x = t at *
      go_wp2
      go_loopg [10, 30] x.length (fun g v10 v wx => ∃ j : Nat, v = .int .i64 (j : Int) ∧ j + g = x.length ∧ v10 = .int .i64 (if t < j then (t : Int) else -1) ∧ wr = wx)
      case atStart => exact ⟨0, rfl, by omega, by rw [if_neg (Nat.not_lt_zero t)], rfl⟩
      case round =>
        obtain ⟨j, rfl, hjg, rfl, rfl⟩ := hrel
        have HGj := Lib.hid hjg
        clear hjg
        by_cases hj : j < x.length
        · have hjX : j < X.size := by omega
          have hgx : x[j]? = some X[j] := by rw [← hXd]; exact at_toNat X j hjX
          have hjn : (j : Int) < (x.length : Int) := by omega
          have hjs : (j : Int) < (X.size : Int) := by omega
          by_cases hc : X[j] = 61
          · have htj : t ≤ j := by
              rcases Nat.lt_or_ge j t with h | h
              · exact absurd hc (HN1.out j _ h hgx)
              · exact h
            have hci : ((X[j].toNat : Int) == 61) = true := by rw [hc]; rfl
            clear hgx hc
            by_cases hlt : t < j
            · rw [if_pos hlt]
              have h0 : ¬ (t : Int) < 0 := by omega
              go_wp2
              go_roundg (x.length - (j + 1))
              case measure => have := HGj.out; omega
              case rel => exact ⟨j + 1, by go_num, by omega, by rw [if_pos (by omega)], rfl⟩
            · obtain rfl : t = j := by omega
              rw [if_neg hlt]
              go_wp2
              go_roundg (x.length - (t + 1))
              case measure => have := HGj.out; omega
              case rel => exact ⟨t + 1, by go_num, by omega, by rw [if_pos (by omega)], rfl⟩
          · have htj : ¬ t = j := fun e => hc (HN2.out _ (by rw [e]; exact hgx))
            have hci : ((X[j].toNat : Int) == 61) = false := beq_eq_false_iff_ne.2 (fun h => hc (UInt8.toNat_inj.1 (by show X[j].toNat = 61; omega)))
            have hav2 : (if t < j + 1 then (t : Int) else -1) = if t < j then (t : Int) else -1 := by
              by_cases hlt : t < j
              · rw [if_pos hlt, if_pos (by omega)]
              · rw [if_neg hlt, if_neg (by omega)]
            generalize (if t < j then (t : Int) else -1) = av at *
            have HAV := Lib.hid hav2
            clear hgx hc hav2
            go_wp2
            go_roundg (x.length - (j + 1))
            case measure => have := HGj.out; omega
            case rel => exact ⟨j + 1, by go_num, by omega, by rw [HAV.out], rfl⟩
        · obtain rfl : j = x.length := by have := HGj.out; omega
          clear HN1 HN2 hj HGj
          by_cases ht : t < x.length
          · rw [if_pos ht]
            have htX : t ≤ X.size := by omega
            have HE1 := Lib.hid (show X.extract 0 t = ⟨(x.take t).toArray⟩ by rw [extract_to, hXd])
            have HE2 := Lib.hid (show X.extract (t + 1) x.length = ⟨(x.drop (t + 1)).toArray⟩ by rw [← hXs, extract_from, hXd])
            rw [if_pos ht] at HSp
            have hdl : (x.drop (t + 1)).length ≤ 100000 := by rw [List.length_drop]; omega
            have htn : (0 : Int) ≤ (t : Int) := by omega
            have htx : (t : Int) ≤ (x.length : Int) := by omega
            go_upto_region 18 with fail
            rw [HE1.out]
            have hSt := Strs.of_own HI.out.own
            generalize x.take t = nm at *
            generalize x.drop (t + 1) = tx at *
            go_wp2
            go_loopg [57] k (fun g v wx => ∃ j : Nat, v = .int .i64 (j : Int) ∧ j + g = k ∧ wr = wx ∧ Hid (∀ i : Nat, i < j → st.ns.reverse[i]? ≠ some nm))
            case atStart => exact ⟨0, rfl, by omega, rfl, Lib.hid (fun i h => by omega)⟩
            case round =>
              obtain ⟨j, rfl, hjg, rfl, HNo⟩ := hrel
              have HGj := Lib.hid hjg
              clear hjg
              by_cases hj : j < k
              · obtain ⟨ad2, hj2, rfl, _, hcn⟩ := hSt.at_ hj
                have hjn : (j : Int) < (k : Int) := by omega
                have HMn := Lib.hid (List.getElem?_eq_getElem hj2)
                by_cases he : st.ns.reverse[j] = nm
                · have h5 : R = (Rm.rz, 5) := HS.out _ HPre.out (by
                    rw [Rm.stepR_snoc, HF.out]
                    exact Rm.stepR_dup HSp.out (by
                      have := List.getElem_mem hj2
                      rw [he] at this
                      simpa using this))
                  have H5 := Lib.hid h5
                  have hq : ((ByteArray.mk (st.ns.reverse[j]).toArray).toList == (ByteArray.mk nm.toArray).toList) = true := by rw [he]; simp
                  clear h5 he hSt
                  generalize st.ns.reverse[j] = y at *
                  generalize (ByteArray.mk y.toArray) = Y at *
                  generalize (ByteArray.mk nm.toArray) = NM at *
                  go_wp2_with (refine wpList_store_row rfl 27 (.tmp 2) (.tmp 66) rfl w.heap.size Rm.V0.val rfl rfl 27 Rm.V0.val HKx.out info_rule rfl (rule_one _) ?_; rw [setRow_self _ _ _ _ _ HKx.out])
                  refine bodyPost_ret (v := .tuple #[.agg Rm.V0.val, .int .i64 5]) ?_ rfl ⟨Rm.V0, ?_, ?_, ?_, ?_⟩
                  · refine res_rule (p := 2) (u := 3) ?_ _ _ ?_ HKx.out
                    · rfl
                    · rfl
                  · rw [H5.out]; rfl
                  · rw [H5.out]; rfl
                  · exact V0_mem _ _
                  · exact HGx.out
                · have hq : ((ByteArray.mk (st.ns.reverse[j]).toArray).toList == (ByteArray.mk nm.toArray).toList) = false := str_eq ⟨(fun h => by cases h), (fun h => absurd h he)⟩
                  have HEn := Lib.hid he
                  clear he hSt
                  generalize st.ns.reverse[j] = y at *
                  generalize (ByteArray.mk y.toArray) = Y at *
                  generalize (ByteArray.mk nm.toArray) = NM at *
                  go_wp2
                  go_roundg (k - (j + 1))
                  case measure => have := HGj.out; omega
                  case rel =>
                    refine ⟨j + 1, by go_num, by omega, rfl, Lib.hid (fun i hi => ?_)⟩
                    by_cases h : i = j
                    · rw [h, HMn.out]
                      intro e
                      exact HEn.out (Option.some.inj e)
                    · exact HNo.out i (by omega)
              · obtain rfl : k = j := by have := HGj.out; omega
                have hno : nm ∉ st.ns := fun hm => by
                  obtain ⟨i, hi, he⟩ := List.mem_iff_getElem.1 (List.mem_reverse.2 hm)
                  have hli := hSt.1
                  exact HNo.out i (by omega) (by rw [List.getElem?_eq_getElem hi, he])
                have HNn := Lib.hid hno
                clear hno HNo hSt HGj hj
                have hOwn := HI.out.own
                go_upto_region 25 with (at_builtin; refine ap_str wr rfl (.tmp 68) (.tmp 70) rfl w1.heap.size A k c st.ns.reverse rfl hOwn ⟨nm.toArray⟩ rfl (by omega) hzx ?_; intro A3 c3 w3 ho3 hs3 hn3)
                have hO : ∀ j, j < w1.heap.size → Oth A j := fun j hj ad e => by have := (own_block hOwn ad e).1; omega
                have hrd3 := HI.out.rd.smO (hO _ (by omega)) hs3 HI.out.sep
                have hsep3 := HI.out.sep.grow HI.out.rd hn3
                have d3 := hs3.cell (a := ad.add k) (hO _ (by rw [add_block]; exact hb1)) d0
                have hsm3 := HI.out.sm.trans (hs3.weak (fun j hj => hO j hj.1))
                have cS := rset_any nm tx w1.heap.size (w.heap.size + 1) V w3 (Nat.le_trans hzx hs3.size) hdl hrd3
                have HK3 := Lib.hid (hs3.obj (hO _ (by omega)) HKx.out)
                clear d0 hO hrd3
                go_wp2_with fail
                rw [HE2.out]
                refine cS.mono ?_
                rintro e w4 ⟨kn, ok, rfl, hsm, hcs⟩
                have HK4 : Hid (w4.heap[w.heap.size]? = some (.cells Rm.V0.val 27 (0, 0))) := Lib.hid (hsm.obj (by omega) HK3.out)
                have hsm4 := hsm3.trans (hsm.weak (fun j hj => hj.2))
                have HG4 : Hid (Gr w w4) := Lib.hid ⟨HG01.out.below.trans (hsm4.below (B := w.heap.size) (fun j hj => ⟨by omega, by omega⟩) (by omega))⟩
                rcases hcs with ⟨rfl, hmem, V', hrd4, hfrs, hok⟩ | ⟨rfl, hmem⟩
                · have HSn := Lib.hid (Rm.stepR_ok HSp.out HNn.out hmem)
                  have ho4 := ho3.sm hsm (fun k hk => by omega)
                  have hr7 : (Rm.runP st.r (nm, tx)).isSome = (st.r.isSome && ok) := by
                    cases hr : st.r with
                    | none => rfl
                    | some r0 =>
                      rw [(HI.out.r r0 hr).1]
                      rcases hok with ⟨rfl, h⟩ | ⟨rfl, h⟩
                      · rw [h]; rfl
                      · rw [h]; rfl
                  have HI4 : Hid (PsI w w1 (some ad) (k + 1) A3 c3 V' ⟨Rm.runP st.r (nm, tx), nm :: st.ns, st.fq || nm == Rm.nFREQ⟩ w4) := Lib.hid
                    ⟨by rw [List.reverse_cons, sc_append]; exact ho4, hrd4, hsm4, hsep3.frs hfrs (fun ad e => (own_block ho3 ad e).2), fun r h => by
                      cases hr : st.r with
                      | none => simp only [hr] at h; cases h
                      | some r0 =>
                        simp only [hr] at h
                        obtain ⟨e1, e2⟩ := HI.out.r r0 hr
                        rw [e1] at h e2
                        have h3 := Rm.run_bnd h e2 hdl
                        rcases hok with ⟨_, h2⟩ | ⟨_, h2⟩
                        · rw [h] at h2
                          cases h2
                          exact ⟨rfl, h3⟩
                        · rw [h] at h2; cases h2⟩
                  have HR7 := Lib.hid hr7
                  have HF4 := Lib.hid (show (ts.take (k + 1)).foldl Rm.stepR (some ⟨some Rm.r0, [], false⟩) = some ⟨Rm.runP st.r (nm, tx), nm :: st.ns, st.fq || nm == Rm.nFREQ⟩ by rw [HTk.out, Rm.stepR_snoc, HF.out, HSn.out])
                  have HNQ := Lib.hid (show (nm == Rm.nFREQ) = (nm == [70, 82, 69, 81]) from rfl)
                  have HIe := HI
                  clear hr7 hok hmem ho4 hrd4 hfrs hsep3 hsm4 hsm3 hOwn ho3 hs3 hn3 hsm cS HI
                  rcases hfq : st.fq with _ | _
                  · rcases hrs : st.r.isSome with _ | _
                    · go_wp2
                      go_roundg (N - (k + 1))
                      case measure => have := HG.out; omega
                      case rel => exact ⟨k + 1, A3, c3, V', _, by go_num, rfl, by rw [HR7.out, hrs]; rfl, by rw [hfq, HNQ.out]; rfl, by omega, HF4, HI4⟩
                    · go_wp2
                      go_roundg (N - (k + 1))
                      case measure => have := HG.out; omega
                      case rel => exact ⟨k + 1, A3, c3, V', _, by go_num, rfl, by rw [HR7.out, hrs]; rfl, by rw [hfq, HNQ.out]; rfl, by omega, HF4, HI4⟩
                  · rcases hrs : st.r.isSome with _ | _
                    · go_wp2
                      go_roundg (N - (k + 1))
                      case measure => have := HG.out; omega
                      case rel => exact ⟨k + 1, A3, c3, V', _, by go_num, rfl, by rw [HR7.out, hrs]; rfl, by rw [hfq]; rfl, by omega, HF4, HI4⟩
                    · go_wp2
                      go_roundg (N - (k + 1))
                      case measure => have := HG.out; omega
                      case rel => exact ⟨k + 1, A3, c3, V', _, by go_num, rfl, by rw [HR7.out, hrs]; rfl, by rw [hfq]; rfl, by omega, HF4, HI4⟩
                · have h5 : R = (Rm.rz, 5) := HS.out _ HPre.out (by
                    rw [Rm.stepR_snoc, HF.out]
                    exact Rm.stepR_unk HSp.out hmem)
                  have H5 := Lib.hid h5
                  clear h5 hmem
                  go_wp2_with (refine wpList_store_row rfl 27 (.tmp 2) (.tmp 86) rfl w.heap.size Rm.V0.val rfl rfl 27 Rm.V0.val HK4.out info_rule rfl (rule_one _) ?_; rw [setRow_self _ _ _ _ _ HK4.out])
                  refine bodyPost_ret (v := .tuple #[.agg Rm.V0.val, .int .i64 5]) ?_ rfl ⟨Rm.V0, ?_, ?_, ?_, ?_⟩
                  · refine res_rule (p := 2) (u := 3) ?_ _ _ ?_ HK4.out
                    · rfl
                    · rfl
                  · rw [H5.out]; rfl
                  · rw [H5.out]; rfl
                  · exact V0_mem _ _
                  · exact HG4.out
          · rw [if_neg ht]
            have h5 : R = (Rm.rz, 5) := HS.out _ HPre.out (by rw [Rm.stepR_snoc, HF.out]; exact Rm.stepR_cut (by rw [HSp.out, if_neg ht]))
            have H5 := Lib.hid h5
            clear h5
            go_wp2_with (refine wpList_store_row rfl 27 (.tmp 2) (.tmp 48) rfl w.heap.size Rm.V0.val rfl rfl 27 Rm.V0.val HKx.out info_rule rfl (rule_one _) ?_; rw [setRow_self _ _ _ _ _ HKx.out])
            refine bodyPost_ret (v := .tuple #[.agg Rm.V0.val, .int .i64 5]) ?_ rfl ⟨Rm.V0, ?_, ?_, ?_, ?_⟩
            · refine res_rule (p := 2) (u := 3) ?_ _ _ ?_ HKx.out
              · rfl
              · rfl
            · rw [H5.out]; rfl
            · rw [H5.out]; rfl
            · exact V0_mem _ _
            · exact HGx.out
    · obtain rfl : k = N := by have := HG.out; omega
      have hFin : R = Rm.fin (some st) := by rw [HQ.out, ← HF.out, List.take_of_length_le (by rw [HLN.out]; exact Nat.le_refl _)]
      rcases hfq : st.fq with _ | _
      · have H5 : Hid (R = (Rm.rz, 5)) := Lib.hid (by rw [hFin]; simp [Rm.fin, hfq])
        clear hFin HQ HF HS
        go_wp2_with (refine wpList_store_row rfl 27 (.tmp 2) (.tmp 100) rfl w.heap.size Rm.V0.val rfl rfl 27 Rm.V0.val HKx.out info_rule rfl (rule_one _) ?_; rw [setRow_self _ _ _ _ _ HKx.out])
        refine bodyPost_ret (v := .tuple #[.agg Rm.V0.val, .int .i64 5]) ?_ rfl ⟨Rm.V0, ?_, ?_, ?_, ?_⟩
        · refine res_rule (p := 2) (u := 3) ?_ _ _ ?_ HKx.out
          · rfl
          · rfl
        · rw [H5.out]; rfl
        · rw [H5.out]; rfl
        · exact V0_mem _ _
        · exact HGx.out
      · rcases hr : st.r with _ | r0
        · have H5 : Hid (R = (Rm.rz, 7)) := Lib.hid (by rw [hFin]; simp [Rm.fin, hfq, hr])
          clear hFin HQ HF HS
          go_wp2_with (refine wpList_store_row rfl 27 (.tmp 2) (.tmp 104) rfl w.heap.size Rm.V0.val rfl rfl 27 Rm.V0.val HKx.out info_rule rfl (rule_one _) ?_; rw [setRow_self _ _ _ _ _ HKx.out])
          refine bodyPost_ret (v := .tuple #[.agg Rm.V0.val, .int .i64 7]) ?_ rfl ⟨Rm.V0, ?_, ?_, ?_, ?_⟩
          · refine res_rule (p := 2) (u := 3) ?_ _ _ ?_ HKx.out
            · rfl
            · rfl
          · rw [H5.out]; rfl
          · rw [H5.out]; rfl
          · exact V0_mem _ _
          · exact HGx.out
        · obtain ⟨e1, e2⟩ := HI.out.r r0 hr
          subst e1
          have hF2 : R = if Rm.fm V.r = true then (V.r, 0) else (Rm.rz, 10) := by rw [hFin]; simp [Rm.fin, hfq, hr]
          have hm := HI.out.rd.m
          have hbx := HI.out.rd.box
          have cF := rformed_any V wr hm (by
              have h1 := Lib.size_eq V.z
              rw [hm.z, e2.z] at h1
              rw [h1]; simp) (by rw [← hm.d.1]; exact Nat.le_trans e2.d (by decide)) (fun i hi => by rw [← (hm.l i hi).1]; exact Nat.le_trans (e2.l i hi) (by decide))
          have HF2 := Lib.hid hF2
          have hlw : w.heap.size < wr.heap.size := by omega
          clear hFin HQ HF HS hF2
          rcases hf : Rm.fm V.r
          · rw [hf] at cF
            have H5 : Hid (R = (Rm.rz, 10)) := Lib.hid (by rw [HF2.out, hf]; rfl)
            clear hf hm
            go_wp2_with (first | (refine wpList_load_rule rfl _ rfl rfl hbx ?_) | (go_at_call 20; refine cF.mono ?_; rintro e w3 ⟨rfl, hg3⟩; have HK3 : Hid (w3.heap[w.heap.size]? = some (.cells Rm.V0.val 27 (0, 0))) := Lib.hid (by rw [hg3.below.block _ hlw]; exact HKx.out)) | (refine wpList_store_row rfl 27 (.tmp 2) (.tmp 109) rfl w.heap.size Rm.V0.val rfl rfl 27 Rm.V0.val HK3.out info_rule rfl (rule_one _) ?_; rw [setRow_self _ _ _ _ _ HK3.out]))
            refine bodyPost_ret (v := .tuple #[.agg Rm.V0.val, .int .i64 10]) ?_ rfl ⟨Rm.V0, ?_, ?_, ?_, ?_⟩
            · refine res_rule (p := 2) (u := 3) ?_ _ _ ?_ HK3.out
              · rfl
              · rfl
            · rw [H5.out]; rfl
            · rw [H5.out]; rfl
            · exact V0_mem _ _
            · exact HGx.out.trans hg3
          · rw [hf] at cF
            have HN : Hid (R = (V.r, 0)) := Lib.hid (by rw [HF2.out, hf]; rfl)
            clear hf hm
            go_wp2_with (first | (refine wpList_load_rule rfl _ rfl rfl hbx ?_) | (go_at_call 20; refine cF.mono ?_; rintro e w3 ⟨rfl, hg3⟩; have HK3 : Hid (w3.heap[w.heap.size]? = some (.cells Rm.V0.val 27 (0, 0))) := Lib.hid (by rw [hg3.below.block _ hlw]; exact HKx.out); have hbx3 := hbx.gr hg3) | (refine wpList_load_rule rfl _ rfl rfl hbx3 ?_) | (refine wpList_store_row rfl 27 (.tmp 2) (.tmp 110) rfl w.heap.size V.val rfl rfl 27 Rm.V0.val HK3.out info_rule rfl (rule_one _) ?_))
            have hrd3 := HI.out.rd.gr hg3
            refine bodyPost_ret (v := .tuple #[.agg V.val, .int .i64 0]) ?_ rfl ⟨V, ?_, ?_, ?_, ?_⟩
            · refine res_rule (p := 2) (u := 3) ?_ _ _ ?_ (setRow_heap _ _ _ _ _ _ HK3.out)
              · rfl
              · rfl
            · rw [HN.out]; rfl
            · rw [HN.out]
            · exact hrd3.m.sm (fun i hi hn ad e => by have := (hrd3.off i hi hn ad e).2; omega) (fun hn ad e => by have := (hrd3.offd hn ad e).2; omega) (Sm.setRow _ _ _)
            · exact ⟨(HGx.out.trans hg3).below.trans ((Sm.setRow w3 w.heap.size V.val).below (fun _ h => Nat.ne_of_lt h) (HGx.out.trans hg3).lt)⟩
end Go.Proofs.YtleeklcpbflfhaaGreatDoor
