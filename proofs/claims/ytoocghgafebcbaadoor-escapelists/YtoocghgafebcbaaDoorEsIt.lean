/- What escape.Items returns. -/
import Derived.Test.YtoocghgafebcbaaDoorEsPl
namespace Go.Proofs.YtoocghgafebcbaaDoor
open Go.RowKit

namespace Es
theorem pl_valid {l : List UInt8} (hv : Lib.validD l = true) : (plR l = none ∧ plE l = 7 ∧ plT l = []) ∨ (∃ t, plR l = some t ∧ plE l = 0 ∧ plT l = t) := by
  cases h : plR l with
  | none => exact .inl ⟨rfl, pl_none hv h⟩
  | some t => exact .inr ⟨t, rfl, pl_some hv h⟩
theorem map_nil_append (x : Option (List (List UInt8))) : x.map ([] ++ ·) = x := by cases x <;> rfl
theorem map_step (acc : List (List UInt8)) (t : List UInt8) (x : Option (List (List UInt8))) : (x.map (t :: ·)).map (acc ++ ·) = x.map ((acc ++ [t]) ++ ·) := by cases x <;> simp
theorem cu_size (l : List UInt8) : (cu l).1.length ≤ l.length ∧ (cu l).2.1.length ≤ l.length ∧ ((cu l).2.2 = true → (cu l).2.1.length + 1 ≤ l.length) := by
  cases hm : (cu l).2.2
  · rw [cu_end l hm, cu_rest l hm]; simp
  · have := congrArg List.length (cu_more l hm)
    rw [List.length_append, List.length_cons] at this
    exact ⟨by omega, by omega, fun _ => by omega⟩
end Es
set_option maxHeartbeats 4000000 in
set_option maxRecDepth 100000 in
theorem items_any (s : ByteArray) (w : World) (ht : Tab w) (hs : s.size ≤ 400000) :
    Calls Tryd.prog 14 #[.string s] w fun e w' => ∃ A n c, e = .returned (.tuple #[.slice A n c, .int .i64 (Es.itE s.data.toList)]) ∧ OwnV w' w.heap.size 9 A n c (sc (Es.itT s.data.toList)) ∧ Gr w w' := by
  have hlt0 := ht.lt
  by_cases h0 : s.size = 0
  · have hem := emp_t s h0
    rw [empty_list s h0, Es.it_nil.1, Es.it_nil.2]
    go_enter Tryd.func14, Tryd.ntmps14
    go_wp2
    go_ret2
    exact ⟨_, _, _, rfl, OwnV.nil _ _ _, Gr.refl _⟩
  · have hem := emp_f s (by omega)
    have hne : s.data.toList ≠ [] := by intro e; have := Lib.size_eq s; rw [e, List.length_nil] at this; exact h0 this
    have cV := valid_any s w ht (by omega)
    obtain ⟨V, hV⟩ : ∃ V, Lib.validD s.data.toList = V := ⟨_, rfl⟩
    rw [hV] at cV
    cases V
    · obtain ⟨e1, e2⟩ := Es.it_utf hne hV
      rw [e1, e2]
      clear hV hne e1 e2
      go_enter Tryd.func14, Tryd.ntmps14
      go_wp2_with (go_at_call 23; refine cV.mono ?_; rintro e w1 ⟨rfl, hg1⟩)
      go_ret2
      exact ⟨_, _, _, rfl, OwnV.nil _ _ _, hg1⟩
    · have HN := Lib.hid (fun h => Es.it_none hne hV h)
      have HY := Lib.hid (fun ts h => Es.it_some (ts := ts) hne hV h)
      obtain ⟨F, hF⟩ : ∃ F, Es.fin s.data.toList = F := ⟨_, rfl⟩
      rw [hF] at HN HY
      have HF := Lib.hid (And.intro hF hV)
      generalize Es.itE s.data.toList = E at *
      generalize Es.itT s.data.toList = T at *
      clear hV hne hF
      go_enter Tryd.func14, Tryd.ntmps14
      go_wp2_with (go_at_call 23; refine cV.mono ?_; rintro e w1 ⟨rfl, hg1⟩)
      go_loopg [0, 4, 5] (s.size + 1) (fun g v0 v4 v5 wx => ∃ r : ByteArray, ∃ A2 n2 c2 acc, ∃ more : Bool, v0 = .string r ∧ v4 = .slice A2 n2 c2 ∧ v5 = .bool more ∧ r.size ≤ s.size ∧ n2 ≤ s.size + 1 ∧ Below w.heap.size w wx ∧ w.heap.size ≤ wx.heap.size ∧ Tab wx ∧ OwnV wx w.heap.size 9 A2 n2 c2 (sc acc) ∧
        (more = true → r.size + 1 = g ∧ n2 + r.size ≤ s.size) ∧ Hid (more = true → Lib.validD r.data.toList = true ∧ (Es.fin r.data.toList).map (acc ++ ·) = F) ∧ Hid (more = false → F = some acc))
      case atStart => exact ⟨s, _, _, _, [], true, rfl, rfl, rfl, Nat.le_refl _, by omega, hg1.below, hg1.lt, ht.keep hg1, OwnV.nil _ _ _, fun _ => ⟨rfl, by omega⟩, Lib.hid (fun _ => ⟨HF.out.2, by rw [HF.out.1, Es.map_nil_append]⟩), Lib.hid (fun h => by cases h)⟩
      case round =>
        obtain ⟨r, A2, n2, c2, acc, more, rfl, rfl, rfl, hrs, hns, hb2, hsz2, ht2, hown2, hm, HM, HD⟩ := hrel
        cases more
        · have HT := Lib.hid (HY.out acc (HD.out rfl))
          clear hm
          go_wp2
          go_ret2
          rw [HT.out.1, HT.out.2]
          exact ⟨_, _, _, rfl, hown2, ⟨hb2⟩⟩
        · obtain ⟨hg, hnr⟩ := hm rfl
          obtain ⟨hvr, hfr⟩ := HM.out rfl
          have hrz := Lib.size_eq r
          have hcs := Es.cu_size r.data.toList
          rw [← hrz] at hcs
          obtain ⟨hv1, hv2⟩ := Es.cu_valid r.data.toList hvr
          have cC := ecut_any r wr (by omega)
          have z1 : (ByteArray.mk (Es.cu r.data.toList).1.toArray).size = (Es.cu r.data.toList).1.length := size_mk _
          have z2 : (ByteArray.mk (Es.cu r.data.toList).2.1.toArray).size = (Es.cu r.data.toList).2.1.length := size_mk _
          have d1 : (ByteArray.mk (Es.cu r.data.toList).1.toArray).data.toList = (Es.cu r.data.toList).1 := rfl
          have d2 : (ByteArray.mk (Es.cu r.data.toList).2.1.toArray).data.toList = (Es.cu r.data.toList).2.1 := rfl
          have cP := fun w ht => plain_any ⟨(Es.cu r.data.toList).1.toArray⟩ w ht (by rw [z1]; omega)
          rw [d1] at cP
          rcases Es.pl_valid hv1 with ⟨p1, p2, p3⟩ | ⟨t, p1, p2, p3⟩
          · rw [p2, p3] at cP
            have hn := Es.fin_none _ p1
            rw [hn] at hfr
            have HT := Lib.hid (HN.out hfr.symm)
            clear hm hfr hvr hrz hcs hv1 hv2 z1 z2 d1 d2 p1 p2 p3 hn
            generalize (ByteArray.mk (Es.cu r.data.toList).1.toArray) = pa at *
            generalize (ByteArray.mk (Es.cu r.data.toList).2.1.toArray) = pb at *
            generalize (Es.cu r.data.toList).2.2 = pm at *
            go_wp2_with fail
            refine cC.mono ?_
            rintro e w3 ⟨rfl, hg3⟩
            go_wp2_with fail
            refine (cP _ (ht2.keep hg3)).mono ?_
            rintro e w4 ⟨rfl, hg4⟩
            go_wp2
            go_ret2
            rw [HT.out.1, HT.out.2]
            exact ⟨_, _, _, rfl, OwnV.nil _ _ _, ⟨hb2.trans ((hg3.trans hg4).low hsz2)⟩⟩
          · rw [p2, p3] at cP
            have hnx : Hid ((Es.cu r.data.toList).2.2 = true → Lib.validD (Es.cu r.data.toList).2.1 = true ∧ (Es.fin (Es.cu r.data.toList).2.1).map ((acc ++ [t]) ++ ·) = F) := Lib.hid (fun h => ⟨hv2, by rw [← hfr, Es.fin_more _ _ p1 h, Es.map_step]⟩)
            have hen : Hid ((Es.cu r.data.toList).2.2 = false → F = some (acc ++ [t])) := Lib.hid (fun h => by rw [← hfr, Es.fin_end _ _ p1 h]; rfl)
            have hzb : (ByteArray.mk (Es.cu r.data.toList).2.1.toArray).size ≤ r.size ∧ ((Es.cu r.data.toList).2.2 = true → (ByteArray.mk (Es.cu r.data.toList).2.1.toArray).size + 1 ≤ r.size) := by rw [z2]; exact hcs.2
            rw [← d2] at hnx
            clear hm hfr hvr hrz hcs hv1 hv2 z1 z2 d1 d2 p1 p2 p3
            generalize (ByteArray.mk (Es.cu r.data.toList).1.toArray) = pa at *
            generalize (ByteArray.mk (Es.cu r.data.toList).2.1.toArray) = pb at *
            generalize (Es.cu r.data.toList).2.2 = pm at *
            have hzb1 := hzb.1
            have HZ := Lib.hid hzb.2
            clear hzb
            go_wp2_with fail
            refine cC.mono ?_
            rintro e w3 ⟨rfl, hg3⟩
            go_wp2_with fail
            refine (cP _ (ht2.keep hg3)).mono ?_
            rintro e w4 ⟨rfl, hg4⟩
            have hg34 := hg3.trans hg4
            have hown4 := hown2.gr hg34
            generalize hpt : (ByteArray.mk t.toArray) = pt at *
            have HP := Lib.hid hpt
            clear hpt
            go_wp2_with (at_builtin; refine ap_lit w4 rfl (.tmp 29) (.tmp 31) 27 9 (.string ⟨#[]⟩) 16 Tryd.underlying27 info_str rfl (by omega) rfl w.heap.size A2 n2 c2 (sc acc) [.string pt] rfl hown4 1 1 rfl rfl (by intro u hu; simp at hu; subst hu; rfl) (by omega) (by have := hg34.lt; omega) ?_; intro A5 c5 w5 hown5 hb5)
            go_roundg (if pm = true then pb.size + 1 else 0)
            case measure =>
              split
              · rename_i h; have := HZ.out h; omega
              · omega
            case rel =>
              have hbb := (hg34.low hsz2).trans hb5
              refine ⟨pb, _, _, _, acc ++ [t], pm, rfl, rfl, rfl, by omega, by omega, hb2.trans hbb, by have := hbb.size; omega, ht2.low hbb hlt0.1 hlt0.2, ?_, fun h => ⟨by rw [if_pos h], by have := HZ.out h; omega⟩, hnx, hen⟩
              rw [sc_append]
              show OwnV w5 w.heap.size 9 A5 (n2 + 1) c5 (sc acc ++ [Value.string ⟨t.toArray⟩])
              rw [HP.out]
              exact hown5
end Go.Proofs.YtoocghgafebcbaaDoor
