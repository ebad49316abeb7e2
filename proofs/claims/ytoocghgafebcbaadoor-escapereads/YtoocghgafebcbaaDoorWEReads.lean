/- EscapeReads: the walk. -/
import Derived.Test.YtoocghgafebcbaaDoorEsAw
import Derived.Test.YtoocghgafebcbaaDoorEsIt
import Derived.Test.YtoocghgafebcbaaDoorRefIt
import Derived.Test.YtoocghgafebcbaaDoorRefVa
import Derived.Test.YtoocghgafebcbaaDoorFdSame
namespace Go.Proofs.YtoocghgafebcbaaDoor
open Go.RowKit

namespace Es
theorem ri_bad {l : List UInt8} (h : riE l ≠ 0) : plE l = riE l ∧ plT l = [] ∧ itE l = riE l ∧ itT l = [] := by
  by_cases hv : Lib.validD l = false
  · have hne : l ≠ [] := by intro e; subst e; rw [Fd.valid_nil] at hv; cases hv
    obtain ⟨a, _⟩ := ri_utf hv
    obtain ⟨b, c⟩ := pl_utf hv
    obtain ⟨d, e⟩ := it_utf hne hv
    rw [a, b, d]; exact ⟨rfl, c, rfl, e⟩
  · have hv' : Lib.validD l = true := by simpa using hv
    cases hf : fin l with
    | some ts => exact absurd (ri_some hv' hf).1 h
    | none =>
      have hne : l ≠ [] := by intro e; subst e; cases hf
      have hp : plR l = none := by
        unfold plR; unfold fin at hf
        split
        · rfl
        · rename_i c
          rw [if_neg c] at hf
          rw [hf]; rfl
      obtain ⟨a, _⟩ := ri_none hv' hf
      obtain ⟨b, c⟩ := pl_none hv' hp
      obtain ⟨d, e⟩ := it_none hne hv' hf
      rw [a, b, d]; exact ⟨rfl, c, rfl, e⟩
theorem ri_good {l : List UInt8} (h : riE l = 0) : (∃ t, riT l = [t] ∧ plE l = 0 ∧ plT l = t) ∨ (∃ x y r, riT l = x :: y :: r ∧ plE l = 7 ∧ plT l = [] ∧ l ≠ []) := by
  have hv : Lib.validD l = true := by
    by_cases hv : Lib.validD l = false
    · rw [(ri_utf hv).1] at h; cases h
    · simpa using hv
  cases hf : fin l with
  | none => rw [(ri_none hv hf).1] at h; cases h
  | some ts =>
    have hr := (ri_some hv hf).2
    have hb : l.any (bad false) = false := by
      by_cases hb : l.any (bad false) = true
      · rw [fin_bad hb] at hf; cases hf
      · simpa using hb
    rw [fin_ok hb] at hf
    rcases ts with _ | ⟨x, _ | ⟨y, r⟩⟩
    · exact absurd hf (rd_ne l [])
    · exact .inl ⟨x, hr, pl_some hv (by rw [plR_ok hb, hf]; rfl)⟩
    · obtain ⟨a, b⟩ := pl_none hv (show plR l = none by rw [plR_ok hb, hf]; rfl)
      exact .inr ⟨x, y, r, hr, a, b, by intro e; subst e; rw [rd_nil] at hf; cases hf⟩
theorem it_good {l : List UInt8} (h : riE l = 0) (hne : l ≠ []) : itE l = 0 ∧ itT l = riT l := by
  have hv : Lib.validD l = true := by
    by_cases hv : Lib.validD l = false
    · rw [(ri_utf hv).1] at h; cases h
    · simpa using hv
  cases hf : fin l with
  | none => rw [(ri_none hv hf).1] at h; cases h
  | some ts =>
    rw [(ri_some hv hf).2]
    exact it_some hne hv hf
theorem ri_len (l : List UInt8) : (riT l).length ≤ l.length + 1 := by
  unfold riT
  split
  · simp
  · cases hf : fin l with
    | none => simp
    | some ts =>
      have hb : l.any (bad false) = false := by
        by_cases hb : l.any (bad false) = true
        · rw [fin_bad hb] at hf; cases hf
        · simpa using hb
      rw [fin_ok hb] at hf
      exact (rd_len l [] ts hf).2
end Es
theorem sc_len (ls : List (List UInt8)) : (sc ls).length = ls.length := by simp [sc]
set_option maxHeartbeats 2000000 in
set_option maxRecDepth 100000 in
theorem reads_bad (s : ByteArray) (w : World) (ht : Tab w) (h5d : decide ((5000 : Int) < (s.size : Int)) = false) (VT : ByteArray) (VE : Int)
    (cV : ∀ w, Tab w → Calls Tryd.prog 15 #[.string s] w fun e w' => e = .returned (.tuple #[.string VT, .int .i64 VE]) ∧ Gr w w')
    (cW : ∀ w, Calls Tryd.prog 16 #[.string s] w fun e w' => e = .returned (.tuple #[.string VT, .int .i64 VE]) ∧ Gr w w') (E : Int) (hEn : (E != 0) = true)
    (cR : ∀ w, Calls Tryd.prog 12 #[.string s] w fun e w' => ∃ A n c, e = .returned (.tuple #[.slice A n c, .int .i64 E]) ∧ Gr w w')
    (cP : ∀ w, Tab w → Calls Tryd.prog 13 #[.string s] w fun e w' => e = .returned (.tuple #[.string ⟨#[]⟩, .int .i64 E]) ∧ Gr w w')
    (cI : ∀ w, Tab w → Calls Tryd.prog 14 #[.string s] w fun e w' => ∃ A n c, e = .returned (.tuple #[.slice A n c, .int .i64 E]) ∧ OwnV w' w.heap.size 9 A n c (sc []) ∧ Gr w w') :
    Calls Tryd.prog 4 #[.string s] w fun e w' => e = .returned (.bool true) ∧ Gr w w' := by
  go_enter Tryd.func4, Tryd.ntmps4
  go_wp2_with fail
  refine (awake9_any _ ht).mono ?_
  rintro e w1 ⟨rfl, hg1⟩
  have ht1 := ht.keep hg1
  go_wp2_with fail
  refine (cR _).mono ?_
  rintro e w2 ⟨A2, n2, c2, rfl, hg2⟩
  have ht2 := ht1.keep hg2
  go_wp2_with fail
  refine (cP _ ht2).mono ?_
  rintro e w3 ⟨rfl, hg3⟩
  have ht3 := ht2.keep hg3
  go_wp2_with fail
  refine (cI _ ht3).mono ?_
  rintro e w4 ⟨A4, n4, c4, rfl, hown4, hg4⟩
  have hn4 : n4 = 0 := by have := hown4.len; simpa [sc] using this.symm
  subst hn4
  have ht4 := ht3.keep hg4
  go_wp2_with fail
  refine (cV _ ht4).mono ?_
  rintro e w5 ⟨rfl, hg5⟩
  go_wp2_with fail
  refine (cW _).mono ?_
  rintro e w6 ⟨rfl, hg6⟩
  have hgg := ((hg3.trans hg4).trans hg5).trans hg6
  clear hown4
  go_wp2
  go_ret
  exact ⟨rfl, (hg1.trans hg2).trans hgg⟩
set_option maxHeartbeats 2000000 in
set_option maxRecDepth 100000 in
theorem reads_nil (s : ByteArray) (w : World) (ht : Tab w) (h5d : decide ((5000 : Int) < (s.size : Int)) = false) (VT : ByteArray) (VE : Int)
    (cV : ∀ w, Tab w → Calls Tryd.prog 15 #[.string s] w fun e w' => e = .returned (.tuple #[.string VT, .int .i64 VE]) ∧ Gr w w')
    (cW : ∀ w, Calls Tryd.prog 16 #[.string s] w fun e w' => e = .returned (.tuple #[.string VT, .int .i64 VE]) ∧ Gr w w') (hem : s.toList.isEmpty = true) (PT : List UInt8) (pt : ByteArray) (HP : Hid ((ByteArray.mk PT.toArray) = pt))
    (cR : ∀ w, Calls Tryd.prog 12 #[.string s] w fun e w' => ∃ A n c, e = .returned (.tuple #[.slice A n c, .int .i64 0]) ∧ OwnV w' w.heap.size 9 A n c (sc [PT]) ∧ Gr w w')
    (cP : ∀ w, Tab w → Calls Tryd.prog 13 #[.string s] w fun e w' => e = .returned (.tuple #[.string pt, .int .i64 0]) ∧ Gr w w')
    (cI : ∀ w, Tab w → Calls Tryd.prog 14 #[.string s] w fun e w' => ∃ A n c, e = .returned (.tuple #[.slice A n c, .int .i64 7]) ∧ OwnV w' w.heap.size 9 A n c (sc []) ∧ Gr w w') :
    Calls Tryd.prog 4 #[.string s] w fun e w' => e = .returned (.bool true) ∧ Gr w w' := by
  go_enter Tryd.func4, Tryd.ntmps4
  go_wp2_with fail
  refine (awake9_any _ ht).mono ?_
  rintro e w1 ⟨rfl, hg1⟩
  have ht1 := ht.keep hg1
  go_wp2_with fail
  refine (cR _).mono ?_
  rintro e w2 ⟨A2, n2, c2, rfl, hown2, hg2⟩
  have hn2 : n2 = 1 := by have := hown2.len; simpa [sc] using this.symm
  subst hn2
  obtain ⟨g2, rfl, _, hlt2, hc2⟩ := hown2.cells (by omega)
  have hc2' : w2.cell? ((⟨g2, 0, none⟩ : Addr).add 0) = some (.string ⟨PT.toArray⟩) := hc2 0 _ rfl
  rw [HP.out] at hc2'
  have hc20 : w2.cell? ⟨g2, 0, none⟩ = some (.string pt) := hc2'
  clear hc2 hc2'
  have ht2 := ht1.keep hg2
  go_wp2_with fail
  refine (cP _ ht2).mono ?_
  rintro e w3 ⟨rfl, hg3⟩
  have ht3 := ht2.keep hg3
  go_wp2_with fail
  refine (cI _ ht3).mono ?_
  rintro e w4 ⟨A4, n4, c4, rfl, hown4, hg4⟩
  have hn4 : n4 = 0 := by have := hown4.len; simpa [sc] using this.symm
  subst hn4
  have ht4 := ht3.keep hg4
  go_wp2_with fail
  refine (cV _ ht4).mono ?_
  rintro e w5 ⟨rfl, hg5⟩
  go_wp2_with fail
  refine (cW _).mono ?_
  rintro e w6 ⟨rfl, hg6⟩
  have hgg := ((hg3.trans hg4).trans hg5).trans hg6
  have hc6 : w6.cell? ⟨g2, 0, none⟩ = some (.string pt) := hgg.keeps hlt2 hc20
  clear hc20 hown2 hown4
  go_wp2
  go_ret
  exact ⟨rfl, (hg1.trans hg2).trans hgg⟩
set_option maxHeartbeats 2000000 in
set_option maxRecDepth 100000 in
theorem reads_one (s : ByteArray) (w : World) (ht : Tab w) (h5d : decide ((5000 : Int) < (s.size : Int)) = false) (VT : ByteArray) (VE : Int)
    (cV : ∀ w, Tab w → Calls Tryd.prog 15 #[.string s] w fun e w' => e = .returned (.tuple #[.string VT, .int .i64 VE]) ∧ Gr w w')
    (cW : ∀ w, Calls Tryd.prog 16 #[.string s] w fun e w' => e = .returned (.tuple #[.string VT, .int .i64 VE]) ∧ Gr w w') (hem : s.toList.isEmpty = false) (PT : List UInt8) (pt : ByteArray) (HP : Hid ((ByteArray.mk PT.toArray) = pt))
    (cR : ∀ w, Calls Tryd.prog 12 #[.string s] w fun e w' => ∃ A n c, e = .returned (.tuple #[.slice A n c, .int .i64 0]) ∧ OwnV w' w.heap.size 9 A n c (sc [PT]) ∧ Gr w w')
    (cP : ∀ w, Tab w → Calls Tryd.prog 13 #[.string s] w fun e w' => e = .returned (.tuple #[.string pt, .int .i64 0]) ∧ Gr w w')
    (cI : ∀ w, Tab w → Calls Tryd.prog 14 #[.string s] w fun e w' => ∃ A n c, e = .returned (.tuple #[.slice A n c, .int .i64 0]) ∧ OwnV w' w.heap.size 9 A n c (sc [PT]) ∧ Gr w w') :
    Calls Tryd.prog 4 #[.string s] w fun e w' => e = .returned (.bool true) ∧ Gr w w' := by
  go_enter Tryd.func4, Tryd.ntmps4
  go_wp2_with fail
  refine (awake9_any _ ht).mono ?_
  rintro e w1 ⟨rfl, hg1⟩
  have ht1 := ht.keep hg1
  go_wp2_with fail
  refine (cR _).mono ?_
  rintro e w2 ⟨A2, n2, c2, rfl, hown2, hg2⟩
  have hn2 : n2 = 1 := by have := hown2.len; simpa [sc] using this.symm
  subst hn2
  obtain ⟨g2, rfl, _, hlt2, hc2⟩ := hown2.cells (by omega)
  have hc2' : w2.cell? ((⟨g2, 0, none⟩ : Addr).add 0) = some (.string ⟨PT.toArray⟩) := hc2 0 _ rfl
  rw [HP.out] at hc2'
  have hc20 : w2.cell? ⟨g2, 0, none⟩ = some (.string pt) := hc2'
  clear hc2 hc2'
  have ht2 := ht1.keep hg2
  go_wp2_with fail
  refine (cP _ ht2).mono ?_
  rintro e w3 ⟨rfl, hg3⟩
  have ht3 := ht2.keep hg3
  go_wp2_with fail
  refine (cI _ ht3).mono ?_
  rintro e w4 ⟨A4, n4, c4, rfl, hown4, hg4⟩
  have ht4 := ht3.keep hg4
  go_wp2_with fail
  refine (cV _ ht4).mono ?_
  rintro e w5 ⟨rfl, hg5⟩
  go_wp2_with fail
  refine (cW _).mono ?_
  rintro e w6 ⟨rfl, hg6⟩
  have hgg := ((hg3.trans hg4).trans hg5).trans hg6
  have hc6 : w6.cell? ⟨g2, 0, none⟩ = some (.string pt) := hgg.keeps hlt2 hc20
  have cS := same_yes _ A4 1 c2 n4 c4 [PT] [PT] w6 (Strs.of_own (hown2.gr hgg)) (Strs.of_own (hown4.gr (hg5.trans hg6))) rfl (by omega)
  clear hc20 hown2 hown4
  go_wp2_with (go_at_call 17; refine cS.mono ?_; rintro e w7 ⟨rfl, hg7⟩)
  go_ret
  exact ⟨rfl, ((hg1.trans hg2).trans hgg).trans hg7⟩
set_option maxHeartbeats 2000000 in
set_option maxRecDepth 100000 in
theorem reads_more (s : ByteArray) (w : World) (ht : Tab w) (h5d : decide ((5000 : Int) < (s.size : Int)) = false) (VT : ByteArray) (VE : Int)
    (cV : ∀ w, Tab w → Calls Tryd.prog 15 #[.string s] w fun e w' => e = .returned (.tuple #[.string VT, .int .i64 VE]) ∧ Gr w w')
    (cW : ∀ w, Calls Tryd.prog 16 #[.string s] w fun e w' => e = .returned (.tuple #[.string VT, .int .i64 VE]) ∧ Gr w w') (hem : s.toList.isEmpty = false) (RT : List (List UInt8)) (hl2 : 2 ≤ RT.length) (hlm : RT.length ≤ 5001)
    (cR : ∀ w, Calls Tryd.prog 12 #[.string s] w fun e w' => ∃ A n c, e = .returned (.tuple #[.slice A n c, .int .i64 0]) ∧ OwnV w' w.heap.size 9 A n c (sc RT) ∧ Gr w w')
    (cP : ∀ w, Tab w → Calls Tryd.prog 13 #[.string s] w fun e w' => e = .returned (.tuple #[.string ⟨#[]⟩, .int .i64 7]) ∧ Gr w w')
    (cI : ∀ w, Tab w → Calls Tryd.prog 14 #[.string s] w fun e w' => ∃ A n c, e = .returned (.tuple #[.slice A n c, .int .i64 0]) ∧ OwnV w' w.heap.size 9 A n c (sc RT) ∧ Gr w w') :
    Calls Tryd.prog 4 #[.string s] w fun e w' => e = .returned (.bool true) ∧ Gr w w' := by
  go_enter Tryd.func4, Tryd.ntmps4
  go_wp2_with fail
  refine (awake9_any _ ht).mono ?_
  rintro e w1 ⟨rfl, hg1⟩
  have ht1 := ht.keep hg1
  go_wp2_with fail
  refine (cR _).mono ?_
  rintro e w2 ⟨A2, n2, c2, rfl, hown2, hg2⟩
  have hn2 : RT.length = n2 := by have := hown2.len; rw [sc_len] at this; exact this
  have hn2a : ((n2 : Int) == 1) = false := by rw [beq_eq_false_iff_ne]; omega
  have hn2b : (1 : Int) < (n2 : Int) := by omega
  have hn2c : n2 ≤ 140737488355328 := by omega
  clear hn2
  have ht2 := ht1.keep hg2
  go_wp2_with fail
  refine (cP _ ht2).mono ?_
  rintro e w3 ⟨rfl, hg3⟩
  have ht3 := ht2.keep hg3
  go_wp2_with fail
  refine (cI _ ht3).mono ?_
  rintro e w4 ⟨A4, n4, c4, rfl, hown4, hg4⟩
  have ht4 := ht3.keep hg4
  go_wp2_with fail
  refine (cV _ ht4).mono ?_
  rintro e w5 ⟨rfl, hg5⟩
  go_wp2_with fail
  refine (cW _).mono ?_
  rintro e w6 ⟨rfl, hg6⟩
  have hgg := ((hg3.trans hg4).trans hg5).trans hg6
  have cS := same_yes A2 A4 n2 c2 n4 c4 RT RT w6 (Strs.of_own (hown2.gr hgg)) (Strs.of_own (hown4.gr (hg5.trans hg6))) rfl hn2c
  clear hown2 hown4
  go_wp2_with (go_at_call 17; refine cS.mono ?_; rintro e w7 ⟨rfl, hg7⟩)
  go_ret
  exact ⟨rfl, ((hg1.trans hg2).trans hgg).trans hg7⟩
set_option maxHeartbeats 2000000 in
set_option maxRecDepth 100000 in
theorem escreads_any (s : ByteArray) (w : World) (ht : Tab w) (hs : s.size ≤ 140737488355328) :
    Calls Tryd.prog 4 #[.string s] w fun e w' => e = .returned (.bool true) ∧ Gr w w' := by
  by_cases h5 : 5000 < s.size
  · have h5d : decide ((5000 : Int) < (s.size : Int)) = true := by simp; omega
    have h5i : (5000 : Int) < (s.size : Int) := by omega
    clear h5
    go_enter Tryd.func4, Tryd.ntmps4
    go_wp2_with fail
    refine (awake9_any _ ht).mono ?_
    rintro e w1 ⟨rfl, hg1⟩
    go_wp2_with fail
    refine (awake9_any _ (ht.keep hg1)).mono ?_
    rintro e w2 ⟨rfl, hg2⟩
    go_wp2
    go_ret
    exact ⟨rfl, hg1.trans hg2⟩
  · have h5d : decide ((5000 : Int) < (s.size : Int)) = false := by simp; omega
    have h5i : (s.size : Int) ≤ 5000 := by omega
    have hb : s.size ≤ 400000 := by omega
    have cR := fun w => refitems_any s w hb
    have cP := fun w ht => plain_any s w ht hb
    have cI := fun w ht => items_any s w ht hb
    have cV := fun w ht => value_any s w ht hb
    have cW := fun w => refvalue_any s w hb
    by_cases hE : Es.riE s.data.toList = 0
    · rcases Es.ri_good hE with ⟨t, e1, e2, e3⟩ | ⟨x, y, r, e1, e2, e3, hne⟩
      · rw [hE, e1] at cR
        rw [e2, e3] at cP
        by_cases h0 : s.size = 0
        · have hI : Es.itE s.data.toList = 7 ∧ Es.itT s.data.toList = [] := by rw [empty_list s h0]; exact Es.it_nil
          rw [hI.1, hI.2] at cI
          exact reads_nil s w ht h5d _ _ cV cW (emp_t s h0) t _ (Lib.hid rfl) cR cP cI
        · have hne : s.data.toList ≠ [] := fun e => h0 (by rw [Lib.size_eq, e]; rfl)
          obtain ⟨i1, i2⟩ := Es.it_good hE hne
          rw [i1, i2, e1] at cI
          exact reads_one s w ht h5d _ _ cV cW (emp_f s (by omega)) t _ (Lib.hid rfl) cR cP cI
      · have hl2 : 2 ≤ (Es.riT s.data.toList).length := by rw [e1]; simp
        have hlm := Es.ri_len s.data.toList
        rw [← Lib.size_eq] at hlm
        obtain ⟨i1, i2⟩ := Es.it_good hE hne
        rw [hE] at cR
        rw [e2, e3] at cP
        rw [i1, i2] at cI
        have hpos : 0 < s.size := by rw [Lib.size_eq]; exact List.length_pos_iff.2 hne
        exact reads_more s w ht h5d _ _ cV cW (emp_f s hpos) _ hl2 (by omega) cR cP cI
    · obtain ⟨e1, e2, e3, e4⟩ := Es.ri_bad hE
      rw [e1, e2] at cP
      rw [e3, e4] at cI
      have hEn : ((Es.riE s.data.toList : Int) != 0) = true := by simpa using hE
      exact reads_bad s w ht h5d _ _ cV cW _ hEn (fun w => (cR w).mono (fun e w' ⟨A, n, c, h1, _, h3⟩ => ⟨A, n, c, h1, h3⟩)) cP cI
end Go.Proofs.YtoocghgafebcbaaDoor
