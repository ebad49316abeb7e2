/- What a reader's skipTo, skipValue and value return. -/
import Derived.Test.YtpcmhaflmpcicaaDoorLnName
import Derived.Test.YtpcmhaflmpcicaaDoorLnAny
import Derived.Test.YtpcmhaflmpcicaaDoorEsVa
namespace Go.Proofs.YtpcmhaflmpcicaaDoor
open Go.RowKit

theorem RB.setI {w : World} {b : Nat} {s : ByteArray} {i : Nat} (h : RB w b s i) (v : Int) (j : Nat) (hv : v = (j : Int)) : RB (w.setCell ⟨b, 1, none⟩ (.int .i64 v)) b s j := by
  subst hv; exact h.set j
set_option maxHeartbeats 2000000 in
theorem skipTo_any (cs : ByteArray) (cl : List UInt8) (b : Nat) (s : ByteArray) (i : Nat) (w : World) (h : RB w b s i) (hi : i ≤ s.size) (hs : s.size ≤ 400000)
    (cA : ∀ w, Calls Tryd.prog 47 #[.string (s.extract i s.size), .string cs] w fun e w' => e = .returned (.int .i64 (Ln.ix cl (s.data.toList.drop i))) ∧ Gr w w') :
    Calls Tryd.prog 62 #[.pointer (some ⟨b, 0, none⟩), .string cs] w fun e w' => e = .returned (.tuple #[]) ∧ Mv b w w' ∧ RB w' b s (i + Ln.tk cl (s.data.toList.drop i)) := by
  have hbl := h.lt
  have HR := Lib.hid h
  obtain ⟨c0, c1, c2⟩ := h
  have hle := Ln.tk_le cl (s.data.toList.drop i)
  rw [List.length_drop, ← Lib.size_eq] at hle
  by_cases hf : Ln.tk cl (s.data.toList.drop i) = s.size - i
  · have hx : Ln.ix cl (s.data.toList.drop i) = -1 := by unfold Ln.ix; rw [if_pos (by rw [List.length_drop, ← Lib.size_eq]; exact hf)]
    rw [hx] at cA
    rw [hf, show i + (s.size - i) = s.size by omega]
    clear hf hx hle
    go_enter Tryd.func62, Tryd.ntmps62
    go_wp2_with fail
    go_region_held3 (fun w' => w'.cell? ⟨b, 0, none⟩ = some (.string s) ∧ w'.cell? ⟨b, 1, none⟩ = some (.int .i64 (i : Int)))
      (first | exact ⟨c0, c1⟩ | exact ⟨d0, d1⟩)
      (first | (go_at_call 47; refine (cA _).mono ?_; rintro e w1 ⟨rfl, hg1⟩; have hg2 := (Gr.refl w).drew.trans hg1; have hr1 := HR.out.keep hg2; have HR1 := Lib.hid hr1; obtain ⟨d0, d1, d2⟩ := hr1))
    go_wp2
    go_quiet (fail)
    go_wp2
    go_end0
    exact ⟨rfl, (hg2.mv b).drewN nq |>.trans (Mv.set b _ 1 _), (HR1.out.drew nq).setI _ _ (by omega)⟩
  · have hx : Ln.ix cl (s.data.toList.drop i) = (Ln.tk cl (s.data.toList.drop i) : Int) := by unfold Ln.ix; rw [if_neg (by rw [List.length_drop, ← Lib.size_eq]; exact hf)]
    rw [hx] at cA
    clear hf hx
    generalize Ln.tk cl (s.data.toList.drop i) = k at *
    go_enter Tryd.func62, Tryd.ntmps62
    go_wp2_with fail
    go_region_held3 (fun w' => w'.cell? ⟨b, 0, none⟩ = some (.string s) ∧ w'.cell? ⟨b, 1, none⟩ = some (.int .i64 (i : Int)))
      (first | exact ⟨c0, c1⟩ | exact ⟨d0, d1⟩)
      (first | (go_at_call 47; refine (cA _).mono ?_; rintro e w1 ⟨rfl, hg1⟩; have hg2 := (Gr.refl w).drew.trans hg1; have hr1 := HR.out.keep hg2; have HR1 := Lib.hid hr1; obtain ⟨d0, d1, d2⟩ := hr1))
    go_wp2
    go_end0
    exact ⟨rfl, (hg2.mv b).trans (Mv.set b _ 1 _), HR1.out.setI _ _ (by omega)⟩
namespace Ln
open Go.Lib _root_.Go.Proofs.YtpcmhaflmpcicaaDoor.Es
theorem drop_tw (p : UInt8 → Bool) (l : List UInt8) : l.drop (l.takeWhile p).length = l.dropWhile p := by
  have h := List.takeWhile_append_dropWhile (p := p) (l := l)
  conv => lhs; arg 2; rw [← h]
  rw [List.drop_left]
theorem cs4 (b : UInt8) : ([34, 44, 59, 58] : List UInt8).contains b = qb b := by
  refine byte_ind (P := fun b => ([34, 44, 59, 58] : List UInt8).contains b = qb b) ?_ b
  decide +kernel
theorem tk4 (r : List UInt8) : tk [34, 44, 59, 58] r = (r.takeWhile fun b => !qb b).length := by
  unfold tk
  rw [show (fun b => !([34, 44, 59, 58] : List UInt8).contains b) = fun b => !qb b from funext fun b => by rw [cs4]]
theorem cs1 (b : UInt8) : (!([34] : List UInt8).contains b) = (b != 34) := by
  refine byte_ind (P := fun b => (!([34] : List UInt8).contains b) = (b != 34)) ?_ b
  decide +kernel
theorem tk1 (r : List UInt8) : tk [34] r = (r.takeWhile (· != 34)).length := by
  unfold tk
  rw [show (fun b => !([34] : List UInt8).contains b) = (· != 34) from funext fun b => cs1 b]
theorem sv_in_yes {r : List UInt8} (h : r.head? = some 34) (hm : 34 ∈ r.tail) : (r.tail.drop (tk [34] r.tail)).head? = some 34 ∧ ∃ x, sv r = some x ∧ x.1.length = tk [34] r.tail + 2 := by
  have e := tw_mem 34 r.tail hm
  rw [tk1, drop_tw]
  refine ⟨?_, _, by unfold sv; rw [if_pos h, if_pos hm], by simp⟩
  have h2 := List.takeWhile_append_dropWhile (p := (· != (34 : UInt8))) (l := r.tail)
  have e2 := List.append_cancel_left (h2.trans e)
  rw [e2]; rfl
theorem sv_in_no {r : List UInt8} (h : r.head? = some 34) (hm : 34 ∉ r.tail) : (r.tail.drop (tk [34] r.tail)).head? ≠ some 34 ∧ sv r = none := by
  refine ⟨fun e => hm ?_, by unfold sv; rw [if_pos h, if_neg hm]⟩
  exact List.mem_of_mem_drop (List.mem_of_head? e)
theorem sv_out_yes {r : List UInt8} (h : r.head? ≠ some 34) (c : UInt8) (hc : (r.drop (tk [34, 44, 59, 58] r)).head? = some c) (h34 : c ≠ 34) : ∃ x, sv r = some x ∧ x.1.length = tk [34, 44, 59, 58] r := by
  rw [tk4] at hc ⊢
  rw [drop_tw] at hc
  refine ⟨_, by unfold sv; rw [if_neg h, if_neg (by rw [hc]; simp [h34])], rfl⟩
theorem sv_out_no {r : List UInt8} (h : r.head? ≠ some 34) (hc : (r.drop (tk [34, 44, 59, 58] r)).head? = none ∨ (r.drop (tk [34, 44, 59, 58] r)).head? = some 34) : sv r = none := by
  rw [tk4, drop_tw] at hc
  unfold sv; rw [if_neg h, if_pos hc]
end Ln
theorem asc4b : Asc ⟨#[34, 44, 59, 58]⟩ := ⟨by decide, by decide, by decide⟩
theorem iat_from (cs : ByteArray) (hc : Asc cs) (s : ByteArray) (i : Nat) (hs : s.size ≤ 400000) (w : World) :
    Calls Tryd.prog 47 #[.string (s.extract i s.size), .string cs] w fun e w' => e = .returned (.int .i64 (Ln.ix cs.data.toList (s.data.toList.drop i))) ∧ Gr w w' := by
  have h := iat_any cs hc (s.extract i s.size) w (by rw [Lib.size_eq, ext_data, List.length_drop, ← Lib.size_eq]; omega)
  rw [ext_data] at h
  exact h
theorem iat_one_from (s : ByteArray) (i : Nat) (w : World) :
    Calls Tryd.prog 47 #[.string (s.extract i s.size), .string ⟨#[34]⟩] w fun e w' => e = .returned (.int .i64 (Ln.ix [34] (s.data.toList.drop i))) ∧ Gr w w' := by
  have h := iat_one (s.extract i s.size) w
  rw [ext_data] at h
  exact h
theorem tk_size (cs : List UInt8) (s : ByteArray) (i : Nat) (hi : i ≤ s.size) : i + Ln.tk cs (s.data.toList.drop i) ≤ s.size := by
  have := Ln.tk_le cs (s.data.toList.drop i)
  rw [List.length_drop, ← Lib.size_eq] at this; omega
theorem skipTo4 (b : Nat) (s : ByteArray) (i : Nat) (w : World) (h : RB w b s i) (hi : i ≤ s.size) (hs : s.size ≤ 400000) :
    Calls Tryd.prog 62 #[.pointer (some ⟨b, 0, none⟩), .string ⟨#[34, 44, 59, 58]⟩] w fun e w' => e = .returned (.tuple #[]) ∧ Mv b w w' ∧ RB w' b s (i + Ln.tk [34, 44, 59, 58] (s.data.toList.drop i)) :=
  skipTo_any ⟨#[34, 44, 59, 58]⟩ [34, 44, 59, 58] b s i w h hi hs (fun w => iat_from ⟨#[34, 44, 59, 58]⟩ asc4b s i hs w)
theorem skipTo1 (b : Nat) (s : ByteArray) (i : Nat) (w : World) (h : RB w b s i) (hi : i ≤ s.size) (hs : s.size ≤ 400000) :
    Calls Tryd.prog 62 #[.pointer (some ⟨b, 0, none⟩), .string ⟨#[34]⟩] w fun e w' => e = .returned (.tuple #[]) ∧ Mv b w w' ∧ RB w' b s (i + Ln.tk [34] (s.data.toList.drop i)) :=
  skipTo_any ⟨#[34]⟩ [34] b s i w h hi hs (fun w => iat_one_from s i w)
set_option maxHeartbeats 2000000 in
theorem skipValue_any (b : Nat) (s : ByteArray) (i : Nat) (w : World) (h : RB w b s i) (hi : i ≤ s.size) (hs : s.size ≤ 400000) :
    Calls Tryd.prog 56 #[.pointer (some ⟨b, 0, none⟩)] w fun e w' => e = .returned (.bool (Ln.sv (s.data.toList.drop i)).isSome) ∧ Mv b w w' ∧ ∃ j, RB w' b s j ∧ i ≤ j ∧ j ≤ s.size ∧ ∀ x, Ln.sv (s.data.toList.drop i) = some x → j = i + x.1.length := by
  by_cases h34 : (s.data.toList.drop i).head? = some 34
  · have hlt := hd_lt h34
    have cT := take_t b s i 34 34 rfl w h hs h34
    have cS := fun w1 (h1 : RB w1 b s (i + 1)) => skipTo1 b s (i + 1) w1 h1 (by omega) hs
    have hkz := tk_size [34] s (i + 1) (by omega)
    have etl : (s.data.toList.drop i).tail = s.data.toList.drop (i + 1) := by rw [List.tail_drop]
    by_cases hm : 34 ∈ (s.data.toList.drop i).tail
    · obtain ⟨e1, x, e2, e3⟩ := Ln.sv_in_yes h34 hm
      rw [etl] at e1 e3
      rw [List.drop_drop] at e1
      have cT2 := fun w1 (h1 : RB w1 b s (i + 1 + Ln.tk [34] (s.data.toList.drop (i + 1)))) => take_t b s _ 34 34 rfl w1 h1 hs e1
      have hl2 := hd_lt e1
      rw [e2]
      have HE := Lib.hid e3
      generalize Ln.tk [34] (s.data.toList.drop (i + 1)) = k at *
      clear e1 e2 e3 hm etl h34
      go_enter Tryd.func56, Tryd.ntmps56
      go_wp2_with fail
      refine cT.mono ?_
      rintro e w1 ⟨rfl, hm1, hr1⟩
      go_wp2_with fail
      refine (cS w1 hr1).mono ?_
      rintro e w2 ⟨rfl, hm2, hr2⟩
      go_wp2_with fail
      refine (cT2 w2 hr2).mono ?_
      rintro e w3 ⟨rfl, hm3, hr3⟩
      go_wp2
      go_ret
      exact ⟨rfl, (hm1.trans hm2).trans hm3, _, hr3, by omega, by omega, fun y hy => by injection hy with hy; subst hy; rw [HE.out]; omega⟩
    · obtain ⟨e1, e2⟩ := Ln.sv_in_no h34 hm
      rw [etl, List.drop_drop] at e1
      have cT2 := fun w1 (h1 : RB w1 b s (i + 1 + Ln.tk [34] (s.data.toList.drop (i + 1)))) => take_f b s _ 34 34 rfl w1 h1 hkz e1
      rw [e2]
      generalize Ln.tk [34] (s.data.toList.drop (i + 1)) = k at *
      clear e1 e2 hm etl h34
      go_enter Tryd.func56, Tryd.ntmps56
      go_wp2_with fail
      refine cT.mono ?_
      rintro e w1 ⟨rfl, hm1, hr1⟩
      go_wp2_with fail
      refine (cS w1 hr1).mono ?_
      rintro e w2 ⟨rfl, hm2, hr2⟩
      go_wp2_with fail
      refine (cT2 w2 hr2).mono ?_
      rintro e w3 ⟨rfl, hg3⟩
      go_wp2
      go_ret
      exact ⟨rfl, (hm1.trans hm2).trans (hg3.mv b), _, hr2.keep hg3, by omega, by omega, fun y hy => by cases hy⟩
  · have cT := take_f b s i 34 34 rfl w h hi h34
    have cS := fun w1 (h1 : RB w1 b s i) => skipTo4 b s i w1 h1 hi hs
    have hkz := tk_size [34, 44, 59, 58] s i hi
    by_cases hl : i + Ln.tk [34, 44, 59, 58] (s.data.toList.drop i) < s.size
    · have hh := hd_at s _ hl
      rw [← List.drop_drop] at hh
      cases h34b : ((s[i + Ln.tk [34, 44, 59, 58] (s.data.toList.drop i)].toNat : Int) == 34)
      · obtain ⟨x, e2, e3⟩ := Ln.sv_out_yes h34 _ hh (by_f 34 h34b)
        rw [e2]
        have HE : Hid (i + x.1.length = i + Ln.tk [34, 44, 59, 58] (s.data.toList.drop i)) := Lib.hid (by rw [e3])
        have hij : i ≤ i + Ln.tk [34, 44, 59, 58] (s.data.toList.drop i) := by omega
        clear e2 e3 hh h34
        generalize i + Ln.tk [34, 44, 59, 58] (s.data.toList.drop i) = j at *
        go_enter Tryd.func56, Tryd.ntmps56
        go_wp2_with fail
        refine cT.mono ?_
        rintro e w1 ⟨rfl, hg1⟩
        go_wp2_with fail
        refine (cS w1 (h.keep hg1)).mono ?_
        rintro e w2 ⟨rfl, hm2, hr2⟩
        have HR := Lib.hid hr2
        obtain ⟨c0, c1, c2⟩ := hr2
        go_wp2_with fail
        go_quiet (fail)
        go_wp2
        go_ret
        exact ⟨ret_bool (by show (!((s[j].toNat : Int) == 34)) = _; rw [h34b]; rfl), ((hg1.mv b).trans hm2).drewN _, _, HR.out.drew _, by omega, by omega, fun y hy => by injection hy with hy; subst hy; exact HE.out.symm⟩
      · have e2 := Ln.sv_out_no h34 (.inr (by rw [hh, by_t 34 h34b]))
        rw [e2]
        have hij : i ≤ i + Ln.tk [34, 44, 59, 58] (s.data.toList.drop i) := by omega
        clear e2 hh h34
        generalize i + Ln.tk [34, 44, 59, 58] (s.data.toList.drop i) = j at *
        go_enter Tryd.func56, Tryd.ntmps56
        go_wp2_with fail
        refine cT.mono ?_
        rintro e w1 ⟨rfl, hg1⟩
        go_wp2_with fail
        refine (cS w1 (h.keep hg1)).mono ?_
        rintro e w2 ⟨rfl, hm2, hr2⟩
        have HR := Lib.hid hr2
        obtain ⟨c0, c1, c2⟩ := hr2
        go_wp2_with fail
        go_quiet (fail)
        go_wp2
        go_ret
        exact ⟨ret_bool (by show (!((s[j].toNat : Int) == 34)) = _; rw [h34b]; rfl), ((hg1.mv b).trans hm2).drewN _, _, HR.out.drew _, by omega, by omega, fun y hy => by cases hy⟩
    · have e2 := Ln.sv_out_no h34 (.inl (by rw [List.drop_drop, drop_end s _ (by omega)]; rfl))
      rw [e2]
      have hij : i ≤ i + Ln.tk [34, 44, 59, 58] (s.data.toList.drop i) := by omega
      clear e2 h34
      generalize i + Ln.tk [34, 44, 59, 58] (s.data.toList.drop i) = j at *
      go_enter Tryd.func56, Tryd.ntmps56
      go_wp2_with fail
      refine cT.mono ?_
      rintro e w1 ⟨rfl, hg1⟩
      go_wp2_with fail
      refine (cS w1 (h.keep hg1)).mono ?_
      rintro e w2 ⟨rfl, hm2, hr2⟩
      have HR := Lib.hid hr2
      obtain ⟨c0, c1, c2⟩ := hr2
      have hli : ¬ (j : Int) < (s.size : Int) := by omega
      have hld : decide ((j : Int) < (s.size : Int)) = false := decide_eq_false hli
      go_wp2_with fail
      go_quiet (fail)
      go_wp2
      go_ret
      exact ⟨rfl, ((hg1.mv b).trans hm2).drewN _, _, HR.out.drew _, by omega, by omega, fun y hy => by cases hy⟩
end Go.Proofs.YtpcmhaflmpcicaaDoor
