/- Plain mathematics of unfolding: no model in it. -/
import Derived.Test.YtpcmhaflmpcicaaDoorFd
namespace Go.Proofs.YtpcmhaflmpcicaaDoor
namespace Fd
open Go.Lib

/- up to the first LF, from it on, and without a CR at the end -/
def bl (s : List UInt8) : List UInt8 := s.takeWhile (· != 10)
def al (s : List UInt8) : List UInt8 := s.dropWhile (· != 10)
def tc (p : List UInt8) : List UInt8 := if p.getLast? = some 13 then p.dropLast else p
def badp (s : List UInt8) : Bool := (al s).isEmpty || (tc (bl s)).isEmpty || (tc (bl s)).contains 13
theorem al_len (s : List UInt8) (h : s ≠ []) : (al s).tail.length < s.length := by
  have h1 : (al s).length ≤ s.length := (List.dropWhile_suffix _).length_le
  have h2 := List.length_pos_iff.2 h
  rw [List.length_tail]; omega
/- the pieces of a text: (0, pieces), or the number of the first bad one -/
def sp (n : Nat) (s : List UInt8) : Nat × List (List UInt8) :=
  if _h : s = [] then (0, []) else if badp s || (decide (n = 0) && ct (tc (bl s))) then (n + 1, [])
  else if (sp (n + 1) (al s).tail).1 = 0 then (0, tc (bl s) :: (sp (n + 1) (al s).tail).2) else ((sp (n + 1) (al s).tail).1, [])
  termination_by s.length
  decreasing_by all_goals exact al_len s _h
theorem sp_nil (n : Nat) : sp n [] = (0, []) := by rw [sp]; simp
theorem sp_bad (n : Nat) (s : List UInt8) (h : s ≠ []) (b : (badp s || (decide (n = 0) && ct (tc (bl s)))) = true) : sp n s = (n + 1, []) := by
  rw [sp, dif_neg h, if_pos b]
theorem sp_good (n : Nat) (s : List UInt8) (h : s ≠ []) (b : (badp s || (decide (n = 0) && ct (tc (bl s)))) = false) :
    sp n s = if (sp (n + 1) (al s).tail).1 = 0 then (0, tc (bl s) :: (sp (n + 1) (al s).tail).2) else ((sp (n + 1) (al s).tail).1, []) := by
  rw [sp, dif_neg h, if_neg (by simp [b])]
def cmb (ps : List (List UInt8)) (r : Nat × List (List UInt8)) : Nat × List (List UInt8) := if r.1 = 0 then (0, ps ++ r.2) else (r.1, [])
theorem cmb_nil (r : Nat × List (List UInt8)) (h : r.1 ≠ 0 → r.2 = []) : cmb [] r = r := by
  obtain ⟨a, b⟩ := r
  unfold cmb
  by_cases c : a = 0
  · simp [c]
  · have := h c; simp at this; simp [c, this]
theorem sp_err (n : Nat) (s : List UInt8) : (sp n s).1 ≠ 0 → (sp n s).2 = [] := by
  by_cases h : s = []
  · subst h; rw [sp_nil]; simp
  · by_cases b : (badp s || (decide (n = 0) && ct (tc (bl s)))) = true
    · rw [sp_bad n s h b]; simp
    · rw [sp_good n s h (by simpa using b)]
      split <;> simp
theorem cmb_end (ps : List (List UInt8)) (n : Nat) : cmb ps (sp n []) = (0, ps) := by rw [sp_nil]; simp [cmb]
theorem cmb_bad (ps : List (List UInt8)) (n : Nat) (s : List UInt8) (h : s ≠ []) (b : (badp s || (decide (n = 0) && ct (tc (bl s)))) = true) : cmb ps (sp n s) = (n + 1, []) := by
  rw [sp_bad n s h b]; simp [cmb]
theorem cmb_good (ps : List (List UInt8)) (n : Nat) (s : List UInt8) (h : s ≠ []) (b : (badp s || (decide (n = 0) && ct (tc (bl s)))) = false) :
    cmb ps (sp n s) = cmb (ps ++ [tc (bl s)]) (sp (n + 1) (al s).tail) := by
  rw [sp_good n s h b]
  unfold cmb
  by_cases c : (sp (n + 1) (al s).tail).1 = 0
  · simp [c]
  · rw [if_neg c]; simp [c]
theorem sp_len (n : Nat) (s : List UInt8) : (sp n s).2.length ≤ s.length ∧ (sp n s).1 ≤ n + s.length := by
  generalize hn : s.length = m
  induction m using Nat.strongRecOn generalizing s n with
  | _ m ih =>
    by_cases h : s = []
    · subst h; rw [sp_nil]; simp
    · have h1 := al_len s h
      have h2 := List.length_pos_iff.2 h
      by_cases b : (badp s || (decide (n = 0) && ct (tc (bl s)))) = true
      · rw [sp_bad n s h b]; simp; omega
      · rw [sp_good n s h (by simpa using b)]
        have i := ih (al s).tail.length (by omega) (n + 1) (al s).tail rfl
        split
        · simp only [List.length_cons]; omega
        · simp only [List.length_nil]; omega

/- lines and the numbers of their first pieces -/
def addLast (acc : List (List UInt8 × Nat)) (t : List UInt8) : List (List UInt8 × Nat) :=
  match acc.getLast? with
  | none => []
  | some x => acc.dropLast ++ [(x.1 ++ t, x.2)]
def gst (acc : List (List UInt8 × Nat)) (n : Nat) (p : List UInt8) : List (List UInt8 × Nat) := if ct p then addLast acc p.tail else acc ++ [(p, n + 1)]
def gs : List (List UInt8 × Nat) → Nat → List (List UInt8) → List (List UInt8 × Nat)
  | acc, _, [] => acc
  | acc, n, p :: ps => gs (gst acc n p) (n + 1) ps
theorem gs_append : ∀ (xs ys : List (List UInt8)) (acc : List (List UInt8 × Nat)) (n : Nat), gs acc n (xs ++ ys) = gs (gs acc n xs) (n + xs.length) ys
  | [], ys, acc, n => by simp [gs]
  | x :: xs, ys, acc, n => by
    simp only [List.cons_append, gs, List.length_cons]
    rw [gs_append xs ys, show n + 1 + xs.length = n + (xs.length + 1) by omega]
theorem gs_snoc (xs : List (List UInt8)) (p : List UInt8) (acc : List (List UInt8 × Nat)) (n : Nat) : gs acc n (xs ++ [p]) = gst (gs acc n xs) (n + xs.length) p := by
  rw [gs_append]; rfl
theorem addLast_snoc (acc : List (List UInt8 × Nat)) (x : List UInt8 × Nat) (t : List UInt8) : addLast (acc ++ [x]) t = acc ++ [(x.1 ++ t, x.2)] := by
  unfold addLast; simp
theorem gs_conts : ∀ (cs : List (List UInt8)) (acc : List (List UInt8 × Nat)) (l : List UInt8) (k n : Nat), cs.all ct = true → gs (acc ++ [(l, k)]) n cs = acc ++ [(l ++ cs.flatMap List.tail, k)]
  | [], acc, l, k, n, _ => by simp [gs]
  | c :: cs, acc, l, k, n, h => by
    simp only [List.all_cons, Bool.and_eq_true] at h
    simp only [gs, gst, h.1, if_true]
    rw [addLast_snoc, gs_conts cs acc _ k (n + 1) h.2]
    simp
theorem gs_line (p : List UInt8) (cs : List (List UInt8)) (acc : List (List UInt8 × Nat)) (n : Nat) (hp : ct p = false) (h : cs.all ct = true) : gs acc n (p :: cs) = acc ++ [(p ++ cs.flatMap List.tail, n + 1)] := by
  simp only [gs, gst, hp]
  exact gs_conts cs acc p (n + 1) (n + 1) h
theorem addLast_far (acc x : List (List UInt8 × Nat)) (t : List UInt8) (h : x ≠ []) : addLast (acc ++ x) t = acc ++ addLast x t := by
  obtain ⟨y, z, rfl⟩ : ∃ y z, x = y ++ [z] := ⟨x.dropLast, x.getLast h, (List.dropLast_concat_getLast h).symm⟩
  rw [← List.append_assoc, addLast_snoc, addLast_snoc, List.append_assoc]
theorem addLast_ne (x : List (List UInt8 × Nat)) (t : List UInt8) (h : x ≠ []) : addLast x t ≠ [] := by
  obtain ⟨y, z, rfl⟩ : ∃ y z, x = y ++ [z] := ⟨x.dropLast, x.getLast h, (List.dropLast_concat_getLast h).symm⟩
  rw [addLast_snoc]; simp
theorem gst_ne (x : List (List UInt8 × Nat)) (n : Nat) (p : List UInt8) (h : x ≠ []) : gst x n p ≠ [] := by
  unfold gst; split
  · exact addLast_ne _ _ h
  · simp
theorem gst_far (acc x : List (List UInt8 × Nat)) (n : Nat) (p : List UInt8) (h : x ≠ []) : gst (acc ++ x) n p = acc ++ gst x n p := by
  unfold gst; split
  · exact addLast_far _ _ _ h
  · simp
theorem gs_far : ∀ (ps : List (List UInt8)) (acc x : List (List UInt8 × Nat)) (n : Nat), x ≠ [] → gs (acc ++ x) n ps = acc ++ gs x n ps
  | [], _, _, _, _ => rfl
  | p :: ps, acc, x, n, h => by
    simp only [gs]
    rw [gst_far _ _ _ _ h, gs_far ps acc _ _ (gst_ne _ _ _ h)]
theorem gs_more (ps : List (List UInt8)) (acc : List (List UInt8 × Nat)) (n : Nat) (h : ∀ p, ps.head? = some p → ct p = false) : ∃ r, gs acc n ps = acc ++ r := by
  cases ps with
  | nil => exact ⟨[], by simp [gs]⟩
  | cons p ps =>
    have hp := h p rfl
    simp only [gs, gst, hp]
    exact ⟨_, gs_far ps acc _ _ (by simp)⟩
theorem gs_ne (ps : List (List UInt8)) (acc : List (List UInt8 × Nat)) (n : Nat) (h : acc ≠ []) : gs acc n ps ≠ [] := by
  induction ps generalizing acc n with
  | nil => exact h
  | cons p ps ih => exact ih _ _ (gst_ne _ _ _ h)
/- the first line with an error -/
def chk : List (List UInt8 × Nat) → Option (Nat × Int)
  | [] => none
  | (l, k) :: r => if validD l = false then some (k, 3) else if 2000 < l.length then some (k, 4) else chk r
theorem chk_append (a b : List (List UInt8 × Nat)) (h : chk a = none) : chk (a ++ b) = chk b := by
  induction a with
  | nil => rfl
  | cons x a ih =>
    obtain ⟨l, k⟩ := x
    simp only [List.cons_append, chk] at h ⊢
    split
    · rename_i c; simp [c] at h
    · rename_i c
      rw [if_neg c] at h
      split
      · rename_i d; simp [d] at h
      · rename_i d; rw [if_neg d] at h; exact ih h
theorem chk_err (a b : List (List UInt8 × Nat)) (x : Nat × Int) (h : chk a = some x) : chk (a ++ b) = some x := by
  induction a with
  | nil => cases h
  | cons y a ih =>
    obtain ⟨l, k⟩ := y
    simp only [List.cons_append, chk] at h ⊢
    split
    · rename_i c; rw [if_pos c] at h; exact h
    · rename_i c
      rw [if_neg c] at h
      split
      · rename_i d; rw [if_pos d] at h; exact h
      · rename_i d; rw [if_neg d] at h; exact ih h
theorem chk_one (l : List UInt8) (k : Nat) : chk [(l, k)] = if validD l = false then some (k, 3) else if 2000 < l.length then some (k, 4) else none := by simp [chk]
theorem chk_none (a : List (List UInt8 × Nat)) (h : ∀ l ∈ a.map Prod.fst, validD l = true ∧ l.length ≤ 2000) : chk a = none := by
  induction a with
  | nil => rfl
  | cons x a ih =>
    obtain ⟨l, k⟩ := x
    simp only [List.map_cons, List.mem_cons, forall_eq_or_imp] at h
    simp only [chk]
    rw [if_neg (by simp [h.1.1]), if_neg (by omega)]
    exact ih h.2
/- what Unfold answers -/
def unf (s : List UInt8) : List (List UInt8) × Nat × Int :=
  if 20000 < s.length then ([], 0, 4) else if (sp 0 s).1 ≠ 0 then ([], (sp 0 s).1, 5) else
    match chk (gs [] 0 (sp 0 s).2) with
    | some x => ([], x.1, x.2)
    | none => ((gs [] 0 (sp 0 s).2).map Prod.fst, 0, 0)
theorem unf_long (s : List UInt8) (h : 20000 < s.length) : unf s = ([], 0, 4) := by unfold unf; rw [if_pos h]
theorem unf_bad (s : List UInt8) (h : ¬ 20000 < s.length) (k : Nat) (e : sp 0 s = (k, [])) (hk : k ≠ 0) : unf s = ([], k, 5) := by unfold unf; rw [if_neg h, e]; simp [hk]
theorem unf_err (s : List UInt8) (h : ¬ 20000 < s.length) (ps : List (List UInt8)) (e : sp 0 s = (0, ps)) (x : Nat × Int) (c : chk (gs [] 0 ps) = some x) : unf s = ([], x.1, x.2) := by
  unfold unf; rw [if_neg h, e]; simp [c]
theorem unf_ok (s : List UInt8) (h : ¬ 20000 < s.length) (ps : List (List UInt8)) (e : sp 0 s = (0, ps)) (c : chk (gs [] 0 ps) = none) : unf s = ((gs [] 0 ps).map Prod.fst, 0, 0) := by
  unfold unf; rw [if_neg h, e]; simp [c]

/- a text of pieces, each with its end -/
def txt (e : List UInt8) (ps : List (List UInt8)) : List UInt8 := ps.flatMap (· ++ e)
def clean (p : List UInt8) : Prop := p ≠ [] ∧ 13 ∉ p ∧ 10 ∉ p
theorem bl_piece (p r : List UInt8) (h : 10 ∉ p) : bl (p ++ 10 :: r) = p ∧ al (p ++ 10 :: r) = 10 :: r := by
  unfold bl al
  have h1 : ∀ a ∈ p, (a != 10) = true := by
    intro a ha; simp only [bne_iff_ne, ne_eq]; intro e; subst e; exact h ha
  rw [List.takeWhile_append_of_pos h1, List.dropWhile_append_of_pos h1]
  simp
theorem tc_crlf (p : List UInt8) : tc (p ++ [13]) = p := by unfold tc; simp
theorem tc_lf (p : List UInt8) (h : 13 ∉ p) : tc p = p := by
  unfold tc
  rw [if_neg]
  intro e
  exact h (List.mem_of_getLast? e)
theorem sp_txt (e : List UInt8) (he : e = [10] ∨ e = [13, 10]) : ∀ (ps : List (List UInt8)) (n : Nat), (∀ p ∈ ps, clean p) → (n = 0 → ∀ p, ps.head? = some p → ct p = false) → sp n (txt e ps) = (0, ps)
  | [], n, _, _ => by simp [txt, sp_nil]
  | p :: ps, n, h, h0 => by
    have hp := h p (by simp)
    have et : txt e (p :: ps) = p ++ e ++ txt e ps := by simp [txt]
    have hne : txt e (p :: ps) ≠ [] := by rw [et]; simp [hp.1]
    have key : tc (bl (txt e (p :: ps))) = p ∧ al (txt e (p :: ps)) = 10 :: txt e ps := by
      rw [et]
      rcases he with rfl | rfl
      · have := bl_piece p (txt [10] ps) hp.2.2
        rw [show p ++ [10] ++ txt [10] ps = p ++ 10 :: txt [10] ps by simp, this.1, this.2]
        exact ⟨tc_lf p hp.2.1, rfl⟩
      · have := bl_piece (p ++ [13]) (txt [13, 10] ps) (by simp [hp.2.2])
        rw [show p ++ [13, 10] ++ txt [13, 10] ps = (p ++ [13]) ++ 10 :: txt [13, 10] ps by simp, this.1, this.2]
        exact ⟨tc_crlf p, rfl⟩
    have hb : (badp (txt e (p :: ps)) || (decide (n = 0) && ct (tc (bl (txt e (p :: ps)))))) = false := by
      unfold badp
      rw [key.1, key.2]
      by_cases c : n = 0
      · simp [hp.1, hp.2.1, h0 c p rfl]
      · simp [hp.1, hp.2.1, c]
    rw [sp_good n _ hne hb, key.1, key.2, List.tail_cons, sp_txt e he ps (n + 1) (fun q hq => h q (by simp [hq])) (fun c => by omega)]
    simp
theorem txt_append (e : List UInt8) (a b : List (List UInt8)) : txt e (a ++ b) = txt e a ++ txt e b := by simp [txt]

/- a line cut at any places -/
theorem unf_cut (e : List UInt8) (he : e = [10] ∨ e = [13, 10]) (by_ : UInt8) (hb : by_ = 32 ∨ by_ = 9) (c0 : List UInt8) (cs : List (List UInt8)) (hc : c0 ≠ []) (h0 : ct c0 = false)
    (hl : ∀ b ∈ c0 ++ cs.flatten, b ≠ 13 ∧ b ≠ 10) (hv : validD (c0 ++ cs.flatten) = true) (h2 : (c0 ++ cs.flatten).length ≤ 2000) (ht : (txt e (c0 :: cs.map (by_ :: ·))).length ≤ 20000) :
    unf (txt e (c0 :: cs.map (by_ :: ·))) = ([c0 ++ cs.flatten], 0, 0) := by
  have hps : ∀ p ∈ c0 :: cs.map (by_ :: ·), clean p := by
    intro p hp
    rcases List.mem_cons.1 hp with rfl | hp
    · exact ⟨hc, fun h => (hl 13 (by simp [h])).1 rfl, fun h => (hl 10 (by simp [h])).2 rfl⟩
    · obtain ⟨c, hm, rfl⟩ := List.mem_map.1 hp
      have hm' : ∀ b ∈ c, b ∈ c0 ++ cs.flatten := fun b hb => by
        simp only [List.mem_append, List.mem_flatten]; exact .inr ⟨c, hm, hb⟩
      refine ⟨by simp, ?_, ?_⟩
      · intro h
        rcases List.mem_cons.1 h with h | h
        · rcases hb with rfl | rfl <;> cases h
        · exact (hl 13 (hm' _ h)).1 rfl
      · intro h
        rcases List.mem_cons.1 h with h | h
        · rcases hb with rfl | rfl <;> cases h
        · exact (hl 10 (hm' _ h)).2 rfl
  have hsp := sp_txt e he (c0 :: cs.map (by_ :: ·)) 0 hps (fun _ p hp => by cases hp; exact h0)
  have hct : (cs.map (by_ :: ·)).all ct = true := by
    rw [List.all_map, List.all_eq_true]
    intro c _
    rcases hb with rfl | rfl <;> simp [ct]
  have hg := gs_line c0 (cs.map (by_ :: ·)) [] 0 h0 hct
  have hf : (cs.map (by_ :: ·)).flatMap List.tail = cs.flatten := by
    rw [List.flatMap_map]; simp [List.flatMap_def]
  rw [hf] at hg
  rw [unf_ok _ (by omega) _ hsp (chk_none _ (by rw [hg]; simp only [List.nil_append, List.map_cons, List.map_nil, List.mem_singleton]; rintro l rfl; exact ⟨hv, h2⟩)), hg]
  simp

/- folded lines, piece by piece -/
theorem rf_chunks (w : Nat) (l : List UInt8) (hw : w ≤ 75) : ∃ (c0 : List UInt8) (cs : List (List UInt8)), rf w l ++ [13, 10] = txt [13, 10] (c0 :: cs.map (32 :: ·)) ∧ c0 ++ cs.flatten = l ∧ (l ≠ [] → w + wd l ≤ 75 → c0 ≠ []) := by
  generalize hn : l.length = n
  induction n using Nat.strongRecOn generalizing l w with
  | _ n ih =>
    by_cases h : l = []
    · subst h; exact ⟨[], [], by rw [rf_nil]; simp [txt], rfl, fun h => absurd rfl h⟩
    · have h1 := wd_pos l
      have h2 := wd_le l h
      have h4 := wd_le4 l
      have h3 := List.length_pos_iff.2 h
      have i := fun w' (hw' : w' ≤ 75) => ih (l.drop (wd l)).length (by rw [List.length_drop]; omega) w' (l.drop (wd l)) hw' rfl
      have et := List.take_append_drop (wd l) l
      by_cases c : 75 < w + wd l
      · obtain ⟨c0, cs, e1, e2, _⟩ := i (1 + wd l) (by omega)
        refine ⟨[], (l.take (wd l) ++ c0) :: cs, ?_, ?_, fun _ h => by omega⟩
        · rw [rf_new w l h c]
          simp only [txt, List.flatMap_cons, List.map_cons, List.cons_append, List.nil_append, List.append_assoc] at e1 ⊢
          rw [e1]
        · simp only [List.nil_append, List.flatten_cons, List.append_assoc]
          rw [e2]; exact et
      · obtain ⟨c0, cs, e1, e2, _⟩ := i (w + wd l) (by omega)
        refine ⟨l.take (wd l) ++ c0, cs, ?_, ?_, fun _ _ => ?_⟩
        · rw [rf_same w l h (by omega)]
          simp only [txt, List.flatMap_cons, List.append_assoc] at e1 ⊢
          rw [e1]
        · rw [List.append_assoc, e2]; exact et
        · intro hc
          have := congrArg List.length hc
          rw [List.length_append, List.length_take, List.length_nil] at this
          omega
theorem fine_parts {l : List UInt8} (h : fine l = true) : l ≠ [] ∧ ct l = false ∧ ∀ b ∈ l, b ≠ 13 ∧ b ≠ 10 := by
  unfold fine at h
  simp only [Bool.and_eq_true, Bool.not_eq_true', List.isEmpty_eq_false_iff, List.all_eq_true, bne_iff_ne, ne_eq] at h
  exact ⟨h.1.1, h.1.2, h.2⟩
theorem all_pieces (ls : List (List UInt8)) (h : ls.all fine = true) :
    ∃ ps, all ls = txt [13, 10] ps ∧ (∀ p ∈ ps, clean p) ∧ (∀ p, ps.head? = some p → ct p = false) ∧ ∀ acc n, (gs acc n ps).map Prod.fst = acc.map Prod.fst ++ ls := by
  induction ls with
  | nil => exact ⟨[], rfl, by simp, by simp, by simp [gs]⟩
  | cons l ls ih =>
    simp only [List.all_cons, Bool.and_eq_true] at h
    obtain ⟨ps, e1, e2, _, e4⟩ := ih h.2
    obtain ⟨hne, hct, hcl⟩ := fine_parts h.1
    obtain ⟨c0, cs, f1, f2, f3⟩ := rf_chunks 0 l (by omega)
    have hc0 := f3 hne (by have := wd_le4 l; omega)
    have hcc : ct c0 = false := by
      rw [← f2] at hct
      cases c0 with
      | nil => exact absurd rfl hc0
      | cons x c0 => simpa [ct] using hct
    have hmem : ∀ b ∈ c0 ++ cs.flatten, b ≠ 13 ∧ b ≠ 10 := by rw [f2]; exact hcl
    refine ⟨(c0 :: cs.map (32 :: ·)) ++ ps, ?_, ?_, ?_, ?_⟩
    · rw [txt_append, ← e1, ← f1]; simp [all, line]
    · intro p hp
      rcases List.mem_append.1 hp with hp | hp
      · rcases List.mem_cons.1 hp with rfl | hp
        · exact ⟨hc0, fun h => (hmem 13 (by simp [h])).1 rfl, fun h => (hmem 10 (by simp [h])).2 rfl⟩
        · obtain ⟨c, hm, rfl⟩ := List.mem_map.1 hp
          have hm' : ∀ b ∈ c, b ∈ c0 ++ cs.flatten := fun b hb => by
            simp only [List.mem_append, List.mem_flatten]; exact .inr ⟨c, hm, hb⟩
          refine ⟨by simp, ?_, ?_⟩
          · intro h
            rcases List.mem_cons.1 h with h | h
            · cases h
            · exact (hmem 13 (hm' _ h)).1 rfl
          · intro h
            rcases List.mem_cons.1 h with h | h
            · cases h
            · exact (hmem 10 (hm' _ h)).2 rfl
      · exact e2 p hp
    · intro p hp
      cases hp; exact hcc
    · intro acc n
      have hcta : (cs.map ((32 : UInt8) :: ·)).all ct = true := by
        rw [List.all_map, List.all_eq_true]; intro c _; simp [ct]
      have hf : (cs.map ((32 : UInt8) :: ·)).flatMap List.tail = cs.flatten := by
        rw [List.flatMap_map]; simp [List.flatMap_def]
      rw [gs_append, e4, gs_line c0 _ acc n hcc hcta, hf, f2]
      simp
theorem unf_all (ls : List (List UInt8)) (h : foldE ls = 0) (hv : ∀ l ∈ ls, validD l = true) : unf (all ls) = (ls, 0, 0) := by
  unfold foldE at h
  have hf : ls.all fine = true := by
    by_cases c : ls.all fine = false
    · rw [if_pos c] at h; cases h
    · simpa using c
  rw [if_neg (by simp [hf])] at h
  have hl : long ls = false := by
    by_cases c : long ls = true
    · rw [if_pos c] at h; cases h
    · simpa using c
  unfold long at hl
  rw [Bool.or_eq_false_iff] at hl
  obtain ⟨ps, e1, e2, e3, e4⟩ := all_pieces ls hf
  have hs := sp_txt [13, 10] (.inr rfl) ps 0 e2 (fun _ => e3)
  have h4 := e4 [] 0
  simp only [List.map_nil, List.nil_append] at h4
  have hlen : ¬ 20000 < (all ls).length := by simpa using hl.2
  have hshort : ∀ l ∈ ls, l.length ≤ 2000 := by
    intro l hm
    have := List.any_eq_false.1 hl.1 l hm
    simpa using this
  rw [← e1] at hs
  rw [unf_ok _ hlen ps hs (chk_none _ (by rw [h4]; exact fun l hm => ⟨hv l hm, hshort l hm⟩)), h4]
end Fd
end Go.Proofs.YtpcmhaflmpcicaaDoor
