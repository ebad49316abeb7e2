/- Plain mathematics of escaping: no model in it. -/
import Derived.Test.YtpcmhaflmpcicaaDoorEu
import Derived.Lib.Join
namespace Go.Proofs.YtpcmhaflmpcicaaDoor
namespace Es
open Go.Lib _root_.Go.Proofs.YtpcmhaflmpcicaaDoor.Fd

/- which bytes a text may not have, and the error of a text (3: not UTF-8, 7: such a byte) -/
def bad (f : Bool) (b : UInt8) : Bool := b == 127 || (decide (b.toNat < 32) && b != 9 && !(f && b == 10))
def clE (f : Bool) (l : List UInt8) : Int := if validD l = false then 3 else if l.any (bad f) then 7 else 0
theorem clE_utf {f : Bool} {l : List UInt8} (h : validD l = false) : clE f l = 3 := by unfold clE; rw [if_pos h]
theorem clE_val {f : Bool} {l : List UInt8} (h : validD l = true) (h2 : l.any (bad f) = true) : clE f l = 7 := by unfold clE; rw [if_neg (by simp [h]), if_pos h2]
theorem clE_ok {f : Bool} {l : List UInt8} (h : validD l = true) (h2 : l.any (bad f) = false) : clE f l = 0 := by unfold clE; rw [if_neg (by simp [h]), if_neg (by simp [h2])]
theorem clE_zero {f : Bool} {l : List UInt8} (h : clE f l = 0) : validD l = true ∧ l.any (bad f) = false := by
  unfold clE at h
  split at h
  · cases h
  · rename_i c
    split at h
    · cases h
    · rename_i d
      exact ⟨by simpa using c, by simpa using d⟩
theorem clE_cases (f : Bool) (l : List UInt8) : clE f l = 3 ∨ clE f l = 7 ∨ clE f l = 0 := by
  unfold clE; split
  · exact .inl rfl
  · split
    · exact .inr (.inl rfl)
    · exact .inr (.inr rfl)

/- a text, written -/
def t1 (b : UInt8) : List UInt8 := if b = 10 then [92, 110] else if b = 92 ∨ b = 59 ∨ b = 44 then [92, b] else [b]
def tx (l : List UInt8) : List UInt8 := l.flatMap t1
def txT (l : List UInt8) : List UInt8 := if clE true l = 0 then tx l else []
theorem t1_feed : t1 10 = [92, 110] := rfl
theorem t1_esc {b : UInt8} (h : b = 92 ∨ b = 59 ∨ b = 44) : t1 b = [92, b] := by
  unfold t1; rw [if_neg, if_pos h]
  rcases h with rfl | rfl | rfl <;> decide
theorem t1_else {b : UInt8} (h0 : b ≠ 10) (h1 : b ≠ 92) (h2 : b ≠ 59) (h3 : b ≠ 44) : t1 b = [b] := by
  unfold t1; rw [if_neg h0, if_neg (by simp [h1, h2, h3])]
theorem tx_snoc (l : List UInt8) (k : Nat) (h : k < l.length) : tx (l.take (k + 1)) = tx (l.take k) ++ t1 l[k] := by
  unfold tx; rw [List.take_succ_eq_append_getElem h, List.flatMap_append]; simp
theorem t1_len (b : UInt8) : (t1 b).length ≤ 2 := by unfold t1; split <;> (try split) <;> simp
theorem tx_len (l : List UInt8) : (tx l).length ≤ 2 * l.length := by
  induction l with
  | nil => simp [tx]
  | cons b l ih =>
    have := t1_len b
    have e : tx (b :: l) = t1 b ++ tx l := by simp [tx]
    rw [e, List.length_append, List.length_cons]; omega

/- texts with commas between, read: one: what has been read of the text under way -/
def rd (one : List UInt8) : List UInt8 → Option (List (List UInt8))
  | [] => some [one]
  | c :: r => if c = 44 then (rd [] r).map (one :: ·) else if c = 59 then none else if c ≠ 92 then rd (one ++ [c]) r else
    match r with
    | [] => none
    | d :: r' => if d = 110 ∨ d = 78 then rd (one ++ [10]) r' else if d = 92 ∨ d = 59 ∨ d = 44 then rd (one ++ [d]) r' else none
theorem rd_nil (one : List UInt8) : rd one [] = some [one] := by simp [rd]
theorem rd_comma (one r : List UInt8) : rd one (44 :: r) = (rd [] r).map (one :: ·) := by rw [rd.eq_def]; simp
theorem rd_semi (one r : List UInt8) : rd one (59 :: r) = none := by rw [rd.eq_def]; simp
theorem rd_plain (one r : List UInt8) (c : UInt8) (h1 : c ≠ 44) (h2 : c ≠ 59) (h3 : c ≠ 92) : rd one (c :: r) = rd (one ++ [c]) r := by rw [rd.eq_def]; simp [h1, h2, h3]
/- what a backslash ahead of a text stands for -/
def ab : List UInt8 → Option UInt8
  | [] => none
  | d :: _ => if d = 110 ∨ d = 78 then some 10 else if d = 92 ∨ d = 59 ∨ d = 44 then some d else none
theorem ab_n {d : UInt8} {r : List UInt8} (h : d = 110 ∨ d = 78) : ab (d :: r) = some 10 := by simp [ab, h]
theorem ab_c {d : UInt8} {r : List UInt8} (h : d = 92 ∨ d = 59 ∨ d = 44) : ab (d :: r) = some d := by
  rcases h with rfl | rfl | rfl <;> rfl
theorem ab_no {d : UInt8} {r : List UInt8} (h1 : d ≠ 110) (h2 : d ≠ 78) (h3 : d ≠ 92) (h4 : d ≠ 59) (h5 : d ≠ 44) : ab (d :: r) = none := by simp [ab, h1, h2, h3, h4, h5]
theorem rd_back_some (one r : List UInt8) (x : UInt8) (h : ab r = some x) : rd one (92 :: r) = rd (one ++ [x]) r.tail := by
  rcases r with _ | ⟨d, r⟩
  · cases h
  · rw [rd.eq_def]
    simp only [ab] at h
    simp only [List.tail_cons]
    by_cases c1 : d = 110 ∨ d = 78
    · rw [if_pos c1] at h
      injection h with h
      subst h
      simp [c1]
    · rw [if_neg c1] at h
      by_cases c2 : d = 92 ∨ d = 59 ∨ d = 44
      · rw [if_pos c2] at h
        injection h with h
        subst h
        simp [c1, c2]
      · rw [if_neg c2] at h; cases h
theorem rd_back_none (one r : List UInt8) (h : ab r = none) : rd one (92 :: r) = none := by
  rcases r with _ | ⟨d, r⟩
  · rw [rd.eq_def]; simp
  · rw [rd.eq_def]
    simp only [ab] at h
    by_cases c1 : d = 110 ∨ d = 78
    · rw [if_pos c1] at h; cases h
    · rw [if_neg c1] at h
      by_cases c2 : d = 92 ∨ d = 59 ∨ d = 44
      · rw [if_pos c2] at h; cases h
      · simp [c1, c2]
theorem ab_ne {r : List UInt8} {x : UInt8} (h : ab r = some x) : r ≠ [] := by intro e; subst e; cases h
/- an induction that goes along with reading -/
theorem rd_ind {P : List UInt8 → Prop} (h0 : P []) (h1 : ∀ r, P r → P (44 :: r)) (h2 : ∀ r, P (59 :: r)) (h3 : ∀ r, ab r = none → P (92 :: r)) (h4 : ∀ r x, ab r = some x → P r.tail → P (92 :: r))
    (h5 : ∀ c r, c ≠ 44 → c ≠ 59 → c ≠ 92 → P r → P (c :: r)) : ∀ l, P l := by
  intro l
  generalize hn : l.length = n
  induction n using Nat.strongRecOn generalizing l with
  | _ n ih =>
    rcases l with _ | ⟨c, r⟩
    · exact h0
    · have hr : P r := ih r.length (by simp at hn; omega) r rfl
      by_cases c1 : c = 44
      · subst c1; exact h1 r hr
      · by_cases c2 : c = 59
        · subst c2; exact h2 r
        · by_cases c3 : c = 92
          · subst c3
            cases e : ab r with
            | none => exact h3 r e
            | some x => exact h4 r x e (ih r.tail.length (by simp at hn; rw [List.length_tail]; omega) r.tail rfl)
          · exact h5 c r c1 c2 c3 hr
theorem rd_ne (l : List UInt8) : ∀ one, rd one l ≠ some [] := by
  refine rd_ind (P := fun l => ∀ one, rd one l ≠ some []) ?_ ?_ ?_ ?_ ?_ ?_ l
  · intro one; rw [rd_nil]; simp
  · intro r _ one; rw [rd_comma]; cases rd [] r <;> simp
  · intro r one; rw [rd_semi]; simp
  · intro r h one; rw [rd_back_none _ _ h]; simp
  · intro r x h i one; rw [rd_back_some _ _ _ h]; exact i _
  · intro c r a1 a2 a3 i one; rw [rd_plain _ _ _ a1 a2 a3]; exact i _
def sing : Option (List (List UInt8)) → Option (List UInt8)
  | some [t] => some t
  | _ => none
theorem sing_one (t : List UInt8) : sing (some [t]) = some t := rfl
theorem sing_none : sing none = none := rfl
theorem sing_more (one : List UInt8) (r : List UInt8) : sing (rd one (44 :: r)) = none := by
  rw [rd_comma]
  cases h : rd [] r with
  | none => rfl
  | some x =>
    rcases x with _ | ⟨a, x⟩
    · exact absurd h (rd_ne r [])
    · rfl

/- what is ahead of and behind the first unescaped comma -/
def cu : List UInt8 → List UInt8 × List UInt8 × Bool
  | [] => ([], [], false)
  | c :: r => if c = 44 then ([], r, true) else if c ≠ 92 then (c :: (cu r).1, (cu r).2) else
    match r with
    | [] => ([92], [], false)
    | d :: r' => (92 :: d :: (cu r').1, (cu r').2)
theorem cu_nil : cu [] = ([], [], false) := by simp [cu]
theorem cu_comma (r : List UInt8) : cu (44 :: r) = ([], r, true) := by rw [cu.eq_def]; simp
theorem cu_plain (c : UInt8) (r : List UInt8) (h1 : c ≠ 44) (h2 : c ≠ 92) : cu (c :: r) = (c :: (cu r).1, (cu r).2) := by rw [cu.eq_def]; simp [h1, h2]
theorem cu_last : cu [92] = ([92], [], false) := by rw [cu.eq_def]; simp
theorem cu_back (d : UInt8) (r : List UInt8) : cu (92 :: d :: r) = (92 :: d :: (cu r).1, (cu r).2) := by rw [cu.eq_def]; simp
theorem cu_ind {P : List UInt8 → Prop} (h0 : P []) (h1 : ∀ r, P (44 :: r)) (h2 : P [92]) (h3 : ∀ d r, P r → P (92 :: d :: r)) (h4 : ∀ c r, c ≠ 44 → c ≠ 92 → P r → P (c :: r)) : ∀ l, P l := by
  intro l
  generalize hn : l.length = n
  induction n using Nat.strongRecOn generalizing l with
  | _ n ih =>
    rcases l with _ | ⟨c, r⟩
    · exact h0
    · by_cases c1 : c = 44
      · subst c1; exact h1 r
      · by_cases c2 : c = 92
        · subst c2
          rcases r with _ | ⟨d, r⟩
          · exact h2
          · exact h3 d r (ih r.length (by simp at hn; omega) r rfl)
        · exact h4 c r c1 c2 (ih r.length (by simp at hn; omega) r rfl)
theorem cu_eq (l : List UInt8) : l = (cu l).1 ++ (if (cu l).2.2 then 44 :: (cu l).2.1 else []) := by
  refine cu_ind (P := fun l => l = (cu l).1 ++ (if (cu l).2.2 then 44 :: (cu l).2.1 else [])) ?_ ?_ ?_ ?_ ?_ l
  · rw [cu_nil]; rfl
  · intro r; rw [cu_comma]; rfl
  · rw [cu_last]; rfl
  · intro d r i
    rw [cu_back]
    simp only [List.cons_append]
    rw [← i]
  · intro c r a1 a2 i
    rw [cu_plain _ _ a1 a2]
    simp only [List.cons_append]
    rw [← i]
theorem cu_more (l : List UInt8) (h : (cu l).2.2 = true) : l = (cu l).1 ++ 44 :: (cu l).2.1 := by
  have := cu_eq l
  rwa [h, if_pos rfl] at this
theorem cu_end (l : List UInt8) (h : (cu l).2.2 = false) : (cu l).1 = l := by
  have := cu_eq l
  rw [h, if_neg (by simp), List.append_nil] at this
  exact this.symm
theorem cu_rest (l : List UInt8) : (cu l).2.2 = false → (cu l).2.1 = [] := by
  refine cu_ind (P := fun l => (cu l).2.2 = false → (cu l).2.1 = []) ?_ ?_ ?_ ?_ ?_ l
  · rw [cu_nil]; intro; rfl
  · intro r; rw [cu_comma]; intro h; cases h
  · rw [cu_last]; intro; rfl
  · intro d r i; rw [cu_back]; exact i
  · intro c r a1 a2 i; rw [cu_plain _ _ a1 a2]; exact i
theorem rd_cut (l : List UInt8) : ∀ one, rd one l = match sing (rd one (cu l).1) with
    | none => none
    | some t => if (cu l).2.2 then (rd [] (cu l).2.1).map (t :: ·) else some [t] := by
  refine cu_ind (P := fun l => ∀ one, rd one l = match sing (rd one (cu l).1) with
    | none => none
    | some t => if (cu l).2.2 then (rd [] (cu l).2.1).map (t :: ·) else some [t]) ?_ ?_ ?_ ?_ ?_ l
  · intro one; rw [cu_nil, rd_nil]; rfl
  · intro r one; rw [cu_comma, rd_nil, rd_comma]; rfl
  · intro one; rw [cu_last, rd_back_none _ _ rfl]; rfl
  · intro d r i one
    rw [cu_back]
    have hab : ab (d :: r) = ab (d :: (cu r).1) := rfl
    cases e : ab (d :: r) with
    | none => rw [rd_back_none _ _ e, rd_back_none _ _ (hab ▸ e)]; rfl
    | some x =>
      rw [rd_back_some _ _ _ e, rd_back_some _ _ _ (hab ▸ e)]
      exact i _
  · intro c r a1 a2 i one
    rw [cu_plain _ _ a1 a2]
    by_cases a3 : c = 59
    · subst a3; rw [rd_semi, rd_semi]; rfl
    · rw [rd_plain _ _ _ a1 a3 a2, rd_plain _ _ _ a1 a3 a2]
      exact i _

/- one text, read -/
def plR (l : List UInt8) : Option (List UInt8) := if l.any (bad false) then none else sing (rd [] l)
def plE (l : List UInt8) : Int := if validD l = false then 3 else match plR l with | none => 7 | some _ => 0
def plT (l : List UInt8) : List UInt8 := if validD l = false then [] else (plR l).getD []
theorem pl_utf {l : List UInt8} (h : validD l = false) : plE l = 3 ∧ plT l = [] := by unfold plE plT; rw [if_pos h, if_pos h]; exact ⟨rfl, rfl⟩
theorem pl_none {l : List UInt8} (h : validD l = true) (h2 : plR l = none) : plE l = 7 ∧ plT l = [] := by unfold plE plT; rw [if_neg (by simp [h]), if_neg (by simp [h]), h2]; exact ⟨rfl, rfl⟩
theorem pl_some {l t : List UInt8} (h : validD l = true) (h2 : plR l = some t) : plE l = 0 ∧ plT l = t := by unfold plE plT; rw [if_neg (by simp [h]), if_neg (by simp [h]), h2]; exact ⟨rfl, rfl⟩
theorem plR_bad {l : List UInt8} (h : l.any (bad false) = true) : plR l = none := by unfold plR; rw [if_pos h]
theorem plR_ok {l : List UInt8} (h : l.any (bad false) = false) : plR l = sing (rd [] l) := by unfold plR; rw [if_neg (by simp [h])]
/- the list, read -/
def fin (l : List UInt8) : Option (List (List UInt8)) := if l.any (bad false) then none else rd [] l
theorem fin_bad {l : List UInt8} (h : l.any (bad false) = true) : fin l = none := by unfold fin; rw [if_pos h]
theorem fin_ok {l : List UInt8} (h : l.any (bad false) = false) : fin l = rd [] l := by unfold fin; rw [if_neg (by simp [h])]
theorem bad_comma : bad false 44 = false := by decide
theorem fin_none (l : List UInt8) (h : plR (cu l).1 = none) : fin l = none := by
  by_cases c : (cu l).1.any (bad false) = true
  · refine fin_bad ?_
    rw [cu_eq l, List.any_append, c]; rfl
  · have c' : (cu l).1.any (bad false) = false := by simpa using c
    rw [plR_ok c'] at h
    unfold fin
    split
    · rfl
    · rw [rd_cut, h]
theorem fin_more (l t : List UInt8) (h : plR (cu l).1 = some t) (hm : (cu l).2.2 = true) : fin l = (fin (cu l).2.1).map (t :: ·) := by
  by_cases c : (cu l).1.any (bad false) = true
  · rw [plR_bad c] at h; cases h
  · have c' : (cu l).1.any (bad false) = false := by simpa using c
    rw [plR_ok c'] at h
    have e : l.any (bad false) = (cu l).2.1.any (bad false) := by
      conv => lhs; rw [cu_more l hm]
      rw [List.any_append, c', List.any_cons, bad_comma]; rfl
    have hr := rd_cut l []
    rw [h] at hr
    simp only at hr
    rw [hm, if_pos rfl] at hr
    unfold fin
    rw [e, hr]
    split <;> rfl
theorem fin_end (l t : List UInt8) (h : plR (cu l).1 = some t) (hm : (cu l).2.2 = false) : fin l = some [t] := by
  by_cases c : (cu l).1.any (bad false) = true
  · rw [plR_bad c] at h; cases h
  · have c' : (cu l).1.any (bad false) = false := by simpa using c
    rw [plR_ok c'] at h
    have e := cu_end l hm
    rw [e] at c'
    rw [fin_ok c', rd_cut, h]
    simp only
    rw [hm]; simp
theorem cu_valid (l : List UInt8) (h : validD l = true) : validD (cu l).1 = true ∧ validD (cu l).2.1 = true := by
  cases hm : (cu l).2.2
  · rw [cu_end l hm, cu_rest l hm]; exact ⟨h, valid_nil⟩
  · rw [cu_more l hm] at h
    exact valid_split _ _ 44 (by decide) h
def itE (l : List UInt8) : Int := if l = [] then 7 else if validD l = false then 3 else match fin l with | none => 7 | some _ => 0
def itT (l : List UInt8) : List (List UInt8) := if l = [] ∨ validD l = false then [] else (fin l).getD []
theorem it_nil : itE [] = 7 ∧ itT [] = [] := ⟨rfl, rfl⟩
theorem it_utf {l : List UInt8} (h0 : l ≠ []) (h : validD l = false) : itE l = 3 ∧ itT l = [] := by unfold itE itT; rw [if_neg h0, if_pos h, if_pos (.inr h)]; exact ⟨rfl, rfl⟩
theorem it_none {l : List UInt8} (h0 : l ≠ []) (h : validD l = true) (h2 : fin l = none) : itE l = 7 ∧ itT l = [] := by
  unfold itE itT; rw [if_neg h0, if_neg (by simp [h]), if_neg (by simp [h0, h]), h2]; exact ⟨rfl, rfl⟩
theorem it_some {l : List UInt8} {ts : List (List UInt8)} (h0 : l ≠ []) (h : validD l = true) (h2 : fin l = some ts) : itE l = 0 ∧ itT l = ts := by
  unfold itE itT; rw [if_neg h0, if_neg (by simp [h]), if_neg (by simp [h0, h]), h2]; exact ⟨rfl, rfl⟩
/- how much is read -/
theorem rd_len (l : List UInt8) : ∀ one ts, rd one l = some ts → ts.flatten.length ≤ one.length + l.length ∧ ts.length ≤ l.length + 1 := by
  refine rd_ind (P := fun l => ∀ one ts, rd one l = some ts → ts.flatten.length ≤ one.length + l.length ∧ ts.length ≤ l.length + 1) ?_ ?_ ?_ ?_ ?_ ?_ l
  · intro one ts h; rw [rd_nil] at h; injection h with h; subst h; simp
  · intro r i one ts h
    rw [rd_comma] at h
    cases e : rd [] r with
    | none => rw [e] at h; cases h
    | some us =>
      rw [e] at h
      injection h with h
      have := i [] us e
      subst h
      simp only [List.flatten_cons, List.length_append, List.length_cons, List.length_nil] at *
      omega
  · intro r one ts h; rw [rd_semi] at h; cases h
  · intro r h0 one ts h; rw [rd_back_none _ _ h0] at h; cases h
  · intro r x h0 i one ts h
    rw [rd_back_some _ _ _ h0] at h
    have := i _ _ h
    have h3 := List.length_pos_iff.2 (ab_ne h0)
    simp only [List.length_append, List.length_cons, List.length_nil, List.length_tail] at *
    omega
  · intro c r a1 a2 a3 i one ts h
    rw [rd_plain _ _ _ a1 a2 a3] at h
    have := i _ _ h
    simp only [List.length_append, List.length_cons, List.length_nil] at *
    omega

/- there and back -/
theorem rd_tx (l : List UInt8) : ∀ one r, rd one (tx l ++ r) = rd (one ++ l) r := by
  induction l with
  | nil => intro one r; simp [tx]
  | cons b l ih =>
    intro one r
    have e : tx (b :: l) ++ r = t1 b ++ (tx l ++ r) := by simp [tx]
    rw [e]
    by_cases c0 : b = 10
    · subst c0
      rw [t1_feed]
      show rd one (92 :: 110 :: (tx l ++ r)) = _
      rw [rd_back_some _ _ 10 rfl, List.tail_cons, ih]; simp
    · by_cases c1 : b = 92 ∨ b = 59 ∨ b = 44
      · rw [t1_esc c1]
        show rd one (92 :: b :: (tx l ++ r)) = _
        rw [rd_back_some _ _ b (ab_c c1), List.tail_cons, ih]; simp
      · simp only [not_or] at c1
        rw [t1_else c0 c1.1 c1.2.1 c1.2.2]
        show rd one (b :: (tx l ++ r)) = _
        rw [rd_plain _ _ _ c1.2.2 c1.2.1 c1.1, ih]; simp
theorem rd_text (l : List UInt8) : rd [] (tx l) = some [l] := by
  have := rd_tx l [] []
  rw [List.append_nil, rd_nil] at this
  simpa using this
theorem byte_ind {P : UInt8 → Prop} (h : ∀ n : Fin 256, P (UInt8.ofNat n.val)) (b : UInt8) : P b := by
  have := h ⟨b.toNat, b256 b⟩
  simpa using this
theorem t1_bad (b : UInt8) (h : bad true b = false) : (t1 b).any (bad false) = false := by
  revert h
  refine byte_ind (P := fun b => bad true b = false → (t1 b).any (bad false) = false) ?_ b
  decide +kernel
theorem tx_bad (l : List UInt8) (h : l.any (bad true) = false) : (tx l).any (bad false) = false := by
  induction l with
  | nil => rfl
  | cons b l ih =>
    rw [List.any_cons, Bool.or_eq_false_iff] at h
    have e : tx (b :: l) = t1 b ++ tx l := by simp [tx]
    rw [e, List.any_append, t1_bad b h.1, ih h.2]; rfl
theorem t1_hi (b : UInt8) (h : 128 ≤ b.toNat) : t1 b = [b] := by
  revert h
  refine byte_ind (P := fun b => 128 ≤ b.toNat → t1 b = [b]) ?_ b
  decide +kernel
theorem t1_lo (b : UInt8) (h : b.toNat < 128) : ∀ x ∈ t1 b, x.toNat < 128 := by
  revert h
  refine byte_ind (P := fun b => b.toNat < 128 → ∀ x ∈ t1 b, x.toNat < 128) ?_ b
  decide +kernel
theorem tx_valid (l : List UInt8) (h : validD l = true) : validD (tx l) = true := valid_map t1 t1_hi t1_lo l h
theorem pl_tx (l : List UInt8) (h : clE true l = 0) : plE (tx l) = 0 ∧ plT (tx l) = l := by
  obtain ⟨h1, h2⟩ := clE_zero h
  refine pl_some (tx_valid l h1) ?_
  rw [plR_ok (tx_bad l h2), rd_text]; rfl

/- a list, written -/
def ls (l : List (List UInt8)) : List UInt8 := Lib.join (l.map tx) [44]
theorem ls_one (x : List UInt8) : ls [x] = tx x := by simp [ls, join_one]
theorem ls_cons (x y : List UInt8) (r : List (List UInt8)) : ls (x :: y :: r) = tx x ++ 44 :: ls (y :: r) := by
  unfold ls
  rw [List.map_cons, join_cons, List.map_cons, join_cons]
  simp [joinTail]
theorem ls_rd (l : List (List UInt8)) (h : l ≠ []) : rd [] (ls l) = some l := by
  induction l with
  | nil => exact absurd rfl h
  | cons x r ih =>
    rcases r with _ | ⟨y, r⟩
    · rw [ls_one, rd_text]
    · rw [ls_cons, rd_tx, rd_comma, ih (by simp)]; simp
theorem ls_fine (l : List (List UInt8)) (h : l ≠ []) (hc : ∀ x ∈ l, clE true x = 0) : validD (ls l) = true ∧ (ls l).any (bad false) = false := by
  induction l with
  | nil => exact absurd rfl h
  | cons x r ih =>
    obtain ⟨h1, h2⟩ := clE_zero (hc x (by simp))
    rcases r with _ | ⟨y, r⟩
    · rw [ls_one]; exact ⟨tx_valid x h1, tx_bad x h2⟩
    · obtain ⟨i1, i2⟩ := ih (by simp) (fun z hz => hc z (by simp [hz]))
      rw [ls_cons, valid_cat _ _ (tx_valid x h1), valid_low 44 _ (by decide), List.any_append, tx_bad x h2, List.any_cons, bad_comma]
      exact ⟨i1, i2⟩
theorem tx_ne (l : List UInt8) (h : l ≠ []) : tx l ≠ [] := by
  rcases l with _ | ⟨b, l⟩
  · exact absurd rfl h
  · intro e
    have e2 : tx (b :: l) = t1 b ++ tx l := by simp [tx]
    rw [e2, List.append_eq_nil_iff] at e
    have := e.1
    unfold t1 at this
    split at this
    · cases this
    · split at this <;> cases this
theorem ls_ne (l : List (List UInt8)) (h : l ≠ []) (h1 : l ≠ [[]]) : ls l ≠ [] := by
  rcases l with _ | ⟨x, _ | ⟨y, r⟩⟩
  · exact absurd rfl h
  · rw [ls_one]; refine tx_ne x ?_; intro e; subst e; exact h1 rfl
  · rw [ls_cons]; simp
theorem it_ls (l : List (List UInt8)) (h : l ≠ []) (h1 : l ≠ [[]]) (hc : ∀ x ∈ l, clE true x = 0) : itE (ls l) = 0 ∧ itT (ls l) = l := by
  obtain ⟨a, b⟩ := ls_fine l h hc
  refine it_some (ls_ne l h h1) a ?_
  rw [fin_ok b, ls_rd l h]
theorem ls_len (l : List (List UInt8)) (n : Nat) (h : ∀ x ∈ l, x.length ≤ n) : (ls l).length ≤ l.length * (2 * n + 1) := by
  induction l with
  | nil => simp [ls, join_nil]
  | cons x r ih =>
    have i := ih (fun z hz => h z (by simp [hz]))
    have hx := h x (by simp)
    have ht := tx_len x
    rcases r with _ | ⟨y, r⟩
    · rw [ls_one]; simp only [List.length_cons, List.length_nil]; omega
    · rw [ls_cons, List.length_append, List.length_cons]
      have : (x :: y :: r).length * (2 * n + 1) = (y :: r).length * (2 * n + 1) + (2 * n + 1) := by rw [List.length_cons, Nat.succ_mul]
      omega
/- the error of a list's first bad text -/
def lsB (l : List (List UInt8)) : Int := match l.find? (fun x => clE true x != 0) with | none => 0 | some x => clE true x
theorem lsB_zero {l : List (List UInt8)} (h : lsB l = 0) : ∀ x ∈ l, clE true x = 0 := by
  intro x hx
  unfold lsB at h
  split at h
  · rename_i e
    have := List.find?_eq_none.1 e x hx
    simpa using this
  · rename_i y e
    have := List.find?_some e
    simp [h] at this
theorem lsB_all {l : List (List UInt8)} (h : ∀ x ∈ l, clE true x = 0) : lsB l = 0 := by
  unfold lsB
  have : l.find? (fun x => clE true x != 0) = none := by
    rw [List.find?_eq_none]; intro x hx; simp [h x hx]
  rw [this]
theorem lsB_at (l : List (List UInt8)) (k : Nat) (h : k < l.length) (h0 : lsB (l.take k) = 0) : lsB (l.take (k + 1)) = clE true l[k] := by
  have hall := lsB_zero h0
  unfold lsB
  rw [List.take_succ_eq_append_getElem h, List.find?_append]
  have : (l.take k).find? (fun x => clE true x != 0) = none := by
    rw [List.find?_eq_none]; intro x hx; simp [hall x hx]
  rw [this]
  by_cases c : clE true l[k] = 0
  · simp [c]
  · simp [c]
theorem lsB_more (l : List (List UInt8)) (k : Nat) (h0 : lsB (l.take k) ≠ 0) : lsB l = lsB (l.take k) := by
  unfold lsB at h0 ⊢
  conv => lhs; rw [← List.take_append_drop k l, List.find?_append]
  cases e : (l.take k).find? (fun x => clE true x != 0) with
  | none => rw [e] at h0; exact absurd rfl h0
  | some x => rfl

/- a parameter's value, written -/
def p1 (b : UInt8) : List UInt8 := if b = 10 then [94, 110] else if b = 34 then [94, 39] else if b = 94 then [94, 94] else [b]
def pm (l : List UInt8) : List UInt8 := l.flatMap p1
def qs (b : UInt8) : Bool := [58, 59, 44].contains b
def qu (l : List UInt8) : Bool := l.any qs
def pq (l : List UInt8) : List UInt8 := if qu l then 34 :: (pm l ++ [34]) else pm l
def pqT (l : List UInt8) : List UInt8 := if clE true l = 0 then pq l else []
theorem p1_feed : p1 10 = [94, 110] := rfl
theorem p1_quote : p1 34 = [94, 39] := rfl
theorem p1_caret : p1 94 = [94, 94] := rfl
theorem p1_else {b : UInt8} (h0 : b ≠ 10) (h1 : b ≠ 34) (h2 : b ≠ 94) : p1 b = [b] := by unfold p1; rw [if_neg h0, if_neg h1, if_neg h2]
theorem pm_snoc (l : List UInt8) (k : Nat) (h : k < l.length) : pm (l.take (k + 1)) = pm (l.take k) ++ p1 l[k] := by
  unfold pm; rw [List.take_succ_eq_append_getElem h, List.flatMap_append]; simp
theorem qu_snoc (l : List UInt8) (k : Nat) (h : k < l.length) : qu (l.take (k + 1)) = (qu (l.take k) || qs l[k]) := by
  unfold qu; rw [List.take_succ_eq_append_getElem h, List.any_append]; simp
theorem pm_len (l : List UInt8) : (pm l).length ≤ 2 * l.length := by
  induction l with
  | nil => simp [pm]
  | cons b l ih =>
    have : (p1 b).length ≤ 2 := by unfold p1; split <;> (try split) <;> (try split) <;> simp
    have e : pm (b :: l) = p1 b ++ pm l := by simp [pm]
    rw [e, List.length_append, List.length_cons]; omega
/- what a caret ahead of a text stands for -/
def ac : List UInt8 → Option UInt8
  | [] => none
  | d :: _ => if d = 110 then some 10 else if d = 39 then some 34 else if d = 94 then some 94 else none
/- a parameter's value, read -/
def vr (l : List UInt8) : List UInt8 :=
  match l with
  | [] => []
  | c :: r => if c = 94 then match ac r with | none => 94 :: vr r | some x => x :: vr r.tail else c :: vr r
  termination_by l.length
  decreasing_by all_goals (simp only [List.length_cons, List.length_tail]; omega)
theorem vr_nil : vr [] = [] := by rw [vr.eq_def]
theorem vr_else (c : UInt8) (r : List UInt8) (h : c ≠ 94) : vr (c :: r) = c :: vr r := by rw [vr.eq_def]; simp [h]
theorem vr_some (r : List UInt8) (x : UInt8) (h : ac r = some x) : vr (94 :: r) = x :: vr r.tail := by rw [vr.eq_def]; simp [h]
theorem vr_none (r : List UInt8) (h : ac r = none) : vr (94 :: r) = 94 :: vr r := by rw [vr.eq_def]; simp [h]
/- the quotes taken off -/
def qb (b : UInt8) : Bool := [34, 58, 59, 44].contains b
def vq (l : List UInt8) : Option (List UInt8) :=
  if l.head? = some 34 then (if l.tail.getLast? = some 34 ∧ 34 ∉ l.tail.dropLast then some l.tail.dropLast else none) else if l.any qb then none else some l
theorem vq_in {l : List UInt8} (h : l.head? = some 34) : vq l = if l.tail.getLast? = some 34 ∧ 34 ∉ l.tail.dropLast then some l.tail.dropLast else none := by unfold vq; rw [if_pos h]
theorem vq_out {l : List UInt8} (h : l.head? ≠ some 34) : vq l = if l.any qb then none else some l := by unfold vq; rw [if_neg h]
def vlR (l : List UInt8) : Option (List UInt8) := if l.any (bad false) then none else (vq l).map vr
def vlE (l : List UInt8) : Int := if validD l = false then 3 else match vlR l with | none => 7 | some _ => 0
def vlT (l : List UInt8) : List UInt8 := if validD l = false then [] else (vlR l).getD []
theorem vl_utf {l : List UInt8} (h : validD l = false) : vlE l = 3 ∧ vlT l = [] := by unfold vlE vlT; rw [if_pos h, if_pos h]; exact ⟨rfl, rfl⟩
theorem vl_none {l : List UInt8} (h : validD l = true) (h2 : vlR l = none) : vlE l = 7 ∧ vlT l = [] := by unfold vlE vlT; rw [if_neg (by simp [h]), if_neg (by simp [h]), h2]; exact ⟨rfl, rfl⟩
theorem vl_some {l t : List UInt8} (h : validD l = true) (h2 : vlR l = some t) : vlE l = 0 ∧ vlT l = t := by unfold vlE vlT; rw [if_neg (by simp [h]), if_neg (by simp [h]), h2]; exact ⟨rfl, rfl⟩
theorem vlR_bad {l : List UInt8} (h : l.any (bad false) = true) : vlR l = none := by unfold vlR; rw [if_pos h]
theorem vlR_ok {l : List UInt8} (h : l.any (bad false) = false) : vlR l = (vq l).map vr := by unfold vlR; rw [if_neg (by simp [h])]

/- there and back -/
theorem vr_pm (l : List UInt8) : vr (pm l) = l := by
  induction l with
  | nil => exact vr_nil
  | cons b l ih =>
    have e : pm (b :: l) = p1 b ++ pm l := by simp [pm]
    rw [e]
    by_cases c0 : b = 10
    · subst c0; rw [p1_feed]
      show vr (94 :: 110 :: pm l) = _
      rw [vr_some _ 10 rfl, List.tail_cons, ih]
    · by_cases c1 : b = 34
      · subst c1; rw [p1_quote]
        show vr (94 :: 39 :: pm l) = _
        rw [vr_some _ 34 rfl, List.tail_cons, ih]
      · by_cases c2 : b = 94
        · subst c2; rw [p1_caret]
          show vr (94 :: 94 :: pm l) = _
          rw [vr_some _ 94 rfl, List.tail_cons, ih]
        · rw [p1_else c0 c1 c2]
          show vr (b :: pm l) = _
          rw [vr_else _ _ c2, ih]
theorem p1_34 (b : UInt8) : 34 ∉ p1 b := by
  refine byte_ind (P := fun b => 34 ∉ p1 b) ?_ b
  decide +kernel
theorem pm_34 (l : List UInt8) : 34 ∉ pm l := by
  intro h
  obtain ⟨b, _, hb⟩ := List.mem_flatMap.1 h
  exact p1_34 b hb
theorem p1_qb (b : UInt8) (h : qs b = false) : (p1 b).any qb = false := by
  revert h
  refine byte_ind (P := fun b => qs b = false → (p1 b).any qb = false) ?_ b
  decide +kernel
theorem pm_qb (l : List UInt8) (h : qu l = false) : (pm l).any qb = false := by
  induction l with
  | nil => rfl
  | cons b l ih =>
    unfold qu at h
    rw [List.any_cons, Bool.or_eq_false_iff] at h
    have e : pm (b :: l) = p1 b ++ pm l := by simp [pm]
    rw [e, List.any_append, p1_qb b h.1, ih h.2]; rfl
theorem vq_pq (l : List UInt8) : vq (pq l) = some (pm l) := by
  unfold pq
  cases h : qu l
  · rw [if_neg (by simp), vq_out, pm_qb l h]
    · rfl
    · intro e
      exact pm_34 l (List.mem_of_head? e)
  · rw [if_pos rfl, vq_in rfl]
    have := pm_34 l
    simp [this]
theorem p1_bad (b : UInt8) (h : bad true b = false) : (p1 b).any (bad false) = false := by
  revert h
  refine byte_ind (P := fun b => bad true b = false → (p1 b).any (bad false) = false) ?_ b
  decide +kernel
theorem pm_bad (l : List UInt8) (h : l.any (bad true) = false) : (pm l).any (bad false) = false := by
  induction l with
  | nil => rfl
  | cons b l ih =>
    rw [List.any_cons, Bool.or_eq_false_iff] at h
    have e : pm (b :: l) = p1 b ++ pm l := by simp [pm]
    rw [e, List.any_append, p1_bad b h.1, ih h.2]; rfl
theorem p1_hi (b : UInt8) (h : 128 ≤ b.toNat) : p1 b = [b] := by
  revert h
  refine byte_ind (P := fun b => 128 ≤ b.toNat → p1 b = [b]) ?_ b
  decide +kernel
theorem p1_lo (b : UInt8) (h : b.toNat < 128) : ∀ x ∈ p1 b, x.toNat < 128 := by
  revert h
  refine byte_ind (P := fun b => b.toNat < 128 → ∀ x ∈ p1 b, x.toNat < 128) ?_ b
  decide +kernel
theorem pm_valid (l : List UInt8) (h : validD l = true) : validD (pm l) = true := valid_map p1 p1_hi p1_lo l h
theorem vl_pq (l : List UInt8) (h : clE true l = 0) : vlE (pq l) = 0 ∧ vlT (pq l) = l := by
  obtain ⟨h1, h2⟩ := clE_zero h
  have hv := pm_valid l h1
  have hb := pm_bad l h2
  have hb34 : bad false 34 = false := by decide
  refine vl_some ?_ ?_
  · unfold pq; split
    · rw [valid_low 34 _ (by decide), valid_cat _ _ hv, valid_low 34 _ (by decide)]; rfl
    · exact hv
  · rw [vlR_ok, vq_pq]
    · simp [vr_pm]
    · unfold pq; split
      · rw [List.any_cons, List.any_append, hb, hb34]; simp [hb34]
      · exact hb
theorem pq_len (l : List UInt8) : (pq l).length ≤ 2 * l.length + 2 := by
  have := pm_len l
  unfold pq; split
  · simp only [List.length_cons, List.length_append, List.length_nil]; omega
  · omega
end Es
end Go.Proofs.YtpcmhaflmpcicaaDoor
