/- Plain mathematics of content lines: no model in it. -/
import Derived.Test.YtpcmhaflmpcicaaDoorEs
namespace Go.Proofs.YtpcmhaflmpcicaaDoor
namespace Ln
open Go.Lib _root_.Go.Proofs.YtpcmhaflmpcicaaDoor.Fd _root_.Go.Proofs.YtpcmhaflmpcicaaDoor.Es

abbrev Par := List UInt8 × List (List UInt8)
structure Li where
  name : List UInt8
  ps : List Par
  value : List UInt8

/- names -/
def inN (b : UInt8) : Bool := (decide (65 ≤ b.toNat) && decide (b.toNat ≤ 90)) || (decide (48 ≤ b.toNat) && decide (b.toNat ≤ 57)) || b == 45
def up (b : UInt8) : UInt8 := if 97 ≤ b.toNat ∧ b.toNat ≤ 122 then UInt8.ofNat (b.toNat - 32) else b
def nameB (s : List UInt8) : Bool := decide (0 < s.length) && decide (s.length ≤ 60) && s.all inN
theorem up_in (b : UInt8) (h : inN b = true) : up b = b := by
  revert h
  refine byte_ind (P := fun b => inN b = true → up b = b) ?_ b
  decide +kernel
theorem inN_low (b : UInt8) (h : inN b = true) : b.toNat < 128 := by
  revert h
  refine byte_ind (P := fun b => inN b = true → b.toNat < 128) ?_ b
  decide +kernel
theorem nameB_iff (s : List UInt8) : nameB s = true ↔ 0 < s.length ∧ s.length ≤ 60 ∧ s.all inN = true := by
  unfold nameB; simp only [Bool.and_eq_true, decide_eq_true_eq, and_assoc]

/- parameters, lines -/
def parB (p : Par) : Bool := nameB p.1 && decide (0 < p.2.length) && decide (p.2.length ≤ 60) && p.2.all fun v => decide (clE true v = 0)
theorem parB_iff (p : Par) : parB p = true ↔ nameB p.1 = true ∧ 0 < p.2.length ∧ p.2.length ≤ 60 ∧ ∀ v ∈ p.2, clE true v = 0 := by
  unfold parB; simp only [Bool.and_eq_true, decide_eq_true_eq, and_assoc, List.all_eq_true]
def psB (ps : List Par) : Bool := ps.all parB && decide ((ps.map Prod.fst).Nodup)
theorem psB_iff (ps : List Par) : psB ps = true ↔ (∀ p ∈ ps, parB p = true) ∧ (ps.map Prod.fst).Nodup := by
  unfold psB; simp only [Bool.and_eq_true, decide_eq_true_eq, List.all_eq_true]
theorem psB_snoc (ps : List Par) (p : Par) : psB (ps ++ [p]) = (psB ps && (parB p && !((ps.map Prod.fst).contains p.1))) := by
  rw [Bool.eq_iff_iff]
  simp only [psB_iff, Bool.and_eq_true, Bool.not_eq_true', List.contains_eq_mem, decide_eq_false_iff_not, List.map_append, List.map_cons, List.map_nil, List.nodup_append, List.mem_append, List.mem_singleton]
  constructor
  · rintro ⟨h1, h2, _, h3⟩
    refine ⟨⟨fun q hq => h1 q (.inl hq), h2⟩, h1 p (.inr rfl), fun hm => h3 _ hm _ rfl rfl⟩
  · rintro ⟨⟨h1, h2⟩, h3, h4⟩
    refine ⟨fun q hq => ?_, h2, by simp, fun a ha b hb e => ?_⟩
    · rcases hq with hq | rfl
      · exact h1 q hq
      · exact h3
    · subst hb e; exact h4 ha
theorem psB_take (ps : List Par) (k : Nat) (h : psB ps = true) : psB (ps.take k) = true := by
  rw [psB_iff] at h ⊢
  refine ⟨fun p hp => h.1 p (List.mem_of_mem_take hp), ?_⟩
  rw [List.map_take]
  exact List.Nodup.sublist (List.take_sublist _ _) h.2
theorem psB_at (ps : List Par) (k : Nat) (hk : k < ps.length) : psB (ps.take (k + 1)) = (psB (ps.take k) && (parB ps[k] && !(((ps.take k).map Prod.fst).contains ps[k].1))) := by
  rw [List.take_succ_eq_append_getElem hk, psB_snoc]
theorem psB_no (ps : List Par) (k : Nat) (h : psB (ps.take k) = false) : psB ps = false := by
  cases e : psB ps
  · rfl
  · rw [psB_take ps k e] at h; cases h
def formed (l : Li) : Bool := nameB l.name && decide (l.ps.length ≤ 60) && decide (clE false l.value = 0) && psB l.ps
theorem formed_iff (l : Li) : formed l = true ↔ nameB l.name = true ∧ l.ps.length ≤ 60 ∧ clE false l.value = 0 ∧ psB l.ps = true := by
  unfold formed; simp only [Bool.and_eq_true, decide_eq_true_eq, and_assoc]

/- what is written -/
def prV : List (List UInt8) → List UInt8
  | [] => []
  | v :: vs => pq v ++ vs.flatMap fun x => 44 :: pq x
def prP (p : Par) : List UInt8 := 59 :: (p.1 ++ 61 :: prV p.2)
def pr (l : Li) : List UInt8 := l.name ++ (l.ps.flatMap prP ++ 58 :: l.value)
theorem prV_one (v : List UInt8) : prV [v] = pq v := by simp [prV]
theorem prV_snoc (vs : List (List UInt8)) (v : List UInt8) (h : vs ≠ []) : prV (vs ++ [v]) = prV vs ++ 44 :: pq v := by
  rcases vs with _ | ⟨x, vs⟩
  · exact absurd rfl h
  · simp [prV]
theorem prV_at0 (vs : List (List UInt8)) (h : 0 < vs.length) : prV (vs.take (0 + 1)) = prV (vs.take 0) ++ pq vs[0] := by
  rw [List.take_succ_eq_append_getElem h]; simp [prV]
theorem prV_at (vs : List (List UInt8)) (k : Nat) (hk : k < vs.length) (h0 : 0 < k) : prV (vs.take (k + 1)) = prV (vs.take k) ++ 44 :: pq vs[k] := by
  rw [List.take_succ_eq_append_getElem hk, prV_snoc]
  intro e
  have := congrArg List.length e
  rw [List.length_take, List.length_nil] at this
  omega
def prE (l : Li) : Int := if formed l = false then 1 else if 2000 < (pr l).length then 4 else 0
def prT (l : Li) : List UInt8 := if prE l = 0 then pr l else []
theorem pr_no {l : Li} (h : formed l = false) : prE l = 1 ∧ prT l = [] := by
  have e : prE l = 1 := by unfold prE; rw [if_pos h]
  exact ⟨e, by unfold prT; rw [e]; rfl⟩
theorem pr_long {l : Li} (h : formed l = true) (h2 : 2000 < (pr l).length) : prE l = 4 ∧ prT l = [] := by
  have e : prE l = 4 := by unfold prE; rw [if_neg (by simp [h]), if_pos h2]
  exact ⟨e, by unfold prT; rw [e]; rfl⟩
theorem pr_ok {l : Li} (h : formed l = true) (h2 : (pr l).length ≤ 2000) : prE l = 0 ∧ prT l = pr l := by
  have e : prE l = 0 := by unfold prE; rw [if_neg (by simp [h]), if_neg (by omega)]
  exact ⟨e, by unfold prT; rw [e]; rfl⟩
theorem prE_cases (l : Li) : (prE l = 1 ∧ prT l = []) ∨ (prE l = 4 ∧ prT l = []) ∨ (prE l = 0 ∧ prT l = pr l ∧ formed l = true ∧ (pr l).length ≤ 2000) := by
  cases h : formed l
  · exact .inl (pr_no h)
  · by_cases h2 : 2000 < (pr l).length
    · exact .inr (.inl (pr_long h h2))
    · have := pr_ok h (by omega)
      exact .inr (.inr ⟨this.1, this.2, rfl, by omega⟩)

/- how much a line holds -/
def wtV (vs : List (List UInt8)) : Nat := (vs.map fun v => v.length + 1).sum
def wtP (p : Par) : Nat := p.1.length + 1 + wtV p.2
def wtPs (ps : List Par) : Nat := (ps.map wtP).sum
def wt (l : Li) : Nat := l.name.length + l.value.length + wtPs l.ps
theorem wtV_nil : wtV [] = 0 := rfl
theorem wtV_cons (v : List UInt8) (vs : List (List UInt8)) : wtV (v :: vs) = v.length + 1 + wtV vs := by simp [wtV]
theorem wtV_append (a b : List (List UInt8)) : wtV (a ++ b) = wtV a + wtV b := by simp [wtV]
theorem wtV_snoc (a : List (List UInt8)) (v : List UInt8) : wtV (a ++ [v]) = wtV a + (v.length + 1) := by simp [wtV]
theorem wtPs_nil : wtPs [] = 0 := rfl
theorem wtPs_cons (p : Par) (ps : List Par) : wtPs (p :: ps) = wtP p + wtPs ps := by simp [wtPs]
theorem wtPs_append (a b : List Par) : wtPs (a ++ b) = wtPs a + wtPs b := by simp [wtPs]
theorem wtPs_snoc (a : List Par) (p : Par) : wtPs (a ++ [p]) = wtPs a + wtP p := by simp [wtPs]
theorem wtV_len (vs : List (List UInt8)) : vs.length ≤ wtV vs := by
  induction vs with
  | nil => simp [wtV_nil]
  | cons v vs ih => rw [wtV_cons, List.length_cons]; omega
theorem wtV_mem {vs : List (List UInt8)} {v : List UInt8} (h : v ∈ vs) : v.length + 1 ≤ wtV vs := by
  induction vs with
  | nil => cases h
  | cons x vs ih =>
    rw [wtV_cons]
    rcases List.mem_cons.1 h with rfl | h
    · omega
    · have := ih h; omega
theorem wtPs_len (ps : List Par) : ps.length ≤ wtPs ps := by
  induction ps with
  | nil => simp [wtPs_nil]
  | cons p ps ih => rw [wtPs_cons, List.length_cons]; unfold wtP; omega
theorem wtPs_mem {ps : List Par} {p : Par} (h : p ∈ ps) : wtP p ≤ wtPs ps := by
  induction ps with
  | nil => cases h
  | cons x ps ih =>
    rw [wtPs_cons]
    rcases List.mem_cons.1 h with rfl | h
    · omega
    · have := ih h; omega
theorem wtV_take (vs : List (List UInt8)) (k : Nat) (hk : k < vs.length) : wtV (vs.take (k + 1)) = wtV (vs.take k) + (vs[k].length + 1) := by
  rw [List.take_succ_eq_append_getElem hk, wtV_snoc]
theorem wtPs_take (ps : List Par) (k : Nat) (hk : k < ps.length) : wtPs (ps.take (k + 1)) = wtPs (ps.take k) + wtP ps[k] := by
  rw [List.take_succ_eq_append_getElem hk, wtPs_snoc]
theorem wtV_le (vs : List (List UInt8)) (k : Nat) : wtV (vs.take k) ≤ wtV vs := by
  have := wtV_append (vs.take k) (vs.drop k)
  rw [List.take_append_drop] at this; omega
theorem wtPs_le (ps : List Par) (k : Nat) : wtPs (ps.take k) ≤ wtPs ps := by
  have := wtPs_append (ps.take k) (ps.drop k)
  rw [List.take_append_drop] at this; omega
theorem fm_len (vs : List (List UInt8)) : (vs.flatMap fun x => 44 :: pq x).length ≤ 3 * wtV vs := by
  induction vs with
  | nil => simp [wtV_nil]
  | cons v vs ih =>
    have := pq_len v
    rw [List.flatMap_cons, List.length_append, List.length_cons, wtV_cons]; omega
theorem prV_len (vs : List (List UInt8)) : (prV vs).length ≤ 3 * wtV vs := by
  rcases vs with _ | ⟨v, vs⟩
  · simp [prV]
  · have := pq_len v
    have h2 := fm_len vs
    unfold prV
    rw [List.length_append, wtV_cons]; omega
theorem prP_len (p : Par) : (prP p).length ≤ 3 * wtP p := by
  have := prV_len p.2
  unfold prP wtP
  simp only [List.length_cons, List.length_append]; omega
theorem prPs_len (ps : List Par) : (ps.flatMap prP).length ≤ 3 * wtPs ps := by
  induction ps with
  | nil => simp [wtPs_nil]
  | cons p ps ih =>
    have := prP_len p
    rw [List.flatMap_cons, List.length_append, wtPs_cons]; omega
theorem pr_len (l : Li) : (pr l).length ≤ 3 * wt l + 1 := by
  have := prPs_len l.ps
  unfold pr wt
  simp only [List.length_cons, List.length_append]; omega

/- what is read: a name -/
def nm : Nat → List UInt8 → List UInt8 × List UInt8
  | 0, r => ([], r)
  | _ + 1, [] => ([], [])
  | k + 1, c :: r => if inN (up c) then (up c :: (nm k r).1, (nm k r).2) else ([], c :: r)
theorem nm_zero (r : List UInt8) : nm 0 r = ([], r) := by cases r <;> rfl
theorem nm_nil (k : Nat) : nm k [] = ([], []) := by cases k <;> rfl
theorem nm_yes (k : Nat) (c : UInt8) (r : List UInt8) (h : inN (up c) = true) : nm (k + 1) (c :: r) = (up c :: (nm k r).1, (nm k r).2) := by simp [nm, h]
theorem nm_no (k : Nat) (c : UInt8) (r : List UInt8) (h : inN (up c) = false) : nm k (c :: r) = ([], c :: r) := by cases k <;> simp [nm, h]
theorem nm_len (k : Nat) : ∀ r : List UInt8, (nm k r).1.length ≤ k ∧ (nm k r).1.length + (nm k r).2.length = r.length ∧ (nm k r).1.all inN = true := by
  induction k with
  | zero => intro r; rw [nm_zero]; simp
  | succ k ih =>
    intro r
    rcases r with _ | ⟨c, r⟩
    · rw [nm_nil]; simp
    · cases h : inN (up c)
      · rw [nm_no _ _ _ h]; simp
      · rw [nm_yes _ _ _ h]
        obtain ⟨h1, h2, h3⟩ := ih r
        refine ⟨by simpa using h1, by simp only [List.length_cons]; omega, by simp [h, h3]⟩
theorem nm_back (n : List UInt8) : ∀ (k : Nat) (c : UInt8) (r : List UInt8), n.length ≤ k → n.all inN = true → inN (up c) = false → nm k (n ++ c :: r) = (n, c :: r) := by
  induction n with
  | nil => intro k c r _ _ hc; exact nm_no k c r hc
  | cons b n ih =>
    intro k c r hk hn hc
    rw [List.all_cons, Bool.and_eq_true] at hn
    rcases k with _ | k
    · simp at hk
    · have hb := up_in b hn.1
      rw [List.cons_append, nm_yes k b _ (by rw [hb]; exact hn.1), hb, ih k c r (by simpa using hk) hn.2 hc]

/- a parameter's value as it is written, and what is behind it -/
def sv (r : List UInt8) : Option (List UInt8 × List UInt8) :=
  if r.head? = some 34 then
    if 34 ∈ r.tail then some (34 :: (r.tail.takeWhile (· != 34) ++ [34]), (r.tail.dropWhile (· != 34)).tail) else none
  else if (r.dropWhile fun b => !qb b).head? = none ∨ (r.dropWhile fun b => !qb b).head? = some 34 then none
  else some (r.takeWhile fun b => !qb b, r.dropWhile fun b => !qb b)
theorem tw_mem (c : UInt8) (l : List UInt8) (h : c ∈ l) : l = l.takeWhile (· != c) ++ c :: (l.dropWhile (· != c)).tail := by
  conv => lhs; rw [← List.takeWhile_append_dropWhile (p := (· != c)) (l := l)]
  congr 1
  have hne : l.dropWhile (· != c) ≠ [] := by
    intro e
    have := List.takeWhile_append_dropWhile (p := (· != c)) (l := l)
    rw [e, List.append_nil] at this
    rw [← this] at h
    have ha := List.all_takeWhile (p := (· != c)) (l := l)
    rw [List.all_eq_true] at ha
    have := ha c h
    simp at this
  have := List.head_dropWhile_not (· != c) hne
  rcases hd : l.dropWhile (· != c) with _ | ⟨x, t⟩
  · exact absurd hd hne
  · simp only [hd, List.head_cons, bne_eq_false_iff_eq] at this
    rw [this]; rfl
theorem sv_app {r raw rest : List UInt8} (h : sv r = some (raw, rest)) : r = raw ++ rest := by
  unfold sv at h
  split at h
  · rename_i c
    split at h
    · rename_i d
      injection h with h
      injection h with h1 h2
      subst h1 h2
      rcases r with _ | ⟨b, r⟩
      · cases c
      · simp only [List.head?_cons, Option.some.injEq] at c
        subst c
        simp only [List.tail_cons] at d ⊢
        rw [List.cons_append, List.append_assoc]
        congr 1
        exact tw_mem 34 r d
    · cases h
  · split at h
    · cases h
    · injection h with h
      injection h with h1 h2
      subst h1 h2
      exact (List.takeWhile_append_dropWhile).symm
/- values with commas between -/
def vs (r : List UInt8) (acc : List (List UInt8)) : Option (List (List UInt8) × List UInt8) :=
  match _h : sv r with
  | none => none
  | some x => if vlE x.1 ≠ 0 then none else
    if _h2 : x.2.head? = some 44 then (if acc.length + 1 = 60 then none else vs x.2.tail (acc ++ [vlT x.1])) else some (acc ++ [vlT x.1], x.2)
  termination_by r.length
  decreasing_by
    have e := congrArg List.length (sv_app (raw := x.1) (rest := x.2) _h)
    rw [List.length_append] at e
    rcases hx : x.2 with _ | ⟨b, t⟩
    · rw [hx] at _h2; cases _h2
    · rw [hx] at e
      simp only [List.tail_cons, List.length_cons] at e ⊢
      omega
theorem vs_none {r : List UInt8} {acc : List (List UInt8)} (h : sv r = none) : vs r acc = none := by
  rw [vs.eq_def]; split
  · rfl
  · rename_i x e; rw [h] at e; cases e
theorem vs_bad {r raw rest : List UInt8} {acc : List (List UInt8)} (h : sv r = some (raw, rest)) (h2 : vlE raw ≠ 0) : vs r acc = none := by
  rw [vs.eq_def]; split
  · rfl
  · rename_i x e; rw [h] at e; injection e with e; subst e; rw [if_pos h2]
theorem vs_many {r raw rest : List UInt8} {acc : List (List UInt8)} (h : sv r = some (raw, rest)) (h2 : vlE raw = 0) (h3 : rest.head? = some 44) (h4 : acc.length + 1 = 60) : vs r acc = none := by
  rw [vs.eq_def]; split
  · rfl
  · rename_i x e; rw [h] at e; injection e with e; subst e; rw [if_neg (fun c => c h2), dif_pos h3, if_pos h4]
theorem vs_more {r raw rest : List UInt8} {acc : List (List UInt8)} (h : sv r = some (raw, rest)) (h2 : vlE raw = 0) (h3 : rest.head? = some 44) (h4 : acc.length + 1 ≠ 60) : vs r acc = vs rest.tail (acc ++ [vlT raw]) := by
  rw [vs.eq_def]; split
  · rename_i e; rw [h] at e; cases e
  · rename_i x e; rw [h] at e; injection e with e; subst e; rw [if_neg (fun c => c h2), dif_pos h3, if_neg h4]
theorem vs_end {r raw rest : List UInt8} {acc : List (List UInt8)} (h : sv r = some (raw, rest)) (h2 : vlE raw = 0) (h3 : rest.head? ≠ some 44) : vs r acc = some (acc ++ [vlT raw], rest) := by
  rw [vs.eq_def]; split
  · rename_i e; rw [h] at e; cases e
  · rename_i x e; rw [h] at e; injection e with e; subst e; rw [if_neg (fun c => c h2), dif_neg h3]
/- an induction that goes along with reading values -/
theorem vs_ind {P : List UInt8 → List (List UInt8) → Prop} (h : ∀ r acc, (∀ raw rest, sv r = some (raw, rest) → vlE raw = 0 → rest.head? = some 44 → acc.length + 1 ≠ 60 → P rest.tail (acc ++ [vlT raw])) → P r acc) : ∀ r acc, P r acc := by
  intro r
  generalize hn : r.length = n
  induction n using Nat.strongRecOn generalizing r with
  | _ n ih =>
    intro acc
    refine h r acc (fun raw rest e _ h3 _ => ?_)
    have el := congrArg List.length (sv_app e)
    rw [List.length_append] at el
    refine ih rest.tail.length ?_ rest.tail rfl _
    rcases rest with _ | ⟨b, t⟩
    · cases h3
    · simp only [List.tail_cons, List.length_cons] at el ⊢; omega
/- what a value that is read holds -/
theorem vr_len (n : Nat) : ∀ l : List UInt8, l.length ≤ n → (vr l).length ≤ l.length := by
  induction n with
  | zero => intro l h; rw [List.eq_nil_of_length_eq_zero (by omega : l.length = 0), vr_nil]; simp
  | succ n ih =>
    intro l h
    rcases l with _ | ⟨c, r⟩
    · rw [vr_nil]; simp
    · have hr : r.length ≤ n := by simpa using h
      by_cases c94 : c = 94
      · subst c94
        cases e : ac r with
        | none => rw [vr_none r e]; simpa using ih r hr
        | some x =>
          rw [vr_some r x e]
          have := ih r.tail (by rw [List.length_tail]; omega)
          simp only [List.length_cons, List.length_tail] at this ⊢; omega
      · rw [vr_else c r c94]; simpa using ih r hr
theorem vq_parts {l m : List UInt8} (h : vq l = some m) : l = m ∨ l = 34 :: (m ++ [34]) := by
  unfold vq at h
  split at h
  · rename_i c
    split at h
    · rename_i d
      injection h with h
      subst h
      right
      rcases l with _ | ⟨b, l⟩
      · cases c
      · simp only [List.head?_cons, Option.some.injEq] at c
        subst c
        simp only [List.tail_cons] at d ⊢
        congr 1
        rcases List.eq_nil_or_concat l with rfl | ⟨t, x, rfl⟩
        · simp at d
        · have := d.1
          simp only [List.concat_eq_append, List.getLast?_append, List.getLast?_singleton, Option.some_or, Option.some.injEq] at this
          subst this; simp
    · cases h
  · split at h
    · cases h
    · injection h with h; exact .inl h
theorem vl_len (raw : List UInt8) : (vlT raw).length ≤ raw.length := by
  unfold vlT
  split
  · simp
  · unfold vlR
    split
    · simp
    · cases h : vq raw with
      | none => simp
      | some m =>
        have h1 := vr_len m.length m (Nat.le_refl _)
        rcases vq_parts h with e | e
        · simp; rw [e]; exact h1
        · simp; rw [e]; simp; omega
theorem vr_run (p r : List UInt8) (h : ∀ b ∈ p, 128 ≤ b.toNat) : vr (p ++ r) = p ++ vr r := by
  induction p with
  | nil => rfl
  | cons b p ih =>
    rw [List.cons_append, vr_else, ih (fun x hx => h x (by simp [hx])), List.cons_append]
    intro e; subst e
    have := h 94 (by simp)
    revert this; decide
theorem ac_low {r : List UInt8} {x : UInt8} (h : ac r = some x) : ∃ d t, r = d :: t ∧ d.toNat < 128 ∧ x.toNat < 128 ∧ bad true x = false := by
  rcases r with _ | ⟨d, t⟩
  · cases h
  · refine ⟨d, t, rfl, ?_⟩
    simp only [ac] at h
    split at h
    · rename_i c; subst c; injection h with h; subst h; decide
    · split at h
      · rename_i c; subst c; injection h with h; subst h; decide
      · split at h
        · rename_i c; subst c; injection h with h; subst h; decide
        · cases h
theorem vr_valid (n : Nat) : ∀ l : List UInt8, l.length ≤ n → validD l = true → validD (vr l) = true := by
  induction n with
  | zero => intro l h _; rw [List.eq_nil_of_length_eq_zero (by omega : l.length = 0), vr_nil]; exact valid_nil
  | succ n ih =>
    intro l h hv
    rcases valid_cases l hv with rfl | ⟨b, r, rfl, hb, hr⟩ | ⟨p, r, rfl, hp, hp2, hr, hall⟩
    · rw [vr_nil]; exact valid_nil
    · have hl : r.length ≤ n := by simpa using h
      by_cases c94 : b = 94
      · subst c94
        cases e : ac r with
        | none => rw [vr_none r e, valid_low _ _ hb]; exact ih r hl hr
        | some x =>
          obtain ⟨d, t, rfl, hd, hx, _⟩ := ac_low e
          rw [vr_some _ x e, valid_low _ _ hx]
          rw [valid_low _ _ hd] at hr
          exact ih t (by simp at hl; omega) hr
      · rw [vr_else b r c94, valid_low _ _ hb]; exact ih r hl hr
    · rw [vr_run p r hp2, hall]
      have := List.length_pos_iff.2 hp
      exact ih r (by rw [List.length_append] at h; omega) hr
theorem bad_more (b : UInt8) (h : bad false b = false) : bad true b = false := by
  revert h
  refine byte_ind (P := fun b => bad false b = false → bad true b = false) ?_ b
  decide +kernel
theorem vr_bad (n : Nat) : ∀ l : List UInt8, l.length ≤ n → l.any (bad false) = false → (vr l).any (bad true) = false := by
  induction n with
  | zero => intro l h _; rw [List.eq_nil_of_length_eq_zero (by omega : l.length = 0), vr_nil]; rfl
  | succ n ih =>
    intro l h hb
    rcases l with _ | ⟨c, r⟩
    · rw [vr_nil]; rfl
    · rw [List.any_cons, Bool.or_eq_false_iff] at hb
      have hr : r.length ≤ n := by simpa using h
      have hc := bad_more c hb.1
      by_cases c94 : c = 94
      · subst c94
        cases e : ac r with
        | none => rw [vr_none r e, List.any_cons, hc, ih r hr hb.2]; rfl
        | some x =>
          obtain ⟨d, t, rfl, _, _, hx⟩ := ac_low e
          have h2 := hb.2
          rw [List.any_cons, Bool.or_eq_false_iff] at h2
          rw [vr_some _ x e, List.any_cons, hx, List.tail_cons, ih t (by simp at hr; omega) h2.2]; rfl
      · rw [vr_else c r c94, List.any_cons, hc, ih r hr hb.2]; rfl
theorem vl_clean {raw : List UInt8} (h : vlE raw = 0) : clE true (vlT raw) = 0 := by
  by_cases hv : validD raw = false
  · rw [(vl_utf hv).1] at h; cases h
  · have hv' : validD raw = true := by simpa using hv
    cases hR : vlR raw with
    | none => rw [(vl_none hv' hR).1] at h; cases h
    | some t =>
      rw [(vl_some hv' hR).2]
      by_cases hb : raw.any (bad false) = true
      · rw [vlR_bad hb] at hR; cases hR
      · have hb' : raw.any (bad false) = false := by simpa using hb
        rw [vlR_ok hb'] at hR
        cases hq : vq raw with
        | none => rw [hq] at hR; cases hR
        | some m =>
          rw [hq] at hR
          injection hR with hR
          subst hR
          have hm : validD m = true ∧ m.any (bad false) = false := by
            rcases vq_parts hq with e | e
            · subst e; exact ⟨hv', hb'⟩
            · rw [e] at hv' hb'
              rw [valid_low 34 _ (by decide)] at hv'
              refine ⟨(valid_split m [] 34 (by decide) hv').1, ?_⟩
              rw [List.any_cons, List.any_append, Bool.or_eq_false_iff, Bool.or_eq_false_iff] at hb'
              exact hb'.2.1
          exact clE_ok (vr_valid _ m (Nat.le_refl _) hm.1) (vr_bad _ m (Nat.le_refl _) hm.2)
theorem vs_good : ∀ (r : List UInt8) (acc : List (List UInt8)), ∀ vs' rest, vs r acc = some (vs', rest) → acc.length < 60 → (∀ v ∈ acc, clE true v = 0) →
    0 < vs'.length ∧ vs'.length ≤ 60 ∧ (∀ v ∈ vs', clE true v = 0) ∧ wtV vs' + rest.length ≤ wtV acc + r.length + 1 := by
  refine vs_ind (P := fun r acc => ∀ vs' rest, vs r acc = some (vs', rest) → acc.length < 60 → (∀ v ∈ acc, clE true v = 0) →
    0 < vs'.length ∧ vs'.length ≤ 60 ∧ (∀ v ∈ vs', clE true v = 0) ∧ wtV vs' + rest.length ≤ wtV acc + r.length + 1) ?_
  intro r acc ih vs' rest h hl hall
  cases hs : sv r with
  | none => rw [vs_none hs] at h; cases h
  | some x =>
    obtain ⟨raw, rest1⟩ := x
    have el := congrArg List.length (sv_app hs)
    rw [List.length_append] at el
    have hvl := vl_len raw
    by_cases hE : vlE raw = 0
    · have hall2 : ∀ v ∈ acc ++ [vlT raw], clE true v = 0 := by
        intro v hv
        rcases List.mem_append.1 hv with hv | hv
        · exact hall v hv
        · rw [List.mem_singleton.1 hv]; exact vl_clean hE
      by_cases hc : rest1.head? = some 44
      · by_cases h60 : acc.length + 1 = 60
        · rw [vs_many hs hE hc h60] at h; cases h
        · rw [vs_more hs hE hc h60] at h
          have h2 := ih raw rest1 hs hE hc h60 vs' rest h (by rw [List.length_append, List.length_singleton]; omega) hall2
          refine ⟨h2.1, h2.2.1, h2.2.2.1, ?_⟩
          have h3 := h2.2.2.2
          rw [wtV_snoc] at h3
          rcases rest1 with _ | ⟨b, t⟩
          · cases hc
          · simp only [List.tail_cons, List.length_cons] at h3 el; omega
      · rw [vs_end hs hE hc] at h
        injection h with h
        injection h with h1 h2
        subst h1 h2
        refine ⟨by simp, by rw [List.length_append, List.length_singleton]; omega, hall2, ?_⟩
        rw [wtV_snoc]; omega
    · rw [vs_bad hs hE] at h; cases h
theorem vs_short {r : List UInt8} {acc vs' : List (List UInt8)} {rest : List UInt8} : vs r acc = some (vs', rest) → rest.length ≤ r.length := by
  revert vs' rest
  refine vs_ind (P := fun r acc => ∀ {vs' rest}, vs r acc = some (vs', rest) → rest.length ≤ r.length) ?_ r acc
  intro r acc ih vs' rest h
  cases hs : sv r with
  | none => rw [vs_none hs] at h; cases h
  | some x =>
    obtain ⟨raw, rest1⟩ := x
    have el := congrArg List.length (sv_app hs)
    rw [List.length_append] at el
    by_cases hE : vlE raw = 0
    · by_cases hc : rest1.head? = some 44
      · by_cases h60 : acc.length + 1 = 60
        · rw [vs_many hs hE hc h60] at h; cases h
        · rw [vs_more hs hE hc h60] at h
          have h2 := ih raw rest1 hs hE hc h60 h
          rw [List.length_tail] at h2; omega
      · rw [vs_end hs hE hc] at h
        injection h with h
        injection h with h1 h2
        subst h1 h2; omega
    · rw [vs_bad hs hE] at h; cases h
/- a parameter, all parameters, a line -/
def pa (r : List UInt8) (before : List (List UInt8)) : Option (Par × List UInt8) :=
  if (nm 60 r).1 = [] then none else if (nm 60 r).2.head? ≠ some 61 then none else if before.length = 60 ∨ (nm 60 r).1 ∈ before then none
  else (vs (nm 60 r).2.tail []).map fun x => (((nm 60 r).1, x.1), x.2)
theorem pa_short {r : List UInt8} {before : List (List UInt8)} {p : Par} {rest : List UInt8} (h : pa r before = some (p, rest)) : rest.length ≤ r.length := by
  unfold pa at h
  have hl := (nm_len 60 r).2.1
  split at h
  · cases h
  · split at h
    · cases h
    · split at h
      · cases h
      · cases hv : vs (nm 60 r).2.tail [] with
        | none => rw [hv] at h; cases h
        | some x =>
          rw [hv] at h
          injection h with h
          injection h with _ h2
          have := vs_short (rest := x.2) hv
          rw [h2, List.length_tail] at this; omega
def ps (r : List UInt8) (acc : List Par) : Option (List Par × List UInt8) :=
  if _h : r.head? = some 59 then
    match _h2 : pa r.tail (acc.map Prod.fst) with
    | none => none
    | some x => ps x.2 (acc ++ [x.1])
  else some (acc, r)
  termination_by r.length
  decreasing_by
    have e := pa_short (p := x.1) (rest := x.2) _h2
    rcases hx : r with _ | ⟨b, t⟩
    · rw [hx] at _h; cases _h
    · rw [hx] at e
      simp only [List.tail_cons, List.length_cons] at e ⊢
      omega
theorem ps_end {r : List UInt8} {acc : List Par} (h : r.head? ≠ some 59) : ps r acc = some (acc, r) := by rw [ps.eq_def, dif_neg h]
theorem ps_none {r : List UInt8} {acc : List Par} (h : r.head? = some 59) (h2 : pa r.tail (acc.map Prod.fst) = none) : ps r acc = none := by
  rw [ps.eq_def, dif_pos h]; split
  · rfl
  · rename_i x e; rw [h2] at e; cases e
theorem ps_more {r : List UInt8} {acc : List Par} {p : Par} {rest : List UInt8} (h : r.head? = some 59) (h2 : pa r.tail (acc.map Prod.fst) = some (p, rest)) : ps r acc = ps rest (acc ++ [p]) := by
  rw [ps.eq_def, dif_pos h]; split
  · rename_i e; rw [h2] at e; cases e
  · rename_i x e; rw [h2] at e; injection e with e; subst e; rfl
theorem ps_ind {P : List UInt8 → List Par → Prop} (h : ∀ r acc, (∀ p rest, r.head? = some 59 → pa r.tail (acc.map Prod.fst) = some (p, rest) → P rest (acc ++ [p])) → P r acc) : ∀ r acc, P r acc := by
  intro r
  generalize hn : r.length = n
  induction n using Nat.strongRecOn generalizing r with
  | _ n ih =>
    intro acc
    refine h r acc (fun p rest h1 h2 => ?_)
    have e := pa_short h2
    refine ih rest.length ?_ rest rfl _
    rcases r with _ | ⟨b, t⟩
    · cases h1
    · simp only [List.tail_cons, List.length_cons] at e hn; omega
def rp (s : List UInt8) : Option Li :=
  if 2000 < s.length then none else if validD s = false then none else if (nm 60 s).1 = [] then none else
    match ps (nm 60 s).2 [] with
    | none => none
    | some x => if x.2.head? ≠ some 58 then none else if clE false x.2.tail ≠ 0 then none else some ⟨(nm 60 s).1, x.1, x.2.tail⟩
theorem name_ok {k : Nat} {r : List UInt8} (hk : k ≤ 60) (h : (nm k r).1 ≠ []) : nameB (nm k r).1 = true := by
  obtain ⟨h1, _, h3⟩ := nm_len k r
  rw [nameB_iff]
  exact ⟨List.length_pos_iff.2 h, by omega, h3⟩
theorem pa_good {r : List UInt8} {before : List (List UInt8)} {p : Par} {rest : List UInt8} (h : pa r before = some (p, rest)) :
    parB p = true ∧ before.length ≠ 60 ∧ p.1 ∉ before ∧ wtP p + rest.length ≤ r.length + 1 := by
  unfold pa at h
  have hl := (nm_len 60 r).2.1
  split at h
  · cases h
  · rename_i hn
    split at h
    · cases h
    · rename_i h61
      split at h
      · cases h
      · rename_i hb
        cases hv : vs (nm 60 r).2.tail [] with
        | none => rw [hv] at h; cases h
        | some x =>
          rw [hv] at h
          injection h with h
          injection h with h1 h2
          subst h1 h2
          obtain ⟨g1, g2, g3, g4⟩ := vs_good _ _ _ _ hv (by simp) (by simp)
          refine ⟨(parB_iff _).2 ⟨name_ok (Nat.le_refl _) hn, g1, g2, g3⟩, fun e => hb (.inl e), fun e => hb (.inr e), ?_⟩
          unfold wtP
          have h61' : (nm 60 r).2.head? = some 61 := by simpa using h61
          rw [wtV_nil] at g4
          rcases hx : (nm 60 r).2 with _ | ⟨b, t⟩
          · rw [hx] at h61'; cases h61'
          · rw [hx] at g4 hl
            simp only [List.tail_cons, List.length_cons] at g4 hl ⊢; omega
theorem ps_good : ∀ (r : List UInt8) (acc : List Par), ∀ ps' rest, ps r acc = some (ps', rest) → psB acc = true → acc.length ≤ 60 →
    psB ps' = true ∧ ps'.length ≤ 60 ∧ wtPs ps' + rest.length ≤ wtPs acc + r.length := by
  refine ps_ind (P := fun r acc => ∀ ps' rest, ps r acc = some (ps', rest) → psB acc = true → acc.length ≤ 60 →
    psB ps' = true ∧ ps'.length ≤ 60 ∧ wtPs ps' + rest.length ≤ wtPs acc + r.length) ?_
  intro r acc ih ps' rest h hb hl
  by_cases h59 : r.head? = some 59
  · cases hp : pa r.tail (acc.map Prod.fst) with
    | none => rw [ps_none h59 hp] at h; cases h
    | some x =>
      obtain ⟨p, rest1⟩ := x
      rw [ps_more h59 hp] at h
      obtain ⟨g1, g2, g3, g4⟩ := pa_good hp
      rw [List.length_map] at g2
      have hb2 : psB (acc ++ [p]) = true := by
        rw [psB_snoc, hb, g1]
        simpa using g3
      obtain ⟨i1, i2, i3⟩ := ih p rest1 h59 hp ps' rest h hb2 (by rw [List.length_append, List.length_singleton]; omega)
      refine ⟨i1, i2, ?_⟩
      rw [wtPs_snoc] at i3
      rcases r with _ | ⟨b, t⟩
      · cases h59
      · simp only [List.tail_cons, List.length_cons] at g4 ⊢; omega
  · rw [ps_end h59] at h
    injection h with h
    injection h with h1 h2
    subst h1 h2
    exact ⟨hb, hl, Nat.le_refl _⟩
/- what is read is formed, and holds no more than its text -/
theorem rp_good {s : List UInt8} {l : Li} (h : rp s = some l) : formed l = true ∧ wt l ≤ s.length := by
  unfold rp at h
  have hn := (nm_len 60 s).2.1
  split at h
  · cases h
  · split at h
    · cases h
    · split at h
      · cases h
      · rename_i hne
        cases hp : ps (nm 60 s).2 [] with
        | none => rw [hp] at h; cases h
        | some x =>
          rw [hp] at h
          simp only at h
          split at h
          · cases h
          · split at h
            · cases h
            · rename_i h58 hcl
              injection h with h
              subst h
              obtain ⟨g1, g2, g3⟩ := ps_good _ _ _ _ hp (by decide) (by simp)
              refine ⟨(formed_iff _).2 ⟨name_ok (Nat.le_refl _) hne, g2, by simpa using hcl, g1⟩, ?_⟩
              unfold wt
              rw [wtPs_nil] at g3
              simp only [List.length_tail]; omega
theorem rp_len {s : List UInt8} {l : Li} (h : rp s = some l) : s.length ≤ 2000 := by
  unfold rp at h
  split at h
  · cases h
  · omega
/- there and back -/
theorem tw_stop (p : UInt8 → Bool) (a : List UInt8) (d : UInt8) (r : List UInt8) (h : ∀ b ∈ a, p b = true) (hd : p d = false) : (a ++ d :: r).takeWhile p = a ∧ (a ++ d :: r).dropWhile p = d :: r := by
  induction a with
  | nil => simp [hd]
  | cons b a ih =>
    have hb := h b (by simp)
    obtain ⟨i1, i2⟩ := ih (fun x hx => h x (by simp [hx]))
    simp [hb, i1, i2]
theorem sv_pq (v : List UInt8) (d : UInt8) (r : List UInt8) (hd : qb d = true) (h34 : d ≠ 34) : sv (pq v ++ d :: r) = some (pq v, d :: r) := by
  have h34v := pm_34 v
  unfold sv pq
  cases h : qu v
  · simp only [Bool.false_eq_true, if_false]
    have hq := pm_qb v h
    have hno : ∀ b ∈ pm v, (!qb b) = true := by
      intro b hb
      rw [List.any_eq_false] at hq
      have := hq b hb
      simpa using this
    obtain ⟨e1, e2⟩ := tw_stop (fun b => !qb b) (pm v) d r hno (by simp [hd])
    rw [e1, e2, if_neg, if_neg]
    · simp [h34]
    · rcases hp : pm v with _ | ⟨b, t⟩
      · simp [h34]
      · rw [hp] at h34v
        simp only [List.cons_append, List.head?_cons, Option.some.injEq]
        intro e; subst e; exact h34v (by simp)
  · simp only [if_true, List.cons_append, List.head?_cons, List.tail_cons]
    obtain ⟨e1, e2⟩ := tw_stop (· != 34) (pm v) 34 (d :: r) (fun b hb => by simp only [bne_iff_ne, ne_eq]; rintro rfl; exact h34v hb) (by simp)
    rw [List.append_assoc, List.singleton_append, if_pos (by simp), e1, e2]
    rfl
theorem vs_back (vs0 : List (List UInt8)) : ∀ (v : List UInt8) (acc : List (List UInt8)) (d : UInt8) (r : List UInt8), acc.length + 1 + vs0.length ≤ 60 → (∀ x ∈ v :: vs0, clE true x = 0) → qb d = true → d ≠ 34 → d ≠ 44 →
    vs (pq v ++ (vs0.flatMap (fun x => 44 :: pq x) ++ d :: r)) acc = some (acc ++ v :: vs0, d :: r) := by
  induction vs0 with
  | nil =>
    intro v acc d r hl hall hd h34 h44
    obtain ⟨e1, e2⟩ := vl_pq v (hall v (by simp))
    rw [List.flatMap_nil, List.nil_append, vs_end (sv_pq v d r hd h34) e1 (by simpa using h44), e2]
  | cons x vs0 ih =>
    intro v acc d r hl hall hd h34 h44
    obtain ⟨e1, e2⟩ := vl_pq v (hall v (by simp))
    rw [List.flatMap_cons, List.cons_append, List.cons_append, vs_more (sv_pq v 44 _ rfl (by decide)) e1 rfl (by simp only [List.length_cons] at hl; omega), e2, List.tail_cons, List.append_assoc,
      ih x (acc ++ [v]) d r (by simp only [List.length_cons, List.length_append, List.length_nil] at hl ⊢; omega) (fun y hy => hall y (List.mem_cons_of_mem _ hy)) hd h34 h44]
    simp
theorem pa_back (p : Par) (before : List (List UInt8)) (d : UInt8) (r : List UInt8) (h : parB p = true) (hb : before.length ≠ 60) (hm : p.1 ∉ before) (hd : qb d = true) (h34 : d ≠ 34) (h44 : d ≠ 44) :
    pa (p.1 ++ (61 :: prV p.2 ++ d :: r)) before = some (p, d :: r) := by
  obtain ⟨h1, h2, h3, h4⟩ := (parB_iff p).1 h
  obtain ⟨n1, n2, n3⟩ := (nameB_iff p.1).1 h1
  have e := nm_back p.1 60 61 (prV p.2 ++ d :: r) n2 n3 (by decide)
  unfold pa
  rw [List.cons_append, e, if_neg (List.length_pos_iff.1 n1), if_neg (by simp), if_neg (by simp [hb, hm])]
  obtain ⟨n, vs0⟩ := p
  rcases vs0 with _ | ⟨v, vs0⟩
  · simp at h2
  · have := vs_back vs0 v [] d r (by simp only [List.length_cons, List.length_nil] at h3 ⊢; omega) h4 hd h34 h44
    simp only [List.tail_cons, prV, List.append_assoc]
    rw [this]; rfl
theorem ps_back (ps0 : List Par) : ∀ (acc : List Par) (r : List UInt8), psB (acc ++ ps0) = true → (acc ++ ps0).length ≤ 60 → ps (ps0.flatMap prP ++ 58 :: r) acc = some (acc ++ ps0, 58 :: r) := by
  induction ps0 with
  | nil => intro acc r _ _; rw [List.flatMap_nil, List.nil_append, ps_end (by simp), List.append_nil]
  | cons p ps0 ih =>
    intro acc r hb hl
    have hb1 : psB (acc ++ [p]) = true := by
      have := psB_take (acc ++ p :: ps0) (acc.length + 1) hb
      rwa [List.take_append, List.take_of_length_le (by omega), show acc.length + 1 - acc.length = 1 by omega] at this
    have hb2 := hb1
    rw [psB_snoc] at hb2
    simp only [Bool.and_eq_true, Bool.not_eq_true', List.contains_eq_mem, decide_eq_false_iff_not] at hb2
    have hl2 : (acc.map Prod.fst).length ≠ 60 := by
      rw [List.length_append, List.length_cons] at hl
      rw [List.length_map]; omega
    have key : ∀ d t, ps0.flatMap prP ++ 58 :: r = d :: t → qb d = true ∧ d ≠ 34 ∧ d ≠ 44 := by
      intro d t e
      rcases ps0 with _ | ⟨q, ps0⟩
      · simp at e; rw [← e.1]; decide
      · simp [prP] at e; rw [← e.1]; decide
    rcases hx : ps0.flatMap prP ++ 58 :: r with _ | ⟨d, t⟩
    · have := congrArg List.length hx
      simp at this
    · obtain ⟨k1, k2, k3⟩ := key d t hx
      have e := pa_back p (acc.map Prod.fst) d t hb2.2.1 hl2 hb2.2.2 k1 k2 k3
      have e2 : (p :: ps0).flatMap prP ++ 58 :: r = 59 :: (p.1 ++ (61 :: prV p.2 ++ d :: t)) := by
        rw [List.flatMap_cons, List.append_assoc, hx]
        simp [prP]
      rw [e2, ps_more (r := 59 :: (p.1 ++ (61 :: prV p.2 ++ d :: t))) rfl e, ← hx, ih (acc ++ [p]) r (by simpa using hb) (by simpa using hl)]
      simp
theorem name_low {n : List UInt8} (h : nameB n = true) : ∀ b ∈ n, b.toNat < 128 := by
  obtain ⟨_, _, h3⟩ := (nameB_iff n).1 h
  rw [List.all_eq_true] at h3
  exact fun b hb => inN_low b (h3 b hb)
theorem pq_valid (v : List UInt8) (h : clE true v = 0) : validD (pq v) = true := by
  have hv := pm_valid v (clE_zero h).1
  unfold pq; split
  · rw [valid_low 34 _ (by decide), valid_cat _ _ hv, valid_low 34 _ (by decide)]; rfl
  · exact hv
theorem fm_valid (vs0 : List (List UInt8)) (h : ∀ v ∈ vs0, clE true v = 0) (r : List UInt8) : validD (vs0.flatMap (fun x => 44 :: pq x) ++ r) = validD r := by
  induction vs0 with
  | nil => rfl
  | cons v vs0 ih =>
    rw [List.flatMap_cons, List.cons_append, List.cons_append, valid_low 44 _ (by decide), List.append_assoc, valid_cat _ _ (pq_valid v (h v (by simp)))]
    exact ih (fun x hx => h x (by simp [hx]))
theorem prP_valid (p : Par) (h : parB p = true) (r : List UInt8) : validD (prP p ++ r) = validD r := by
  obtain ⟨h1, h2, h3, h4⟩ := (parB_iff p).1 h
  unfold prP
  rw [List.cons_append, valid_low 59 _ (by decide), List.append_assoc, valid_asc _ _ (name_low h1), List.cons_append, valid_low 61 _ (by decide)]
  obtain ⟨n, vs0⟩ := p
  rcases vs0 with _ | ⟨v, vs0⟩
  · rfl
  · simp only [prV]
    rw [List.append_assoc, valid_cat _ _ (pq_valid v (h4 v (by simp)))]
    exact fm_valid vs0 (fun x hx => h4 x (by simp [hx])) r
theorem prPs_valid (ps0 : List Par) (h : ∀ p ∈ ps0, parB p = true) (r : List UInt8) : validD (ps0.flatMap prP ++ r) = validD r := by
  induction ps0 with
  | nil => rfl
  | cons p ps0 ih =>
    rw [List.flatMap_cons, List.append_assoc, prP_valid p (h p (by simp))]
    exact ih (fun x hx => h x (by simp [hx]))
/- what is written is read as the same -/
theorem rp_pr (l : Li) (h : formed l = true) (hl : (pr l).length ≤ 2000) : rp (pr l) = some l := by
  obtain ⟨h1, h2, h3, h4⟩ := (formed_iff l).1 h
  obtain ⟨n1, n2, n3⟩ := (nameB_iff l.name).1 h1
  have hv : validD (pr l) = true := by
    unfold pr
    rw [valid_asc _ _ (name_low h1), prPs_valid _ ((psB_iff _).1 h4).1, valid_low 58 _ (by decide)]
    exact (clE_zero h3).1
  have hnm : nm 60 (pr l) = (l.name, l.ps.flatMap prP ++ 58 :: l.value) := by
    have key : ∀ d t, l.ps.flatMap prP ++ 58 :: l.value = d :: t → inN (up d) = false := by
      intro d t e
      rcases hp : l.ps with _ | ⟨q, ps0⟩
      · rw [hp] at e; simp at e; rw [← e.1]; decide
      · rw [hp] at e; simp [prP] at e; rw [← e.1]; decide
    unfold pr
    rcases hx : l.ps.flatMap prP ++ 58 :: l.value with _ | ⟨d, t⟩
    · have := congrArg List.length hx
      simp at this
    · exact nm_back l.name 60 d t n2 n3 (key d t hx)
  have hps := ps_back l.ps [] l.value (by simpa using h4) (by simpa using h2)
  unfold rp
  rw [if_neg (by omega), if_neg (by simp [hv]), hnm, if_neg (List.length_pos_iff.1 n1)]
  simp only
  rw [hps]
  simp [h3]
end Ln
end Go.Proofs.YtpcmhaflmpcicaaDoor
