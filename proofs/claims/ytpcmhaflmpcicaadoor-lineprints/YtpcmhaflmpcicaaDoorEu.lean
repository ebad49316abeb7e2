/- Plain mathematics of UTF-8 texts, code point by code point: no model in it. -/
import Derived.Test.YtpcmhaflmpcicaaDoorRefNx
namespace Go.Proofs.YtpcmhaflmpcicaaDoor
namespace Fd
open Go.Lib

theorem get_list (l : List UInt8) (k : Nat) : (ByteArray.mk l.toArray).get! k = l.getD k 0 := by
  show l.toArray[k]! = _
  rw [getElem!_def]
  simp only [List.getElem?_toArray, List.getD_eq_getElem?_getD]
  cases l[k]? <;> rfl
theorem nx_list (l : List UInt8) : nx l = nxN l.length (l.getD 0 0).toNat (l.getD 1 0).toNat (l.getD 2 0).toNat (l.getD 3 0).toNat := by
  have h := nx_at ⟨l.toArray⟩ 0
  have hz : (ByteArray.mk l.toArray).size = l.length := by simp [ByteArray.size]
  rw [get_list, get_list, get_list, get_list, hz] at h
  simpa using h
theorem nx_low (b : UInt8) (l : List UInt8) (h : b.toNat < 128) : nx (b :: l) = 1 := by rw [nx_list, nxN_1]; exact h
theorem b256 (b : UInt8) : b.toNat < 256 := UInt8.toNat_lt b
theorem valid_low (b : UInt8) (l : List UInt8) (h : b.toNat < 128) : validD (b :: l) = validD l := by
  rw [valid_step _ (by simp), nx_low b l h]; simp

/- what the head of a text is: its first bytes alone decide -/
theorem nx_head (b0 : UInt8) (l : List UInt8) (h : 128 ≤ b0.toNat) (h0 : nx (b0 :: l) ≠ 0) :
    ∃ p r, l = p ++ r ∧ nx (b0 :: l) = p.length + 1 ∧ (∀ b ∈ p, 128 ≤ b.toNat) ∧ p ≠ [] ∧ ∀ r', nx (b0 :: (p ++ r')) = p.length + 1 := by
  have hc : ((128 ≤ b0.toNat ∧ b0.toNat < 194) ∨ (245 ≤ b0.toNat ∧ b0.toNat < 256)) ∨ (194 ≤ b0.toNat ∧ b0.toNat < 224) ∨ (224 ≤ b0.toNat ∧ b0.toNat < 240) ∨ (240 ≤ b0.toNat ∧ b0.toNat < 245) := by have := b256 b0; omega
  have e := nx_list (b0 :: l)
  simp only [List.getD_cons_zero, List.length_cons] at e
  rcases hc with hc | hc | hc | hc
  · rw [nxN_0 _ _ _ _ _ hc] at e; exact absurd e h0
  · rw [nxN_2 _ _ _ _ _ hc (b256 _)] at e
    split at e
    · rename_i c
      rcases l with _ | ⟨b1, r⟩
      · simp at c
      · refine ⟨[b1], r, rfl, e, ?_, by simp, fun r' => ?_⟩
        · have := c.2
          simp [co] at this
          simp; omega
        · rw [nx_list]
          simp only [List.getD_cons_zero, List.length_cons, List.cons_append, List.nil_append]
          rw [nxN_2 _ _ _ _ _ hc (b256 _), if_pos]
          · simp
          · refine ⟨by omega, ?_⟩
            simpa using c.2
    · exact absurd e h0
  · rw [nxN_3 _ _ _ _ _ hc (b256 _) (b256 _)] at e
    split at e
    · rename_i c
      rcases l with _ | ⟨b1, _ | ⟨b2, r⟩⟩
      · simp at c
      · simp at c
      · refine ⟨[b1, b2], r, rfl, e, ?_, by simp, fun r' => ?_⟩
        · have h1 := c.2.1
          have h2 := c.2.2.1
          simp [co] at h1 h2
          simp; omega
        · rw [nx_list]
          simp only [List.getD_cons_zero, List.length_cons, List.cons_append, List.nil_append]
          rw [nxN_3 _ _ _ _ _ hc (b256 _) (b256 _), if_pos]
          · simp
          · refine ⟨by omega, ?_⟩
            simpa using c.2
    · exact absurd e h0
  · rw [nxN_4 _ _ _ _ _ hc (b256 _) (b256 _) (b256 _)] at e
    split at e
    · rename_i c
      rcases l with _ | ⟨b1, _ | ⟨b2, _ | ⟨b3, r⟩⟩⟩
      · simp at c
      · simp at c
      · simp at c
      · refine ⟨[b1, b2, b3], r, rfl, e, ?_, by simp, fun r' => ?_⟩
        · have h1 := c.2.1
          have h2 := c.2.2.1
          have h3 := c.2.2.2.1
          simp [co] at h1 h2 h3
          simp; omega
        · rw [nx_list]
          simp only [List.getD_cons_zero, List.length_cons, List.cons_append, List.nil_append]
          rw [nxN_4 _ _ _ _ _ hc (b256 _) (b256 _) (b256 _), if_pos]
          · simp
          · refine ⟨by omega, ?_⟩
            simpa using c.2
    · exact absurd e h0
/- a text of UTF-8, step by step: nothing, a byte of ASCII ahead of one, or bytes beyond ASCII ahead of one -/
theorem valid_cases (l : List UInt8) (h : validD l = true) :
    l = [] ∨ (∃ b r, l = b :: r ∧ b.toNat < 128 ∧ validD r = true) ∨ (∃ p r, l = p ++ r ∧ p ≠ [] ∧ (∀ b ∈ p, 128 ≤ b.toNat) ∧ validD r = true ∧ ∀ r', validD (p ++ r') = validD r') := by
  rcases l with _ | ⟨b, l⟩
  · exact .inl rfl
  · right
    by_cases hb : b.toNat < 128
    · exact .inl ⟨b, l, rfl, hb, by rwa [valid_low b l hb] at h⟩
    · right
      have hs := valid_step (b :: l) (by simp)
      rw [h] at hs
      have h0 : nx (b :: l) ≠ 0 := by intro e; rw [if_pos e] at hs; cases hs
      obtain ⟨p, r, rfl, e, hp, hpn, hall⟩ := nx_head b l (by omega) h0
      rw [if_neg h0, e, show p.length + 1 = (b :: p).length from rfl, ← List.cons_append, List.drop_left] at hs
      refine ⟨b :: p, r, rfl, by simp, ?_, hs.symm, fun r' => ?_⟩
      · intro x hx
        rcases List.mem_cons.1 hx with rfl | hx
        · omega
        · exact hp x hx
      · rw [valid_step _ (by simp)]
        simp only [List.cons_append]
        rw [hall r', if_neg (by omega), show p.length + 1 = (b :: p).length from rfl, ← List.cons_append, List.drop_left]
theorem valid_asc (a r : List UInt8) (h : ∀ b ∈ a, b.toNat < 128) : validD (a ++ r) = validD r := by
  induction a with
  | nil => rfl
  | cons b a ih =>
    rw [List.cons_append, valid_low b _ (h b (by simp))]
    exact ih (fun x hx => h x (by simp [hx]))
theorem valid_cat (a b : List UInt8) (ha : validD a = true) : validD (a ++ b) = validD b := by
  generalize hn : a.length = n
  induction n using Nat.strongRecOn generalizing a with
  | _ n ih =>
    rcases valid_cases a ha with rfl | ⟨x, r, rfl, hx, hr⟩ | ⟨p, r, rfl, hp, _, hr, hall⟩
    · rfl
    · rw [List.cons_append, valid_low x _ hx]
      exact ih r.length (by simp at hn; omega) r hr rfl
    · rw [List.append_assoc, hall]
      have := List.length_pos_iff.2 hp
      exact ih r.length (by simp at hn; omega) r hr rfl
theorem valid_split (a b : List UInt8) (c : UInt8) (hc : c.toNat < 128) (h : validD (a ++ c :: b) = true) : validD a = true ∧ validD b = true := by
  generalize hn : a.length = n
  induction n using Nat.strongRecOn generalizing a with
  | _ n ih =>
    rcases a with _ | ⟨x, a⟩
    · rw [List.nil_append, valid_low c b hc] at h
      exact ⟨valid_nil, h⟩
    · rcases valid_cases _ h with h0 | ⟨y, r, e, hy, hr⟩ | ⟨p, r, e, hp, hp2, hr, hall⟩
      · cases h0
      · rw [List.cons_append] at e
        injection e with e1 e2
        subst e1 e2
        obtain ⟨i1, i2⟩ := ih a.length (by simp at hn; omega) a hr rfl
        exact ⟨by rw [valid_low x a hy]; exact i1, i2⟩
      · rcases List.append_eq_append_iff.1 e with ⟨q, e1, e2⟩ | ⟨q, e1, e2⟩
        · rcases q with _ | ⟨y, q⟩
          · rw [List.append_nil] at e1
            rw [List.nil_append] at e2
            subst e1
            rw [← e2, valid_low c b hc] at hr
            refine ⟨?_, hr⟩
            have := hall []
            rw [List.append_nil] at this
            rw [this]; exact valid_nil
          · rw [List.cons_append] at e2
            injection e2 with e3 _
            have := hp2 y (by rw [e1]; simp)
            rw [← e3] at this
            omega
        · rw [e1]
          rw [e2] at hr
          have hl := congrArg List.length e1
          rw [List.length_append] at hl
          have := List.length_pos_iff.2 hp
          obtain ⟨i1, i2⟩ := ih q.length (by rw [← hn]; omega) q hr rfl
          exact ⟨by rw [hall]; exact i1, i2⟩
/- bytes of ASCII turned into bytes of ASCII -/
theorem valid_map (f : UInt8 → List UInt8) (h1 : ∀ b, 128 ≤ b.toNat → f b = [b]) (h2 : ∀ b, b.toNat < 128 → ∀ x ∈ f b, x.toNat < 128) (l : List UInt8) (h : validD l = true) : validD (l.flatMap f) = true := by
  generalize hn : l.length = n
  induction n using Nat.strongRecOn generalizing l with
  | _ n ih =>
    rcases valid_cases l h with rfl | ⟨x, r, rfl, hx, hr⟩ | ⟨p, r, rfl, hp, hp2, hr, hall⟩
    · rfl
    · rw [List.flatMap_cons, valid_asc _ _ (h2 x hx)]
      exact ih r.length (by simp at hn; omega) r hr rfl
    · have e : p.flatMap f = p := by
        clear hall hn hp h
        induction p with
        | nil => rfl
        | cons y p ih2 =>
          rw [List.flatMap_cons, h1 y (hp2 y (by simp)), ih2 (fun b hb => hp2 b (by simp [hb]))]
          rfl
      rw [List.flatMap_append, e, hall]
      have := List.length_pos_iff.2 hp
      exact ih r.length (by simp at hn; omega) r hr rfl
end Fd
end Go.Proofs.YtpcmhaflmpcicaaDoor
