/- The text of a rule, part by part: plain mathematics (written by mkrpm.py). -/
import Derived.Test.YtmbmkldcedkbmaaGreatZD
import Derived.Lib.Join
namespace Go.Proofs.YtmbmkldcedkbmaaGreat
namespace Rm
open Txt Va

theorem join_eq (c : UInt8) : ∀ ls : List (List UInt8), Lib.join ls [c] = joinB c ls
  | [] => rfl
  | [x] => Lib.join_one x [c]
  | x :: y :: t => by
    rw [Lib.join_cons, joinB, ← join_eq c (y :: t), Lib.join_cons]
    simp [Lib.joinTail]
theorem joinB_app (c : UInt8) (x : List UInt8) : ∀ ls : List (List UInt8), ls ≠ [] → joinB c (ls ++ [x]) = joinB c ls ++ c :: x
  | [], h => absurd rfl h
  | [y], _ => rfl
  | y :: z :: t, _ => by
    have := joinB_app c x (z :: t) (by simp)
    rw [List.cons_append] at this
    rw [List.cons_append, List.cons_append, joinB, this, joinB]
    simp
theorem joinB_ne {c : UInt8} {ls : List (List UInt8)} (h : ls ≠ []) (hx : ∀ x ∈ ls, x ≠ []) : joinB c ls ≠ [] := by
  match ls, h with
  | [x], _ => exact hx x (by simp)
  | x :: y :: t, _ =>
    rw [joinB]
    simp
theorem joinB_len {c : UInt8} {k : Nat} : ∀ ls : List (List UInt8), (∀ x ∈ ls, x.length ≤ k) → (joinB c ls).length ≤ ls.length * (k + 1)
  | [], _ => by simp [joinB]
  | [x], h => by
    have := h x (by simp)
    rw [joinB]
    simp; omega
  | x :: y :: t, h => by
    have h1 := h x (by simp)
    have h2 := joinB_len (c := c) (y :: t) (fun z hz => h z (by simp [List.mem_cons.1 hz]))
    rw [joinB, List.length_append, List.length_cons, List.length_cons, Nat.succ_mul]
    omega
theorem nt_len {n : Int} (h0 : -9999 ≤ n) (h1 : n ≤ 9999) : (nt n).length ≤ 5 := by
  unfold nt
  split
  · have := (num_iff.1 (de_num4 (n := -n) (by omega) (by omega)).1).2.1
    rw [List.length_cons]; omega
  · have := (num_iff.1 (de_num4 (n := n) (by omega) (by omega)).1).2.1
    omega
theorem nt_de {n : Int} (h : 0 ≤ n) : nt n = de n := by
  unfold nt
  rw [if_neg (by omega)]
theorem dt_ne {p : Int × Int} (h : mayD p = true) : dt p ≠ [] := by
  obtain ⟨h0, h1, _, _⟩ := mayD_iff.1 h
  intro e
  have := congrArg List.length e
  unfold dt at this
  rw [List.length_append, wd_len h0 h1] at this
  simp at this
theorem dt_len {p : Int × Int} (h : mayD p = true) : (dt p).length ≤ 7 := by
  obtain ⟨h0, h1, h2, h3⟩ := mayD_iff.1 h
  have := nt_len (n := p.1) (by omega) (by omega)
  unfold dt
  rw [List.length_append, wd_len h0 h1]
  split
  · simp
  · omega
theorem lt_ne {i : Nat} {l : List Int} (h : fine i l = true) (hl : l ≠ []) : lt l ≠ [] := by
  obtain ⟨_, h1, _⟩ := fine_iff.1 h
  refine joinB_ne (by simpa using hl) (fun x hx => ?_)
  obtain ⟨n, hn, rfl⟩ := List.mem_map.1 hx
  have := may_bd (h1 n hn)
  exact nt_ne this.1 this.2
theorem lt_len {i : Nat} {l : List Int} (h : fine i l = true) : (lt l).length ≤ 240 := by
  obtain ⟨h0, h1, _⟩ := fine_iff.1 h
  have := joinB_len (c := 44) (k := 5) (l.map nt) (fun x hx => by
    obtain ⟨n, hn, rfl⟩ := List.mem_map.1 hx
    have := may_bd (h1 n hn)
    exact nt_len this.1 this.2)
  rw [List.length_map] at this
  unfold lt
  omega
theorem ldt_ne {l : List (Int × Int)} (h : fineD l = true) (hl : l ≠ []) : ldt l ≠ [] := by
  obtain ⟨_, h1, _⟩ := fineD_iff.1 h
  refine joinB_ne (by simpa using hl) (fun x hx => ?_)
  obtain ⟨n, hn, rfl⟩ := List.mem_map.1 hx
  exact dt_ne (h1 n hn)
theorem ldt_len {l : List (Int × Int)} (h : fineD l = true) : (ldt l).length ≤ 320 := by
  obtain ⟨h0, h1, _⟩ := fineD_iff.1 h
  have := joinB_len (c := 44) (k := 7) (l.map dt) (fun x hx => by
    obtain ⟨n, hn, rfl⟩ := List.mem_map.1 hx
    exact dt_len (h1 n hn))
  rw [List.length_map] at this
  unfold ldt
  omega
theorem txt_ne (k a : Int) : txt k a ≠ [] := by
  intro e
  have := congrArg List.length e
  unfold txt at this
  split at this
  · rw [Clk.dateTxt_length] at this; cases this
  · split at this
    · rw [List.length_append, Clk.sec_length] at this; simp at this
    · rw [Clk.sec_length] at this; cases this
theorem txt_len (k a : Int) : (txt k a).length ≤ 16 := by
  unfold txt
  split
  · rw [Clk.dateTxt_length]; omega
  · split
    · rw [List.length_append, Clk.sec_length]; simp
    · rw [Clk.sec_length]; omega
theorem freqT_ne (i : Int) : freqT i ≠ [] := by
  unfold freqT
  split
  · simp
  · split
    · simp
    · split <;> simp
theorem freqT_len (i : Int) : (freqT i).length ≤ 7 := by
  unfold freqT
  split
  · simp
  · split
    · simp
    · split <;> simp

/- the value of the k-th part; empty: it is left out -/
def tx (r : Ru) : Nat → List UInt8
  | 0 => freqT r.freq
  | 1 => if r.ivl = 1 then [] else nt r.ivl
  | 2 => if r.cnt = 0 then [] else nt r.cnt
  | 3 => if r.has = false then [] else txt r.uk r.ua
  | 4 => lt r.sec
  | 5 => lt r.min
  | 6 => lt r.hour
  | 7 => ldt r.day
  | 8 => lt r.mday
  | 9 => lt r.yday
  | 10 => lt r.week
  | 11 => lt r.month
  | 12 => lt r.pos
  | _ => if r.st = 1 then [] else wd r.st
def nmN : Nat → List UInt8
  | 0 => nFREQ
  | 1 => nINTERVAL
  | 2 => nCOUNT
  | 3 => nUNTIL
  | 4 => nBYSECOND
  | 5 => nBYMINUTE
  | 6 => nBYHOUR
  | 7 => nBYDAY
  | 8 => nBYMONTHDAY
  | 9 => nBYYEARDAY
  | 10 => nBYWEEKNO
  | 11 => nBYMONTH
  | 12 => nBYSETPOS
  | _ => nWKST
def one (n t : List UInt8) : List (List UInt8 × List UInt8) := if t = [] then [] else [(n, t)]
def upto (r : Ru) : Nat → List (List UInt8 × List UInt8)
  | 0 => []
  | k + 1 => upto r k ++ one (nmN k) (tx r k)
theorem nmN_at : ∀ k, k < 14 → names[k]? = some (nmN k) := by decide
theorem nmN_len : ∀ k, k < 14 → (nmN k).length ≤ 10 := by decide
theorem oFREQ (r : Ru) : pFREQ r = one nFREQ (freqT r.freq) := by
  unfold pFREQ one
  rw [if_neg (freqT_ne _)]
theorem oINTERVAL (r : Ru) (h0 : 1 ≤ r.ivl) (h1 : r.ivl ≤ 1000) : pINTERVAL r = one nINTERVAL (if r.ivl = 1 then [] else nt r.ivl) := by
  unfold pINTERVAL one
  by_cases e : r.ivl = 1
  · simp [e]
  · rw [if_neg e, if_neg e, if_neg (nt_ne (by omega) (by omega)), nt_de (by omega)]
theorem oCOUNT (r : Ru) (h0 : 0 ≤ r.cnt) (h1 : r.cnt ≤ 1000) : pCOUNT r = one nCOUNT (if r.cnt = 0 then [] else nt r.cnt) := by
  unfold pCOUNT one
  by_cases e : r.cnt = 0
  · simp [e]
  · rw [if_neg e, if_neg e, if_neg (nt_ne (by omega) (by omega)), nt_de (by omega)]
theorem oUNTIL (r : Ru) : pUNTIL r = one nUNTIL (if r.has = false then [] else txt r.uk r.ua) := by
  unfold pUNTIL one
  by_cases e : r.has = false
  · simp [e]
  · rw [if_neg e, if_neg e, if_neg (txt_ne _ _)]
theorem oWKST (r : Ru) (h0 : 0 ≤ r.st) (h1 : r.st ≤ 6) : pWKST r = one nWKST (if r.st = 1 then [] else wd r.st) := by
  unfold pWKST one
  by_cases e : r.st = 1
  · simp [e]
  · rw [if_neg e, if_neg e, if_neg (fun h => by have := wd_len h0 h1; rw [h] at this; cases this)]
theorem oBYSECOND (r : Ru) (h : fine 0 r.sec = true) : pBYSECOND r = one nBYSECOND (lt r.sec) := by
  unfold pBYSECOND one
  by_cases e : r.sec = []
  · rw [if_pos e, e]; rfl
  · rw [if_neg e, if_neg (lt_ne h e)]
theorem oBYMINUTE (r : Ru) (h : fine 1 r.min = true) : pBYMINUTE r = one nBYMINUTE (lt r.min) := by
  unfold pBYMINUTE one
  by_cases e : r.min = []
  · rw [if_pos e, e]; rfl
  · rw [if_neg e, if_neg (lt_ne h e)]
theorem oBYHOUR (r : Ru) (h : fine 2 r.hour = true) : pBYHOUR r = one nBYHOUR (lt r.hour) := by
  unfold pBYHOUR one
  by_cases e : r.hour = []
  · rw [if_pos e, e]; rfl
  · rw [if_neg e, if_neg (lt_ne h e)]
theorem oBYDAY (r : Ru) (h : fineD r.day = true) : pBYDAY r = one nBYDAY (ldt r.day) := by
  unfold pBYDAY one
  by_cases e : r.day = []
  · rw [if_pos e, e]; rfl
  · rw [if_neg e, if_neg (ldt_ne h e)]
theorem oBYMONTHDAY (r : Ru) (h : fine 3 r.mday = true) : pBYMONTHDAY r = one nBYMONTHDAY (lt r.mday) := by
  unfold pBYMONTHDAY one
  by_cases e : r.mday = []
  · rw [if_pos e, e]; rfl
  · rw [if_neg e, if_neg (lt_ne h e)]
theorem oBYYEARDAY (r : Ru) (h : fine 4 r.yday = true) : pBYYEARDAY r = one nBYYEARDAY (lt r.yday) := by
  unfold pBYYEARDAY one
  by_cases e : r.yday = []
  · rw [if_pos e, e]; rfl
  · rw [if_neg e, if_neg (lt_ne h e)]
theorem oBYWEEKNO (r : Ru) (h : fine 5 r.week = true) : pBYWEEKNO r = one nBYWEEKNO (lt r.week) := by
  unfold pBYWEEKNO one
  by_cases e : r.week = []
  · rw [if_pos e, e]; rfl
  · rw [if_neg e, if_neg (lt_ne h e)]
theorem oBYMONTH (r : Ru) (h : fine 6 r.month = true) : pBYMONTH r = one nBYMONTH (lt r.month) := by
  unfold pBYMONTH one
  by_cases e : r.month = []
  · rw [if_pos e, e]; rfl
  · rw [if_neg e, if_neg (lt_ne h e)]
theorem oBYSETPOS (r : Ru) (h : fine 7 r.pos = true) : pBYSETPOS r = one nBYSETPOS (lt r.pos) := by
  unfold pBYSETPOS one
  by_cases e : r.pos = []
  · rw [if_pos e, e]; rfl
  · rw [if_neg e, if_neg (lt_ne h e)]
/- what holds of a formed rule's fields -/
theorem fm_all {r : Ru} (h : fm r = true) : (1 ≤ r.freq ∧ r.freq ≤ 4) ∧ (1 ≤ r.ivl ∧ r.ivl ≤ 1000) ∧ (0 ≤ r.cnt ∧ r.cnt ≤ 1000) ∧ (0 ≤ r.st ∧ r.st ≤ 6) ∧ fmU r = true ∧ fine 0 r.sec = true ∧ fine 1 r.min = true ∧ fine 2 r.hour = true ∧ fineD r.day = true ∧ fine 3 r.mday = true ∧ fine 4 r.yday = true ∧ fine 5 r.week = true ∧ fine 6 r.month = true ∧ fine 7 r.pos = true := by
  unfold fm at h
  simp only [Bool.and_eq_true] at h
  obtain ⟨⟨⟨h1, hU⟩, hL⟩, _⟩ := h
  unfold fm1 at h1
  simp only [Bool.and_eq_true, decide_eq_true_eq] at h1
  obtain ⟨⟨⟨⟨⟨⟨⟨a1, a2⟩, b1⟩, b2⟩, c1⟩, c2⟩, d1⟩, d2⟩ := h1
  unfold fmL at hL
  simp only [Bool.and_eq_true] at hL
  obtain ⟨⟨⟨⟨⟨⟨⟨⟨l0, l1⟩, l2⟩, lD⟩, l3⟩, l4⟩, l5⟩, l6⟩, l7⟩ := hL
  exact ⟨⟨a1, a2⟩, ⟨b1, b2⟩, ⟨c1, c2⟩, ⟨d1, d2⟩, hU, l0, l1, l2, lD, l3, l4, l5, l6, l7⟩
theorem upto_parts {r : Ru} (h : fm r = true) : upto r 14 = parts r := by
  obtain ⟨_, ⟨b1, b2⟩, ⟨c1, c2⟩, ⟨d1, d2⟩, _, l0, l1, l2, lD, l3, l4, l5, l6, l7⟩ := fm_all h
  unfold parts
  rw [oFREQ, oINTERVAL r b1 b2, oCOUNT r c1 c2, oUNTIL, oBYSECOND r l0, oBYMINUTE r l1, oBYHOUR r l2, oBYDAY r lD, oBYMONTHDAY r l3, oBYYEARDAY r l4, oBYWEEKNO r l5, oBYMONTH r l6, oBYSETPOS r l7, oWKST r d1 d2]
  simp only [upto, List.nil_append, List.append_assoc]
  rfl
theorem tx_len {r : Ru} (h : fm r = true) : ∀ k, k < 14 → (tx r k).length ≤ 320 := by
  obtain ⟨_, ⟨b1, b2⟩, ⟨c1, c2⟩, ⟨d1, d2⟩, _, l0, l1, l2, lD, l3, l4, l5, l6, l7⟩ := fm_all h
  intro k hk
  rcases (show k = 0 ∨ k = 1 ∨ k = 2 ∨ k = 3 ∨ k = 4 ∨ k = 5 ∨ k = 6 ∨ k = 7 ∨ k = 8 ∨ k = 9 ∨ k = 10 ∨ k = 11 ∨ k = 12 ∨ k = 13 by omega) with rfl | rfl | rfl | rfl | rfl | rfl | rfl | rfl | rfl | rfl | rfl | rfl | rfl | rfl
  · have := freqT_len r.freq
    show (freqT r.freq).length ≤ 320
    omega
  · show (if r.ivl = 1 then [] else nt r.ivl).length ≤ 320
    split
    · simp
    · have := nt_len (n := r.ivl) (by omega) (by omega)
      omega
  · show (if r.cnt = 0 then [] else nt r.cnt).length ≤ 320
    split
    · simp
    · have := nt_len (n := r.cnt) (by omega) (by omega)
      omega
  · show (if r.has = false then [] else txt r.uk r.ua).length ≤ 320
    split
    · simp
    · have := txt_len r.uk r.ua
      omega
  · exact Nat.le_trans (lt_len l0) (by decide)
  · exact Nat.le_trans (lt_len l1) (by decide)
  · exact Nat.le_trans (lt_len l2) (by decide)
  · exact Nat.le_trans (ldt_len lD) (by decide)
  · exact Nat.le_trans (lt_len l3) (by decide)
  · exact Nat.le_trans (lt_len l4) (by decide)
  · exact Nat.le_trans (lt_len l5) (by decide)
  · exact Nat.le_trans (lt_len l6) (by decide)
  · exact Nat.le_trans (lt_len l7) (by decide)
  · show (if r.st = 1 then [] else wd r.st).length ≤ 320
    split
    · simp
    · rw [wd_len d1 d2]; omega
theorem upto_ne (r : Ru) : ∀ k, upto r (k + 1) ≠ []
  | 0 => by
    show [] ++ one nFREQ (freqT r.freq) ≠ []
    unfold one
    rw [if_neg (freqT_ne _)]
    simp
  | k + 1 => by
    have := upto_ne r k
    rw [upto]
    simp [this]
theorem upto_len (r : Ru) : ∀ k, (upto r k).length ≤ k
  | 0 => Nat.le_refl _
  | k + 1 => by
    have := upto_len r k
    rw [upto, List.length_append]
    unfold one
    split <;> simp <;> omega
theorem upto_mem {r : Ru} : ∀ k, k ≤ 14 → ∀ p ∈ upto r k, ∃ i, i < 14 ∧ p = (nmN i, tx r i)
  | 0, _, p, hp => by cases hp
  | k + 1, hk, p, hp => by
    rw [upto, List.mem_append] at hp
    rcases hp with hp | hp
    · exact upto_mem k (by omega) p hp
    · unfold one at hp
      split at hp
      · cases hp
      · exact ⟨k, by omega, List.mem_singleton.1 hp⟩
theorem partT_len {r : Ru} (h : fm r = true) {k : Nat} (hk : k < 14) : (partT (nmN k, tx r k)).length ≤ 331 := by
  have h1 := tx_len h k hk
  have h2 := nmN_len k hk
  unfold partT
  rw [List.length_append, List.length_cons]
  show (nmN k).length + ((tx r k).length + 1) ≤ 331
  omega
/- the text up to the k-th part -/
def rs (r : Ru) (k : Nat) : List UInt8 := joinB 59 ((upto r (k + 1)).map partT)
theorem rs_zero (r : Ru) : rs r 0 = nFREQ ++ 61 :: freqT r.freq := by
  have e : upto r 1 = [(nFREQ, freqT r.freq)] := by
    show [] ++ one nFREQ (freqT r.freq) = _
    unfold one
    rw [if_neg (freqT_ne _)]
    rfl
  unfold rs
  rw [e]
  rfl
theorem rs_skip {r : Ru} {k : Nat} (h : tx r (k + 1) = []) : rs r (k + 1) = rs r k := by
  unfold rs
  rw [upto, h]
  simp [one]
theorem rs_step {r : Ru} {k : Nat} (h : tx r (k + 1) ≠ []) : rs r (k + 1) = rs r k ++ 59 :: (nmN (k + 1) ++ 61 :: tx r (k + 1)) := by
  unfold rs
  rw [show upto r (k + 1 + 1) = upto r (k + 1) ++ one (nmN (k + 1)) (tx r (k + 1)) from rfl]
  unfold one
  rw [if_neg h, List.map_append, List.map_singleton, joinB_app 59 _ _ (by simpa using upto_ne r k)]
  rfl
theorem rs_ru {r : Ru} (h : fm r = true) : rs r 13 = ru r := by
  unfold rs ru
  rw [upto_parts h]
theorem rs_len {r : Ru} (h : fm r = true) {k : Nat} (hk : k < 14) : (rs r k).length ≤ 4648 := by
  have h1 := upto_len r (k + 1)
  have h2 := joinB_len (c := 59) (k := 331) ((upto r (k + 1)).map partT) (fun x hx => by
    obtain ⟨p, hp, rfl⟩ := List.mem_map.1 hx
    obtain ⟨i, hi, rfl⟩ := upto_mem (k + 1) (by omega) p hp
    exact partT_len h hi)
  rw [List.length_map] at h2
  have h3 : (upto r (k + 1)).length * (331 + 1) ≤ 14 * (331 + 1) := Nat.mul_le_mul_right _ (by omega)
  unfold rs
  omega
end Rm
end Go.Proofs.YtmbmkldcedkbmaaGreat
