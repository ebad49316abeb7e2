/- The texts Ro, Rp, Rq, Rs, one behind the other. -/
import Derived.Test.YtmbmkldcedkbmaaGreatZA
import Derived.Test.YtmbmkldcedkbmaaGreatZC
namespace Go.Proofs.YtmbmkldcedkbmaaGreat
namespace Rm
open Txt Va

structure Ru where
  freq : Int
  ivl : Int
  cnt : Int
  uk : Int
  ua : Int
  uz : List UInt8
  has : Bool
  st : Int
  sec : List Int
  min : List Int
  hour : List Int
  day : List (Int × Int)
  mday : List Int
  yday : List Int
  week : List Int
  month : List Int
  pos : List Int
def may (i : Nat) (n : Int) : Bool :=
  if i = 0 ∨ i = 1 then decide (0 ≤ n) && decide (n ≤ 59) else if i = 2 then decide (0 ≤ n) && decide (n ≤ 23) else if i = 3 then n != 0 && decide (-31 ≤ n) && decide (n ≤ 31)
  else if i = 5 then n != 0 && decide (-53 ≤ n) && decide (n ≤ 53) else if i = 6 then decide (1 ≤ n) && decide (n ≤ 12) else n != 0 && decide (-366 ≤ n) && decide (n ≤ 366)
theorem may_bd {i : Nat} {n : Int} (h : may i n = true) : -9999 ≤ n ∧ n ≤ 9999 := by
  unfold may at h
  split at h
  · simp at h; omega
  · split at h
    · simp at h; omega
    · split at h
      · simp at h; omega
      · split at h
        · simp at h; omega
        · split at h
          · simp at h; omega
          · simp at h; omega
def fine (i : Nat) (l : List Int) : Bool := decide (l.length ≤ 40) && l.all (may i) && rise l
theorem fine_iff {i : Nat} {l : List Int} : fine i l = true ↔ l.length ≤ 40 ∧ (∀ n ∈ l, may i n = true) ∧ rise l = true := by
  unfold fine
  rw [Bool.and_eq_true, Bool.and_eq_true, decide_eq_true_eq, List.all_eq_true, and_assoc]
def fineD (l : List (Int × Int)) : Bool := decide (l.length ≤ 40) && l.all mayD && riseD l
theorem fineD_iff {l : List (Int × Int)} : fineD l = true ↔ l.length ≤ 40 ∧ (∀ n ∈ l, mayD n = true) ∧ riseD l = true := by
  unfold fineD
  rw [Bool.and_eq_true, Bool.and_eq_true, decide_eq_true_eq, List.all_eq_true, and_assoc]
/- the fields, each by itself -/
def fm1 (r : Ru) : Bool := decide (1 ≤ r.freq) && decide (r.freq ≤ 4) && decide (1 ≤ r.ivl) && decide (r.ivl ≤ 1000) && decide (0 ≤ r.cnt) && decide (r.cnt ≤ 1000) && decide (0 ≤ r.st) && decide (r.st ≤ 6)
def fmU (r : Ru) : Bool := if r.has = true then decide (r.cnt = 0) && rt r.uk r.ua r.uz && r.uk != 3 else decide (r.uk = 0) && decide (r.ua = 0) && r.uz.isEmpty
def fmL (r : Ru) : Bool := fine 0 r.sec && fine 1 r.min && fine 2 r.hour && fineD r.day && fine 3 r.mday && fine 4 r.yday && fine 5 r.week && fine 6 r.month && fine 7 r.pos
/- the fields together -/
def fmX (r : Ru) : Bool :=
  (r.freq == 4 || (r.yday.isEmpty && r.week.isEmpty)) && (r.freq != 2 || r.mday.isEmpty) &&
  (r.pos.isEmpty || !(r.sec.isEmpty && r.min.isEmpty && r.hour.isEmpty && r.day.isEmpty && r.mday.isEmpty && r.yday.isEmpty && r.week.isEmpty && r.month.isEmpty)) &&
  (r.day.all (fun p => p.1 == 0) || r.freq == 3 || (r.freq == 4 && r.week.isEmpty))
def fm (r : Ru) : Bool := fm1 r && fmU r && fmL r && fmX r

def freqT (i : Int) : List UInt8 := if i = 1 then [68, 65, 73, 76, 89] else if i = 2 then [87, 69, 69, 75, 76, 89] else if i = 3 then [77, 79, 78, 84, 72, 76, 89] else [89, 69, 65, 82, 76, 89]
def freqR (l : List UInt8) : Option Int := if l = [68, 65, 73, 76, 89] then some 1 else if l = [87, 69, 69, 75, 76, 89] then some 2 else if l = [77, 79, 78, 84, 72, 76, 89] then some 3 else if l = [89, 69, 65, 82, 76, 89] then some 4 else none
theorem freqR_T {i : Int} (h0 : 1 ≤ i) (h1 : i ≤ 4) : freqR (freqT i) = some i := by
  have : i = 1 ∨ i = 2 ∨ i = 3 ∨ i = 4 := by omega
  rcases this with rfl | rfl | rfl | rfl <;> decide
theorem freqT_big (i : Int) : ∀ b ∈ freqT i, 65 ≤ b.toNat ∧ b.toNat ≤ 90 := by
  unfold freqT
  split
  · decide
  · split
    · decide
    · split <;> decide
/- a number from 1 to 1000 without a sign -/
def cntR (l : List UInt8) : Option Int := if num l 4 = true ∧ 1 ≤ val l 0 ∧ val l 0 ≤ 1000 then some (val l 0 : Int) else none
theorem cntR_de {n : Int} (h0 : 1 ≤ n) (h1 : n ≤ 1000) : cntR (de n) = some n := by
  obtain ⟨a, b⟩ := de_num4 (n := n) (by omega) (by omega)
  unfold cntR
  rw [if_pos ⟨a, by omega, by omega⟩, b]
  congr 1; omega
def utR (l : List UInt8) : Option (Int × Int × List UInt8) := rd l [] (decide (l.length = 8))
def nFREQ : List UInt8 := [70, 82, 69, 81]
def nINTERVAL : List UInt8 := [73, 78, 84, 69, 82, 86, 65, 76]
def nCOUNT : List UInt8 := [67, 79, 85, 78, 84]
def nUNTIL : List UInt8 := [85, 78, 84, 73, 76]
def nBYSECOND : List UInt8 := [66, 89, 83, 69, 67, 79, 78, 68]
def nBYMINUTE : List UInt8 := [66, 89, 77, 73, 78, 85, 84, 69]
def nBYHOUR : List UInt8 := [66, 89, 72, 79, 85, 82]
def nBYDAY : List UInt8 := [66, 89, 68, 65, 89]
def nBYMONTHDAY : List UInt8 := [66, 89, 77, 79, 78, 84, 72, 68, 65, 89]
def nBYYEARDAY : List UInt8 := [66, 89, 89, 69, 65, 82, 68, 65, 89]
def nBYWEEKNO : List UInt8 := [66, 89, 87, 69, 69, 75, 78, 79]
def nBYMONTH : List UInt8 := [66, 89, 77, 79, 78, 84, 72]
def nBYSETPOS : List UInt8 := [66, 89, 83, 69, 84, 80, 79, 83]
def nWKST : List UInt8 := [87, 75, 83, 84]
def names : List (List UInt8) := [nFREQ, nINTERVAL, nCOUNT, nUNTIL, nBYSECOND, nBYMINUTE, nBYHOUR, nBYDAY, nBYMONTHDAY, nBYYEARDAY, nBYWEEKNO, nBYMONTH, nBYSETPOS, nWKST]
theorem names_nodup : names.Nodup := by decide
theorem names_big : ∀ n ∈ names, ∀ b ∈ n, 65 ≤ b.toNat ∧ b.toNat ≤ 90 := by decide
def setP (r : Ru) (n v : List UInt8) : Option (Option Ru) :=
  if n = nFREQ then some ((freqR v).map fun x => { r with freq := x })
  else if n = nINTERVAL then some ((cntR v).map fun x => { r with ivl := x })
  else if n = nCOUNT then some ((cntR v).map fun x => { r with cnt := x })
  else if n = nUNTIL then some ((utR v).map fun x => { r with uk := x.1, ua := x.2.1, uz := x.2.2, has := true })
  else if n = nBYSECOND then some ((lr (may 0) v).map fun x => { r with sec := x })
  else if n = nBYMINUTE then some ((lr (may 1) v).map fun x => { r with min := x })
  else if n = nBYHOUR then some ((lr (may 2) v).map fun x => { r with hour := x })
  else if n = nBYDAY then some ((ldr v).map fun x => { r with day := x })
  else if n = nBYMONTHDAY then some ((lr (may 3) v).map fun x => { r with mday := x })
  else if n = nBYYEARDAY then some ((lr (may 4) v).map fun x => { r with yday := x })
  else if n = nBYWEEKNO then some ((lr (may 5) v).map fun x => { r with week := x })
  else if n = nBYMONTH then some ((lr (may 6) v).map fun x => { r with month := x })
  else if n = nBYSETPOS then some ((lr (may 7) v).map fun x => { r with pos := x })
  else if n = nWKST then some (if 0 ≤ which v then some { r with st := which v } else none)
  else none
def pFREQ (r : Ru) : List (List UInt8 × List UInt8) := [(nFREQ, freqT r.freq)]
def pINTERVAL (r : Ru) : List (List UInt8 × List UInt8) := if r.ivl = 1 then [] else [(nINTERVAL, de r.ivl)]
def pCOUNT (r : Ru) : List (List UInt8 × List UInt8) := if r.cnt = 0 then [] else [(nCOUNT, de r.cnt)]
def pUNTIL (r : Ru) : List (List UInt8 × List UInt8) := if r.has = false then [] else [(nUNTIL, txt r.uk r.ua)]
def pBYSECOND (r : Ru) : List (List UInt8 × List UInt8) := if r.sec = [] then [] else [(nBYSECOND, lt r.sec)]
def pBYMINUTE (r : Ru) : List (List UInt8 × List UInt8) := if r.min = [] then [] else [(nBYMINUTE, lt r.min)]
def pBYHOUR (r : Ru) : List (List UInt8 × List UInt8) := if r.hour = [] then [] else [(nBYHOUR, lt r.hour)]
def pBYDAY (r : Ru) : List (List UInt8 × List UInt8) := if r.day = [] then [] else [(nBYDAY, ldt r.day)]
def pBYMONTHDAY (r : Ru) : List (List UInt8 × List UInt8) := if r.mday = [] then [] else [(nBYMONTHDAY, lt r.mday)]
def pBYYEARDAY (r : Ru) : List (List UInt8 × List UInt8) := if r.yday = [] then [] else [(nBYYEARDAY, lt r.yday)]
def pBYWEEKNO (r : Ru) : List (List UInt8 × List UInt8) := if r.week = [] then [] else [(nBYWEEKNO, lt r.week)]
def pBYMONTH (r : Ru) : List (List UInt8 × List UInt8) := if r.month = [] then [] else [(nBYMONTH, lt r.month)]
def pBYSETPOS (r : Ru) : List (List UInt8 × List UInt8) := if r.pos = [] then [] else [(nBYSETPOS, lt r.pos)]
def pWKST (r : Ru) : List (List UInt8 × List UInt8) := if r.st = 1 then [] else [(nWKST, wd r.st)]
def parts (r : Ru) : List (List UInt8 × List UInt8) := pFREQ r ++ (pINTERVAL r ++ (pCOUNT r ++ (pUNTIL r ++ (pBYSECOND r ++ (pBYMINUTE r ++ (pBYHOUR r ++ (pBYDAY r ++ (pBYMONTHDAY r ++ (pBYYEARDAY r ++ (pBYWEEKNO r ++ (pBYMONTH r ++ (pBYSETPOS r ++ (pWKST r)))))))))))))
def partT (p : List UInt8 × List UInt8) : List UInt8 := p.1 ++ 61 :: p.2
def ru (r : Ru) : List UInt8 := joinB 59 ((parts r).map partT)
def r0 : Ru := ⟨0, 1, 0, 0, 0, [], false, 1, [], [], [], [], [], [], [], [], []⟩
def runP (s : Option Ru) (p : List UInt8 × List UInt8) : Option Ru := s.bind fun r => (setP r p.1 p.2).bind id
theorem utR_txt {k a : Int} {z : List UInt8} (h : rt k a z = true) (h3 : k ≠ 3) : utR (txt k a) = some (k, a, z) := by
  have ho := rt_ok h
  have hz : z = [] := by
    rcases rt_kind h with rfl | rfl | rfl | rfl
    · rw [rt0 ho, Bool.and_eq_true] at h; exact isE h.1
    · rw [rt1 ho] at h; exact isE h
    · rw [rt2 ho] at h; exact isE h
    · exact absurd rfl h3
  have hl : decide ((txt k a).length = 8) = decide (k = 0) := by
    unfold txt
    by_cases k0 : k = 0
    · rw [if_pos k0, Clk.dateTxt_length]; simp [k0]
    · rw [if_neg k0]
      by_cases k2 : k = 2
      · rw [if_pos k2, List.length_append, Clk.sec_length]; simp [k0]
      · rw [if_neg k2, Clk.sec_length]; simp [k0]
  have := rd_txt h
  rw [hz] at this ⊢
  unfold utR
  rw [hl, this]
theorem sFREQ (r s : Ru) (h0 : 1 ≤ r.freq) (h1 : r.freq ≤ 4) : (pFREQ r).foldl runP (some s) = some { s with freq := r.freq } := by
  unfold pFREQ
  have e : setP s nFREQ (freqT r.freq) = some (some { s with freq := r.freq }) := by rw [setP, if_pos rfl]; rw [freqR_T h0 h1]; rfl
  simp [runP, e]
theorem sINTERVAL (r s : Ru) (h0 : 1 ≤ r.ivl) (h1 : r.ivl ≤ 1000) (hs : s.ivl = 1) : (pINTERVAL r).foldl runP (some s) = some { s with ivl := r.ivl } := by
  unfold pINTERVAL
  by_cases c : r.ivl = 1
  · rw [if_pos c]
    cases s
    simp_all
  · rw [if_neg c]
    have e : setP s nINTERVAL (de r.ivl) = some (some { s with ivl := r.ivl }) := by rw [setP, if_neg (by decide), if_pos rfl]; rw [cntR_de (by omega) h1]; rfl
    simp [runP, e]
theorem sCOUNT (r s : Ru) (h0 : 0 ≤ r.cnt) (h1 : r.cnt ≤ 1000) (hs : s.cnt = 0) : (pCOUNT r).foldl runP (some s) = some { s with cnt := r.cnt } := by
  unfold pCOUNT
  by_cases c : r.cnt = 0
  · rw [if_pos c]
    cases s
    simp_all
  · rw [if_neg c]
    have e : setP s nCOUNT (de r.cnt) = some (some { s with cnt := r.cnt }) := by rw [setP, if_neg (by decide), if_neg (by decide), if_pos rfl]; rw [cntR_de (by omega) h1]; rfl
    simp [runP, e]
theorem sUNTIL (r s : Ru) (h : fmU r = true) (hs : s.uk = 0 ∧ s.ua = 0 ∧ s.uz = [] ∧ s.has = false) : (pUNTIL r).foldl runP (some s) = some { s with uk := r.uk, ua := r.ua, uz := r.uz, has := r.has } := by
  unfold pUNTIL
  by_cases c : r.has = false
  · unfold fmU at h
    rw [if_neg (by simp [c]), Bool.and_eq_true, Bool.and_eq_true, decide_eq_true_eq, decide_eq_true_eq] at h
    have hz := isE h.2
    rw [if_pos c]
    obtain ⟨a, b, d, e⟩ := hs
    cases s
    simp_all
  · rw [if_neg c]
    have c : r.has = true := by simpa using c
    unfold fmU at h
    rw [if_pos c, Bool.and_eq_true, Bool.and_eq_true] at h
    have e : setP s nUNTIL (txt r.uk r.ua) = some (some { s with uk := r.uk, ua := r.ua, uz := r.uz, has := r.has }) := by
      rw [setP, if_neg (by decide), if_neg (by decide), if_neg (by decide), if_pos rfl]
      rw [utR_txt h.1.2 (by simpa using h.2), c]; rfl
    simp [runP, e]
theorem sBYSECOND (r s : Ru) (h : fine 0 r.sec = true) (hs : s.sec = []) : (pBYSECOND r).foldl runP (some s) = some { s with sec := r.sec } := by
  unfold pBYSECOND
  by_cases c : r.sec = []
  · rw [if_pos c]
    cases s
    simp_all
  · rw [if_neg c]
    obtain ⟨_, h1, h2⟩ := fine_iff.1 h
    have e : setP s nBYSECOND (lt r.sec) = some (some { s with sec := r.sec }) := by rw [setP, if_neg (by decide), if_neg (by decide), if_neg (by decide), if_neg (by decide), if_pos rfl]; rw [lr_lt c (fun n hn => ⟨h1 n hn, may_bd (h1 n hn)⟩) h2]; rfl
    simp [runP, e]
theorem sBYMINUTE (r s : Ru) (h : fine 1 r.min = true) (hs : s.min = []) : (pBYMINUTE r).foldl runP (some s) = some { s with min := r.min } := by
  unfold pBYMINUTE
  by_cases c : r.min = []
  · rw [if_pos c]
    cases s
    simp_all
  · rw [if_neg c]
    obtain ⟨_, h1, h2⟩ := fine_iff.1 h
    have e : setP s nBYMINUTE (lt r.min) = some (some { s with min := r.min }) := by rw [setP, if_neg (by decide), if_neg (by decide), if_neg (by decide), if_neg (by decide), if_neg (by decide), if_pos rfl]; rw [lr_lt c (fun n hn => ⟨h1 n hn, may_bd (h1 n hn)⟩) h2]; rfl
    simp [runP, e]
theorem sBYHOUR (r s : Ru) (h : fine 2 r.hour = true) (hs : s.hour = []) : (pBYHOUR r).foldl runP (some s) = some { s with hour := r.hour } := by
  unfold pBYHOUR
  by_cases c : r.hour = []
  · rw [if_pos c]
    cases s
    simp_all
  · rw [if_neg c]
    obtain ⟨_, h1, h2⟩ := fine_iff.1 h
    have e : setP s nBYHOUR (lt r.hour) = some (some { s with hour := r.hour }) := by rw [setP, if_neg (by decide), if_neg (by decide), if_neg (by decide), if_neg (by decide), if_neg (by decide), if_neg (by decide), if_pos rfl]; rw [lr_lt c (fun n hn => ⟨h1 n hn, may_bd (h1 n hn)⟩) h2]; rfl
    simp [runP, e]
theorem sBYDAY (r s : Ru) (h : fineD r.day = true) (hs : s.day = []) : (pBYDAY r).foldl runP (some s) = some { s with day := r.day } := by
  unfold pBYDAY
  by_cases c : r.day = []
  · rw [if_pos c]
    cases s
    simp_all
  · rw [if_neg c]
    obtain ⟨_, h1, h2⟩ := fineD_iff.1 h
    have e : setP s nBYDAY (ldt r.day) = some (some { s with day := r.day }) := by rw [setP, if_neg (by decide), if_neg (by decide), if_neg (by decide), if_neg (by decide), if_neg (by decide), if_neg (by decide), if_neg (by decide), if_pos rfl]; rw [ldr_ldt c h1 h2]; rfl
    simp [runP, e]
theorem sBYMONTHDAY (r s : Ru) (h : fine 3 r.mday = true) (hs : s.mday = []) : (pBYMONTHDAY r).foldl runP (some s) = some { s with mday := r.mday } := by
  unfold pBYMONTHDAY
  by_cases c : r.mday = []
  · rw [if_pos c]
    cases s
    simp_all
  · rw [if_neg c]
    obtain ⟨_, h1, h2⟩ := fine_iff.1 h
    have e : setP s nBYMONTHDAY (lt r.mday) = some (some { s with mday := r.mday }) := by rw [setP, if_neg (by decide), if_neg (by decide), if_neg (by decide), if_neg (by decide), if_neg (by decide), if_neg (by decide), if_neg (by decide), if_neg (by decide), if_pos rfl]; rw [lr_lt c (fun n hn => ⟨h1 n hn, may_bd (h1 n hn)⟩) h2]; rfl
    simp [runP, e]
theorem sBYYEARDAY (r s : Ru) (h : fine 4 r.yday = true) (hs : s.yday = []) : (pBYYEARDAY r).foldl runP (some s) = some { s with yday := r.yday } := by
  unfold pBYYEARDAY
  by_cases c : r.yday = []
  · rw [if_pos c]
    cases s
    simp_all
  · rw [if_neg c]
    obtain ⟨_, h1, h2⟩ := fine_iff.1 h
    have e : setP s nBYYEARDAY (lt r.yday) = some (some { s with yday := r.yday }) := by rw [setP, if_neg (by decide), if_neg (by decide), if_neg (by decide), if_neg (by decide), if_neg (by decide), if_neg (by decide), if_neg (by decide), if_neg (by decide), if_neg (by decide), if_pos rfl]; rw [lr_lt c (fun n hn => ⟨h1 n hn, may_bd (h1 n hn)⟩) h2]; rfl
    simp [runP, e]
theorem sBYWEEKNO (r s : Ru) (h : fine 5 r.week = true) (hs : s.week = []) : (pBYWEEKNO r).foldl runP (some s) = some { s with week := r.week } := by
  unfold pBYWEEKNO
  by_cases c : r.week = []
  · rw [if_pos c]
    cases s
    simp_all
  · rw [if_neg c]
    obtain ⟨_, h1, h2⟩ := fine_iff.1 h
    have e : setP s nBYWEEKNO (lt r.week) = some (some { s with week := r.week }) := by rw [setP, if_neg (by decide), if_neg (by decide), if_neg (by decide), if_neg (by decide), if_neg (by decide), if_neg (by decide), if_neg (by decide), if_neg (by decide), if_neg (by decide), if_neg (by decide), if_pos rfl]; rw [lr_lt c (fun n hn => ⟨h1 n hn, may_bd (h1 n hn)⟩) h2]; rfl
    simp [runP, e]
theorem sBYMONTH (r s : Ru) (h : fine 6 r.month = true) (hs : s.month = []) : (pBYMONTH r).foldl runP (some s) = some { s with month := r.month } := by
  unfold pBYMONTH
  by_cases c : r.month = []
  · rw [if_pos c]
    cases s
    simp_all
  · rw [if_neg c]
    obtain ⟨_, h1, h2⟩ := fine_iff.1 h
    have e : setP s nBYMONTH (lt r.month) = some (some { s with month := r.month }) := by rw [setP, if_neg (by decide), if_neg (by decide), if_neg (by decide), if_neg (by decide), if_neg (by decide), if_neg (by decide), if_neg (by decide), if_neg (by decide), if_neg (by decide), if_neg (by decide), if_neg (by decide), if_pos rfl]; rw [lr_lt c (fun n hn => ⟨h1 n hn, may_bd (h1 n hn)⟩) h2]; rfl
    simp [runP, e]
theorem sBYSETPOS (r s : Ru) (h : fine 7 r.pos = true) (hs : s.pos = []) : (pBYSETPOS r).foldl runP (some s) = some { s with pos := r.pos } := by
  unfold pBYSETPOS
  by_cases c : r.pos = []
  · rw [if_pos c]
    cases s
    simp_all
  · rw [if_neg c]
    obtain ⟨_, h1, h2⟩ := fine_iff.1 h
    have e : setP s nBYSETPOS (lt r.pos) = some (some { s with pos := r.pos }) := by rw [setP, if_neg (by decide), if_neg (by decide), if_neg (by decide), if_neg (by decide), if_neg (by decide), if_neg (by decide), if_neg (by decide), if_neg (by decide), if_neg (by decide), if_neg (by decide), if_neg (by decide), if_neg (by decide), if_pos rfl]; rw [lr_lt c (fun n hn => ⟨h1 n hn, may_bd (h1 n hn)⟩) h2]; rfl
    simp [runP, e]
theorem sWKST (r s : Ru) (h0 : 0 ≤ r.st) (h1 : r.st ≤ 6) (hs : s.st = 1) : (pWKST r).foldl runP (some s) = some { s with st := r.st } := by
  unfold pWKST
  by_cases c : r.st = 1
  · rw [if_pos c]
    cases s
    simp_all
  · rw [if_neg c]
    have e : setP s nWKST (wd r.st) = some (some { s with st := r.st }) := by rw [setP, if_neg (by decide), if_neg (by decide), if_neg (by decide), if_neg (by decide), if_neg (by decide), if_neg (by decide), if_neg (by decide), if_neg (by decide), if_neg (by decide), if_neg (by decide), if_neg (by decide), if_neg (by decide), if_neg (by decide), if_pos rfl]; rw [which_wd h0 h1, if_pos h0]
    simp [runP, e]
end Rm
end Go.Proofs.YtmbmkldcedkbmaaGreat
namespace Go.Proofs.YtmbmkldcedkbmaaGreat
namespace Rm
open Txt Va

theorem run_parts {r : Ru} (h : fm r = true) : (parts r).foldl runP (some r0) = some r := by
  unfold fm at h
  simp only [Bool.and_eq_true] at h
  obtain ⟨⟨⟨h1, hU⟩, hL⟩, _⟩ := h
  unfold fm1 at h1
  simp only [Bool.and_eq_true, decide_eq_true_eq] at h1
  obtain ⟨⟨⟨⟨⟨⟨⟨a1, a2⟩, b1⟩, b2⟩, c1⟩, c2⟩, d1⟩, d2⟩ := h1
  unfold fmL at hL
  simp only [Bool.and_eq_true] at hL
  obtain ⟨⟨⟨⟨⟨⟨⟨⟨l0, l1⟩, l2⟩, lD⟩, l3⟩, l4⟩, l5⟩, l6⟩, l7⟩ := hL
  unfold parts
  rw [List.foldl_append, sFREQ r r0 a1 a2]
  rw [List.foldl_append, sINTERVAL r _ b1 b2 rfl]
  rw [List.foldl_append, sCOUNT r _ c1 c2 rfl]
  rw [List.foldl_append, sUNTIL r _ hU ⟨rfl, rfl, rfl, rfl⟩]
  rw [List.foldl_append, sBYSECOND r _ l0 rfl]
  rw [List.foldl_append, sBYMINUTE r _ l1 rfl]
  rw [List.foldl_append, sBYHOUR r _ l2 rfl]
  rw [List.foldl_append, sBYDAY r _ lD rfl]
  rw [List.foldl_append, sBYMONTHDAY r _ l3 rfl]
  rw [List.foldl_append, sBYYEARDAY r _ l4 rfl]
  rw [List.foldl_append, sBYWEEKNO r _ l5 rfl]
  rw [List.foldl_append, sBYMONTH r _ l6 rfl]
  rw [List.foldl_append, sBYSETPOS r _ l7 rfl]
  rw [sWKST r _ d1 d2 rfl]

/- the reading of a whole text -/
structure St where
  r : Option Ru
  ns : List (List UInt8)
  fq : Bool
def notEq (b : UInt8) : Bool := b != 61
def splitEq (l : List UInt8) : Option (List UInt8 × List UInt8) := match l.dropWhile notEq with
  | [] => none
  | _ :: v => some (l.takeWhile notEq, v)
def stepR (s : Option St) (t : List UInt8) : Option St := s.bind fun s => (splitEq t).bind fun p =>
  if p.1 ∈ s.ns then none else if p.1 ∈ names then some ⟨runP s.r p, p.1 :: s.ns, s.fq || p.1 == nFREQ⟩ else none
def up (b : UInt8) : UInt8 := if 97 ≤ b.toNat ∧ b.toNat ≤ 122 then b - 32 else b
def rz : Ru := ⟨0, 0, 0, 0, 0, [], false, 0, [], [], [], [], [], [], [], [], []⟩
/- the rule and 0; or an empty one and 5: no parts of a rule; 7: a value that a part may not have; 10: not valid -/
def fin : Option St → Ru × Nat
  | none => (rz, 5)
  | some s => if s.fq = false then (rz, 5) else match s.r with
    | none => (rz, 7)
    | some r => if fm r then (r, 0) else (rz, 10)
def rdR (l : List UInt8) : Ru × Nat := fin ((cutB 59 (l.map up)).foldl stepR (some ⟨some r0, [], false⟩))
theorem split_part {n v : List UInt8} (h : ∀ b ∈ n, b ≠ 61) : splitEq (partT (n, v)) = some (n, v) := by
  have hn : ∀ b ∈ n, notEq b = true := fun b hb => by simpa [notEq] using h b hb
  have e1 : (n ++ 61 :: v).dropWhile notEq = 61 :: v := by
    rw [List.dropWhile_append_of_pos hn]; rfl
  have e2 : (n ++ 61 :: v).takeWhile notEq = n := by
    rw [List.takeWhile_append_of_pos hn]; simp [notEq]
  unfold splitEq partT
  rw [e1]
  simp only [e2]
theorem fold_parts : ∀ (ps : List (List UInt8 × List UInt8)) (s : St), (∀ p ∈ ps, p.1 ∈ names) → (ps.map (·.1)).Nodup → (∀ p ∈ ps, p.1 ∉ s.ns) →
    ∃ ns, (ps.map partT).foldl stepR (some s) = some ⟨ps.foldl runP s.r, ns, s.fq || ps.any (fun p => p.1 == nFREQ)⟩
  | [], s, _, _, _ => ⟨s.ns, by cases s; simp⟩
  | p :: ps, s, h, hd, hn => by
    have hb := names_big p.1 (h p (by simp))
    have e : stepR (some s) (partT p) = some ⟨runP s.r p, p.1 :: s.ns, s.fq || p.1 == nFREQ⟩ := by
      obtain ⟨n, v⟩ := p
      unfold stepR
      rw [Option.bind_some, split_part (fun b hb' e => by have := (hb b hb').1; rw [e] at this; exact absurd this (by decide)), Option.bind_some]
      rw [if_neg (hn (n, v) (by simp)), if_pos (h (n, v) (by simp))]
    rw [List.map_cons, List.nodup_cons] at hd
    obtain ⟨ns, hf⟩ := fold_parts ps ⟨runP s.r p, p.1 :: s.ns, s.fq || p.1 == nFREQ⟩ (fun q hq => h q (by simp [hq])) hd.2 (fun q hq hm => by
      rcases List.mem_cons.1 hm with hm | hm
      · exact hd.1 (by rw [← hm]; exact List.mem_map.2 ⟨q, hq, rfl⟩)
      · exact hn q (by simp [hq]) hm)
    refine ⟨ns, ?_⟩
    rw [List.map_cons, List.foldl_cons, e, hf, List.foldl_cons, List.any_cons, Bool.or_assoc]
/- the names of the parts, in order -/
theorem mFREQ (r : Ru) : List.Sublist ((pFREQ r).map (·.1)) [nFREQ] := List.Sublist.refl _
theorem mINTERVAL (r : Ru) : List.Sublist ((pINTERVAL r).map (·.1)) [nINTERVAL] := by
  unfold pINTERVAL
  split
  · exact List.nil_sublist _
  · exact List.Sublist.refl _
theorem mCOUNT (r : Ru) : List.Sublist ((pCOUNT r).map (·.1)) [nCOUNT] := by
  unfold pCOUNT
  split
  · exact List.nil_sublist _
  · exact List.Sublist.refl _
theorem mUNTIL (r : Ru) : List.Sublist ((pUNTIL r).map (·.1)) [nUNTIL] := by
  unfold pUNTIL
  split
  · exact List.nil_sublist _
  · exact List.Sublist.refl _
theorem mBYSECOND (r : Ru) : List.Sublist ((pBYSECOND r).map (·.1)) [nBYSECOND] := by
  unfold pBYSECOND
  split
  · exact List.nil_sublist _
  · exact List.Sublist.refl _
theorem mBYMINUTE (r : Ru) : List.Sublist ((pBYMINUTE r).map (·.1)) [nBYMINUTE] := by
  unfold pBYMINUTE
  split
  · exact List.nil_sublist _
  · exact List.Sublist.refl _
theorem mBYHOUR (r : Ru) : List.Sublist ((pBYHOUR r).map (·.1)) [nBYHOUR] := by
  unfold pBYHOUR
  split
  · exact List.nil_sublist _
  · exact List.Sublist.refl _
theorem mBYDAY (r : Ru) : List.Sublist ((pBYDAY r).map (·.1)) [nBYDAY] := by
  unfold pBYDAY
  split
  · exact List.nil_sublist _
  · exact List.Sublist.refl _
theorem mBYMONTHDAY (r : Ru) : List.Sublist ((pBYMONTHDAY r).map (·.1)) [nBYMONTHDAY] := by
  unfold pBYMONTHDAY
  split
  · exact List.nil_sublist _
  · exact List.Sublist.refl _
theorem mBYYEARDAY (r : Ru) : List.Sublist ((pBYYEARDAY r).map (·.1)) [nBYYEARDAY] := by
  unfold pBYYEARDAY
  split
  · exact List.nil_sublist _
  · exact List.Sublist.refl _
theorem mBYWEEKNO (r : Ru) : List.Sublist ((pBYWEEKNO r).map (·.1)) [nBYWEEKNO] := by
  unfold pBYWEEKNO
  split
  · exact List.nil_sublist _
  · exact List.Sublist.refl _
theorem mBYMONTH (r : Ru) : List.Sublist ((pBYMONTH r).map (·.1)) [nBYMONTH] := by
  unfold pBYMONTH
  split
  · exact List.nil_sublist _
  · exact List.Sublist.refl _
theorem mBYSETPOS (r : Ru) : List.Sublist ((pBYSETPOS r).map (·.1)) [nBYSETPOS] := by
  unfold pBYSETPOS
  split
  · exact List.nil_sublist _
  · exact List.Sublist.refl _
theorem mWKST (r : Ru) : List.Sublist ((pWKST r).map (·.1)) [nWKST] := by
  unfold pWKST
  split
  · exact List.nil_sublist _
  · exact List.Sublist.refl _
theorem parts_names (r : Ru) : List.Sublist ((parts r).map (·.1)) names := by
  unfold parts
  simp only [List.map_append]
  exact (mFREQ r).append ((mINTERVAL r).append ((mCOUNT r).append ((mUNTIL r).append ((mBYSECOND r).append ((mBYMINUTE r).append ((mBYHOUR r).append ((mBYDAY r).append ((mBYMONTHDAY r).append ((mBYYEARDAY r).append ((mBYWEEKNO r).append ((mBYMONTH r).append ((mBYSETPOS r).append (mWKST r)))))))))))))
theorem parts_freq (r : Ru) : (parts r).any (fun p => p.1 == nFREQ) = true := by
  unfold parts pFREQ
  rw [List.any_append]
  simp
end Rm
end Go.Proofs.YtmbmkldcedkbmaaGreat
namespace Go.Proofs.YtmbmkldcedkbmaaGreat
namespace Rm
open Txt Va

/- what stands in a value -/
def good (b : UInt8) : Prop := isD b = true ∨ (65 ≤ b.toNat ∧ b.toNat ≤ 90) ∨ b = 45 ∨ b = 44
theorem good_up {b : UInt8} (h : good b) : up b = b ∧ b ≠ 59 := by
  have h1 : ¬ (97 ≤ b.toNat ∧ b.toNat ≤ 122) ∧ b ≠ 59 := by
    rcases h with h | h | rfl | rfl
    · have := isD_iff.1 h
      refine ⟨by omega, fun e => ?_⟩
      rw [e] at this
      exact absurd this (by decide)
    · refine ⟨by omega, fun e => ?_⟩
      rw [e] at h
      exact absurd h (by decide)
    · decide
    · decide
  exact ⟨if_neg h1.1, h1.2⟩
theorem mem_join {c b : UInt8} : ∀ {ls : List (List UInt8)}, b ∈ joinB c ls → b = c ∨ ∃ x ∈ ls, b ∈ x
  | [], h => by cases h
  | [x], h => .inr ⟨x, by simp, h⟩
  | x :: y :: t, h => by
    rw [joinB, List.mem_append] at h
    rcases h with h | h
    · exact .inr ⟨x, by simp, h⟩
    · rcases List.mem_cons.1 h with h | h
      · exact .inl h
      · rcases mem_join h with h | ⟨z, hz, h⟩
        · exact .inl h
        · exact .inr ⟨z, by simp [List.mem_cons.1 hz], h⟩
theorem de_good {n : Int} (h0 : 0 ≤ n) (h1 : n < 10000000000) : ∀ b ∈ de n, good b := fun b hb => .inl (de_digit h0 h1 b hb)
theorem nt_good {n : Int} (h0 : -9999 ≤ n) (h1 : n ≤ 9999) : ∀ b ∈ nt n, good b := by
  intro b hb
  unfold nt at hb
  split at hb
  · rcases List.mem_cons.1 hb with hb | hb
    · exact .inr (.inr (.inl hb))
    · exact de_good (by omega) (by omega) b hb
  · exact de_good (by omega) (by omega) b hb
theorem lt_good {i : Nat} {l : List Int} (h : fine i l = true) : ∀ b ∈ lt l, good b := by
  obtain ⟨_, h1, _⟩ := fine_iff.1 h
  intro b hb
  rcases mem_join hb with rfl | ⟨x, hx, hb⟩
  · exact .inr (.inr (.inr rfl))
  · obtain ⟨n, hn, rfl⟩ := List.mem_map.1 hx
    have := may_bd (h1 n hn)
    exact nt_good this.1 this.2 b hb
theorem ldt_good {l : List (Int × Int)} (h : fineD l = true) : ∀ b ∈ ldt l, good b := by
  obtain ⟨_, h1, _⟩ := fineD_iff.1 h
  intro b hb
  rcases mem_join hb with rfl | ⟨x, hx, hb⟩
  · exact .inr (.inr (.inr rfl))
  · obtain ⟨p, hp, rfl⟩ := List.mem_map.1 hx
    obtain ⟨a0, a1, a2, a3⟩ := mayD_iff.1 (h1 p hp)
    unfold dt at hb
    rcases List.mem_append.1 hb with hb | hb
    · split at hb
      · cases hb
      · exact nt_good (by omega) (by omega) b hb
    · exact .inr (.inl (wd_big a0 a1 b hb))
theorem txt_good (k a : Int) : ∀ b ∈ txt k a, good b := by
  have hd : ∀ b ∈ Clk.dateTxt (a / 86400), good b := fun b hb => .inl (List.all_eq_true.1 (dig_isD 8 _) b hb)
  have hs : ∀ b ∈ Clk.secTxt a, good b := by
    intro b hb
    unfold Clk.secTxt at hb
    rcases List.mem_append.1 hb with hb | hb
    · rcases List.mem_append.1 hb with hb | hb
      · exact hd b hb
      · rw [List.mem_singleton] at hb; subst hb; exact .inr (.inl (by decide))
    · exact .inl (List.all_eq_true.1 (dig_isD 6 _) b hb)
  intro b hb
  unfold txt at hb
  split at hb
  · exact hd b hb
  · split at hb
    · rcases List.mem_append.1 hb with hb | hb
      · exact hs b hb
      · rw [List.mem_singleton] at hb; subst hb; exact .inr (.inl (by decide))
    · exact hs b hb
theorem parts_good {r : Ru} (h : fm r = true) : ∀ p ∈ parts r, ∀ b ∈ p.2, good b := by
  unfold fm at h
  simp only [Bool.and_eq_true] at h
  obtain ⟨⟨⟨h1, _⟩, hL⟩, _⟩ := h
  unfold fm1 at h1
  simp only [Bool.and_eq_true, decide_eq_true_eq] at h1
  obtain ⟨⟨⟨⟨⟨⟨⟨a1, a2⟩, b1⟩, b2⟩, c1⟩, c2⟩, d1⟩, d2⟩ := h1
  unfold fmL at hL
  simp only [Bool.and_eq_true] at hL
  obtain ⟨⟨⟨⟨⟨⟨⟨⟨l0, l1⟩, l2⟩, lD⟩, l3⟩, l4⟩, l5⟩, l6⟩, l7⟩ := hL
  have one : ∀ {c : Prop} [Decidable c] {n v : List UInt8} {p : List UInt8 × List UInt8}, p ∈ (if c then [] else [(n, v)]) → p = (n, v) := by
    intro c _ n v p hp
    split at hp
    · cases hp
    · exact List.mem_singleton.1 hp
  intro p hp
  unfold parts at hp
  rcases List.mem_append.1 hp with hp | hp
  · have e := List.mem_singleton.1 hp
    subst e
    exact (fun b hb => .inr (.inl (freqT_big _ b hb)))
  rcases List.mem_append.1 hp with hp | hp
  · have e := one hp
    subst e
    exact de_good (by omega) (by omega)
  rcases List.mem_append.1 hp with hp | hp
  · have e := one hp
    subst e
    exact de_good (by omega) (by omega)
  rcases List.mem_append.1 hp with hp | hp
  · have e := one hp
    subst e
    exact txt_good _ _
  rcases List.mem_append.1 hp with hp | hp
  · have e := one hp
    subst e
    exact lt_good l0
  rcases List.mem_append.1 hp with hp | hp
  · have e := one hp
    subst e
    exact lt_good l1
  rcases List.mem_append.1 hp with hp | hp
  · have e := one hp
    subst e
    exact lt_good l2
  rcases List.mem_append.1 hp with hp | hp
  · have e := one hp
    subst e
    exact ldt_good lD
  rcases List.mem_append.1 hp with hp | hp
  · have e := one hp
    subst e
    exact lt_good l3
  rcases List.mem_append.1 hp with hp | hp
  · have e := one hp
    subst e
    exact lt_good l4
  rcases List.mem_append.1 hp with hp | hp
  · have e := one hp
    subst e
    exact lt_good l5
  rcases List.mem_append.1 hp with hp | hp
  · have e := one hp
    subst e
    exact lt_good l6
  rcases List.mem_append.1 hp with hp | hp
  · have e := one hp
    subst e
    exact lt_good l7
  have e := one hp
  subst e
  exact (fun b hb => .inr (.inl (wd_big d1 d2 b hb)))
theorem part_ok {r : Ru} (h : fm r = true) : ∀ x ∈ (parts r).map partT, ∀ b ∈ x, up b = b ∧ b ≠ 59 := by
  intro x hx b hb
  obtain ⟨p, hp, rfl⟩ := List.mem_map.1 hx
  unfold partT at hb
  rcases List.mem_append.1 hb with hb | hb
  · have hn : p.1 ∈ names := (parts_names r).subset (List.mem_map.2 ⟨p, hp, rfl⟩)
    exact good_up (.inr (.inl (names_big p.1 hn b hb)))
  · rcases List.mem_cons.1 hb with rfl | hb
    · decide
    · exact good_up (parts_good h p hp b hb)
theorem rd_ru {r : Ru} (h : fm r = true) : rdR (ru r) = (r, 0) := by
  have hok := part_ok h
  have hup : (ru r).map up = ru r := by
    refine (List.map_congr_left (fun b hb => ?_)).trans (List.map_id _)
    rcases mem_join hb with rfl | ⟨x, hx, hb⟩
    · decide
    · exact (hok x hx b hb).1
  have hne : (parts r).map partT ≠ [] := by
    unfold parts pFREQ
    simp
  have hc : cutB 59 (ru r) = (parts r).map partT := cut_join _ hne (fun x hx hm => (hok x hx 59 hm).2 rfl)
  have hsub := parts_names r
  obtain ⟨ns, hf⟩ := fold_parts (parts r) ⟨some r0, [], false⟩ (fun p hp => hsub.subset (List.mem_map.2 ⟨p, hp, rfl⟩)) (hsub.nodup names_nodup) (fun p _ hm => by cases hm)
  unfold rdR
  rw [hup, hc, hf, run_parts h, parts_freq r]
  simp [fin, h]
end Rm
end Go.Proofs.YtmbmkldcedkbmaaGreat
namespace Go.Proofs.YtmbmkldcedkbmaaGreat
namespace Rm
open Txt Va

/- one more part: a known name, not there yet -/
def stepC (acc : Option (List (List UInt8 × List UInt8))) (t : List UInt8) : Option (List (List UInt8 × List UInt8)) :=
  acc.bind fun ps => (splitEq t).bind fun p => if p.1 ∈ names ∧ p.1 ∉ ps.map (·.1) then some (ps ++ [p]) else none
def hasF (ps : List (List UInt8 × List UInt8)) : Bool := (ps.map (·.1)).contains nFREQ
def cps (l : List UInt8) : Option (List (List UInt8 × List UInt8)) := (cutB 59 l).foldl stepC (some [])
theorem stepC_none : ∀ l : List (List UInt8), l.foldl stepC none = none
  | [] => rfl
  | _ :: l => stepC_none l
theorem stepR_none : ∀ l : List (List UInt8), l.foldl stepR none = none
  | [] => rfl
  | _ :: l => stepR_none l
def toSt (ps : List (List UInt8 × List UInt8)) : St := ⟨ps.foldl runP (some r0), (ps.map (·.1)).reverse, hasF ps⟩
theorem step_eq (ps : List (List UInt8 × List UInt8)) (t : List UInt8) : stepR (some (toSt ps)) t = (stepC (some ps) t).map toSt := by
  unfold stepR stepC
  rw [Option.bind_some, Option.bind_some]
  cases hsp : splitEq t with
  | none => rfl
  | some p =>
    rw [Option.bind_some, Option.bind_some]
    have hm : p.1 ∈ (toSt ps).ns ↔ p.1 ∈ ps.map (·.1) := by unfold toSt; exact List.mem_reverse
    by_cases h1 : p.1 ∈ ps.map (·.1)
    · rw [if_pos (hm.2 h1), if_neg (fun h => h.2 h1)]; rfl
    · rw [if_neg (fun h => h1 (hm.1 h))]
      by_cases h2 : p.1 ∈ names
      · rw [if_pos h2, if_pos ⟨h2, h1⟩]
        unfold toSt hasF
        simp only [Option.map_some, List.foldl_append, List.foldl_cons, List.foldl_nil, List.map_append, List.map_cons, List.map_nil, List.reverse_append, List.reverse_cons, List.reverse_nil, List.nil_append, List.singleton_append, List.contains_eq_mem, List.mem_append, List.mem_singleton, Bool.decide_or]
        congr 2
        congr 1
        rw [Bool.eq_iff_iff, decide_eq_true_eq, beq_iff_eq]
        exact eq_comm
      · rw [if_neg h2, if_neg (fun h => h2 h.1)]; rfl
theorem fold_eq : ∀ (l : List (List UInt8)) (ps : List (List UInt8 × List UInt8)), l.foldl stepR (some (toSt ps)) = (l.foldl stepC (some ps)).map toSt
  | [], _ => rfl
  | t :: l, ps => by
    rw [List.foldl_cons, List.foldl_cons, step_eq]
    cases h : stepC (some ps) t with
    | none => rw [Option.map_none, stepR_none, stepC_none]; rfl
    | some qs => rw [Option.map_some]; exact fold_eq l qs
/- the reading, by parts -/
theorem rdR_eq (l : List UInt8) : rdR l = match cps (l.map up) with
    | none => (rz, 5)
    | some ps => if hasF ps = false then (rz, 5) else match ps.foldl runP (some r0) with
      | none => (rz, 7)
      | some r => if fm r then (r, 0) else (rz, 10) := by
  have h := fold_eq (cutB 59 (l.map up)) []
  have e : toSt [] = ⟨some r0, [], false⟩ := rfl
  rw [e] at h
  unfold rdR
  rw [h]
  unfold cps
  cases (cutB 59 (l.map up)).foldl stepC (some []) with
  | none => rfl
  | some ps => rfl
/- what is cut: known names, each once -/
theorem stepC_some {ps qs : List (List UInt8 × List UInt8)} {t : List UInt8} (h : stepC (some ps) t = some qs) : ∃ p, splitEq t = some p ∧ p.1 ∈ names ∧ p.1 ∉ ps.map (·.1) ∧ qs = ps ++ [p] := by
  unfold stepC at h
  rw [Option.bind_some] at h
  cases hsp : splitEq t with
  | none => rw [hsp] at h; cases h
  | some p =>
    rw [hsp, Option.bind_some] at h
    split at h
    · rename_i hc
      exact ⟨p, rfl, hc.1, hc.2, (Option.some.inj h).symm⟩
    · cases h
theorem splitEq_sub {t : List UInt8} {p : List UInt8 × List UInt8} (h : splitEq t = some p) : t = p.1 ++ 61 :: p.2 := by
  unfold splitEq at h
  have e := List.takeWhile_append_dropWhile (p := notEq) (l := t)
  split at h
  · cases h
  · rename_i b v hd
    have hb : b = 61 := by
      have := List.head?_dropWhile_not notEq t
      rw [hd] at this
      simpa [notEq] using this
    subst hb
    cases h
    rw [← hd]; exact e.symm
end Rm
end Go.Proofs.YtmbmkldcedkbmaaGreat
