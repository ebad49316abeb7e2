/- The texts Mc, Mp, one behind the other. -/
import Derived.Test.YtmbmkldcedkbmaaGreatZIsoCal
import Derived.Test.YtmbmkldcedkbmaaGreatZD
namespace Go.Proofs.YtmbmkldcedkbmaaGreat
namespace Mc
open Cal Rm

/- the day with which a day's week begins -/
def beg (n s : Int) : Int := n - (n - s) % 7
theorem beg_bd (n s : Int) : beg n s ≤ n ∧ n ≤ beg n s + 6 := by unfold beg; omega
theorem beg_mod {n s : Int} (h0 : 0 ≤ s) (h1 : s ≤ 6) : beg n s % 7 = s := by unfold beg; omega
theorem beg_of {n s k : Int} (h1 : k ≤ n) (h2 : n ≤ k + 6) (h : k % 7 = s) : k = beg n s := by unfold beg; omega
theorem beg_no {n s k : Int} (hk : beg n s < k) (hn : k ≤ n) : ¬ k % 7 = s := by unfold beg at hk; omega
/- the number of a day's period -/
def per (r : Ru) (b n : Int) : Int :=
  if r.freq = 1 then n - b else if r.freq = 2 then (beg n r.st - beg b r.st) / 7 else if r.freq = 3 then 12 * (yr n - yr b) + mon n - mon b else yr n - yr b
def ylen (y : Int) : Int := dby (y + 1) - dby y
theorem ylen_cases (y : Int) : ylen y = 365 ∨ ylen y = 366 := by
  have h1 := dby_succ y
  have h2 := lp_01 y
  unfold ylen; omega
/- counted from both ends -/
def hasB (l : List Int) (n : Int) : Bool := l.contains n
def cntB (l : List Int) (n e : Int) : Bool := hasB l n || hasB l (n - e - 1)
def inW (r : Ru) (n : Int) : Bool :=
  decide (Iso.w1 (yr n) r.st ≤ n) && decide (n < Iso.w1 (yr n + 1) r.st) && cntB r.week ((n - Iso.w1 (yr n) r.st) / 7 + 1) ((Iso.w1 (yr n + 1) r.st - Iso.w1 (yr n) r.st) / 7)
/- the days among which a weekday is counted: the first, and how many -/
def fst (r : Ru) (n : Int) : Int := if r.freq = 3 ∨ r.month ≠ [] then num (yr n) (mon n) 1 else dby (yr n) + 1
def len (r : Ru) (n : Int) : Int := if r.freq = 3 ∨ r.month ≠ [] then dim (yr n) (mon n) else ylen (yr n)
def ahd (f n : Int) : Int := (n - f) / 7 + 1
def bhd (f l n : Int) : Int := (f + l - 1 - n) / 7 + 1
def onW (n a b : Int) (w : Int × Int) : Bool := w.2 == n % 7 && (w.1 == 0 || w.1 == a || w.1 == -b)
def onD (r : Ru) (n : Int) : Bool := r.day.any (onW n (ahd (fst r n) n) (bhd (fst r n) (len r n) n))
def sml (r : Ru) (b n : Int) : Bool :=
  if r.freq = 2 then b % 7 == n % 7 else if r.freq = 3 then dom b == dom n else if r.freq = 4 ∧ r.week ≠ [] then b % 7 == n % 7 else if r.freq = 4 then dom b == dom n && (!r.month.isEmpty || mon b == mon n) else true
def lstB (r : Ru) (n : Int) : Bool :=
  (r.month.isEmpty || hasB r.month (mon n)) && (r.week.isEmpty || inW r n) && (r.yday.isEmpty || cntB r.yday (n - dby (yr n)) (ylen (yr n))) && (r.mday.isEmpty || cntB r.mday (dom n) (dim (yr n) (mon n))) && (r.day.isEmpty || onD r n)
def fits (r : Ru) (b n : Int) : Bool :=
  decide (0 ≤ per r b n) && decide (per r b n % r.ivl = 0) && lstB r n && (!(r.yday.isEmpty && r.mday.isEmpty && r.day.isEmpty) || sml r b n)
/- a period's days, before they are cut off -/
def sp0 (r : Ru) (b k : Int) : Int × Int :=
  if r.freq = 1 then (b + k, b + k) else if r.freq = 2 then (beg b r.st + 7 * k, beg b r.st + 7 * k + 6)
  else if r.freq = 3 then (if 1 ≤ (12 * yr b + mon b - 1 + k) / 12 ∧ (12 * yr b + mon b - 1 + k) / 12 ≤ 9999 then
    (num ((12 * yr b + mon b - 1 + k) / 12) ((12 * yr b + mon b - 1 + k) % 12 + 1) 1, num ((12 * yr b + mon b - 1 + k) / 12) ((12 * yr b + mon b - 1 + k) % 12 + 1) 1 + dim ((12 * yr b + mon b - 1 + k) / 12) ((12 * yr b + mon b - 1 + k) % 12 + 1) - 1) else (0, -1))
  else (if 1 ≤ yr b + k ∧ yr b + k ≤ 9999 then (dby (yr b + k) + 1, dby (yr b + k + 1)) else (0, -1))
def span (r : Ru) (b k : Int) : Int × Int :=
  if max (sp0 r b k).1 1 ≤ min (sp0 r b k).2 3652059 then (max (sp0 r b k).1 1, min (sp0 r b k).2 3652059) else (0, -1)
/- how many days of the same weekday lie ahead of k, from f on; and behind n, ahead of k -/
theorem ahead_step (f n k : Int) : (n - f) / 7 - (n - (k + 1)) / 7 = (n - f) / 7 - (n - k) / 7 + if k % 7 = n % 7 then 1 else 0 := by
  by_cases h : k % 7 = n % 7
  · rw [if_pos h]; omega
  · rw [if_neg h]; omega
theorem behind_step (n k : Int) : (k + 1 - 1 - n) / 7 = (k - 1 - n) / 7 + if k % 7 = n % 7 then 1 else 0 := by
  by_cases h : k % 7 = n % 7
  · rw [if_pos h]; omega
  · rw [if_neg h]; omega
/- a day lies in the span of its period -/
theorem month_of {n : Int} (h : dayB n = true) : num (yr n) (mon n) 1 ≤ n ∧ n ≤ num (yr n) (mon n) 1 + dim (yr n) (mon n) - 1 := by
  obtain ⟨h1, h2⟩ := date_spec h
  obtain ⟨_, _, h3, h4⟩ := okB_iff.1 h1
  unfold num at h2 ⊢
  omega
theorem year_of (n : Int) : dby (yr n) + 1 ≤ n ∧ n ≤ dby (yr n + 1) := ⟨by have := yr_lo n; omega, yr_hi n⟩
theorem span_per {r : Ru} {b n : Int} (hs : 0 ≤ r.st ∧ r.st ≤ 6) (hb : dayB b = true) (hn : dayB n = true) :
    (sp0 r b (per r b n)).1 ≤ n ∧ n ≤ (sp0 r b (per r b n)).2 := by
  obtain ⟨n1, n2⟩ := dayB_iff.1 hn
  obtain ⟨b1, b2⟩ := dayB_iff.1 hb
  have y1 := yr_bd n1 n2
  unfold sp0 per
  by_cases f1 : r.freq = 1
  · rw [if_pos f1, if_pos f1]; dsimp only; omega
  rw [if_neg f1, if_neg f1]
  by_cases f2 : r.freq = 2
  · rw [if_pos f2, if_pos f2]
    have m1 := beg_mod (n := n) hs.1 hs.2
    have m2 := beg_mod (n := b) hs.1 hs.2
    have m3 := beg_bd n r.st
    dsimp only; omega
  rw [if_neg f2, if_neg f2]
  by_cases f3 : r.freq = 3
  · rw [if_pos f3, if_pos f3]
    have mb := mo_bd (yr n) (n - dby (yr n))
    have e1 : (12 * yr b + mon b - 1 + (12 * (yr n - yr b) + mon n - mon b)) / 12 = yr n := by
      have : 1 ≤ mon n ∧ mon n ≤ 12 := mb
      omega
    have e2 : (12 * yr b + mon b - 1 + (12 * (yr n - yr b) + mon n - mon b)) % 12 + 1 = mon n := by
      have : 1 ≤ mon n ∧ mon n ≤ 12 := mb
      omega
    rw [e1, e2, if_pos y1]
    exact month_of hn
  rw [if_neg f3, if_neg f3, show yr b + (yr n - yr b) = yr n by omega, if_pos y1]
  exact year_of n
theorem span_in {r : Ru} {b n : Int} (hs : 0 ≤ r.st ∧ r.st ≤ 6) (hb : dayB b = true) (hn : dayB n = true) :
    span r b (per r b n) = (max (sp0 r b (per r b n)).1 1, min (sp0 r b (per r b n)).2 3652059) ∧ (span r b (per r b n)).1 ≤ n ∧ n ≤ (span r b (per r b n)).2 := by
  obtain ⟨h1, h2⟩ := span_per hs hb hn
  obtain ⟨n1, n2⟩ := dayB_iff.1 hn
  have e : span r b (per r b n) = (max (sp0 r b (per r b n)).1 1, min (sp0 r b (per r b n)).2 3652059) := by
    unfold span
    rw [if_pos (by omega)]
  refine ⟨e, ?_, ?_⟩
  · rw [e]; dsimp only; omega
  · rw [e]; dsimp only; omega
end Mc
end Go.Proofs.YtmbmkldcedkbmaaGreat
namespace Go.Proofs.YtmbmkldcedkbmaaGreat
namespace Mc
open Cal Rm

/- a place among others, counted from both ends -/
def cnt1 (p e n : Int) : Bool := n == p || n == p - e - 1
def lstd (l : List Int) (p e : Int) : Bool := l.isEmpty || cntB l p e
theorem any_eq (l : List Int) (a : Int) : l.any (fun n => n == a) = l.contains a := by
  rw [Bool.eq_iff_iff, List.any_eq_true, List.contains_iff_mem]
  constructor
  · rintro ⟨x, hx, h⟩
    rwa [← (beq_iff_eq.1 h)]
  · intro h
    exact ⟨a, h, beq_self_eq_true a⟩
theorem any_cnt (l : List Int) (p e : Int) : l.any (cnt1 p e) = cntB l p e := by
  unfold cntB hasB
  rw [← any_eq, ← any_eq, Bool.eq_iff_iff, Bool.or_eq_true, List.any_eq_true, List.any_eq_true, List.any_eq_true]
  constructor
  · rintro ⟨x, hx, h⟩
    unfold cnt1 at h
    rw [Bool.or_eq_true] at h
    rcases h with h | h
    · exact .inl ⟨x, hx, h⟩
    · exact .inr ⟨x, hx, h⟩
  · rintro (⟨x, hx, h⟩ | ⟨x, hx, h⟩)
    · exact ⟨x, hx, by unfold cnt1; rw [h]; rfl⟩
    · exact ⟨x, hx, by unfold cnt1; rw [h, Bool.or_true]⟩
/- the place of a day among those that have its weekday: how many lie ahead, with itself, and behind -/
def nthB (a b w : Int) : Bool := w == a || w == a - (a + b - 1) - 1
theorem nthB_eq (a b w : Int) : nthB a b w = (w == a || w == -b) := by
  unfold nthB; rw [show a - (a + b - 1) - 1 = -b by omega]
/- the index of a day's period, whatever the begin is -/
def idx (r : Ru) (n : Int) : Int :=
  if r.freq = 2 then (n - r.st) / 7 else if r.freq = 3 then yr n * 12 + mon n - 1 else if r.freq = 4 then yr n else n
theorem beg_div {n s : Int} : beg n s = (n - s) / 7 * 7 + s := by unfold beg; omega
theorem per_idx {r : Ru} (hf : 1 ≤ r.freq ∧ r.freq ≤ 4) (b n : Int) : per r b n = idx r n - idx r b := by
  unfold per idx
  by_cases f2 : r.freq = 2
  · rw [if_neg (by omega), if_pos f2, if_pos f2, if_pos f2, beg_div, beg_div]; omega
  rw [if_neg f2, if_neg f2, if_neg f2]
  by_cases f3 : r.freq = 3
  · rw [if_neg (by omega), if_pos f3, if_pos f3, if_pos f3]; omega
  rw [if_neg f3, if_neg f3, if_neg f3]
  by_cases f4 : r.freq = 4
  · rw [if_neg (by omega), if_pos f4, if_pos f4]
  · rw [if_pos (by omega), if_neg f4, if_neg f4]
theorem idx_bd {r : Ru} {n : Int} (hs : 0 ≤ r.st ∧ r.st ≤ 6) (hn : dayB n = true) : -10 ≤ idx r n ∧ idx r n ≤ 3652059 := by
  obtain ⟨n1, n2⟩ := dayB_iff.1 hn
  have y1 := yr_bd n1 n2
  have mb : 1 ≤ mon n ∧ mon n ≤ 12 := mo_bd (yr n) (n - dby (yr n))
  unfold idx
  split
  · omega
  split
  · omega
  split
  · omega
  · omega
/- the first and the last day of months of a year; 0 and 0: the year is none -/
def mos (y a c : Int) : Int × Int := if 1 ≤ y ∧ y ≤ 9999 then (num y a 1, num y c (dim y c)) else (0, 0)
def bnd (r : Ru) (i : Int) : Int × Int :=
  if r.freq = 2 then (i * 7 + r.st, i * 7 + r.st + 7 - 1) else if r.freq = 3 then mos (i / 12) (i % 12 + 1) (i % 12 + 1) else if r.freq = 4 then mos i 1 12 else (i, i)
theorem num_dec (y : Int) : num y 12 (dim y 12) = dby (y + 1) := by
  have a := cum_13 y
  have b := cum_succ y (m := 12) (by omega) (by omega)
  have c := dby_succ y
  have e : cum y (12 + 1) = cum y 13 := rfl
  unfold num; omega
theorem num_jan (y : Int) : num y 1 1 = dby y + 1 := by unfold num; rw [cum_1]; omega
/- the bounds are those of the reference, once they are cut off -/
theorem bnd_sp {r : Ru} (hf : 1 ≤ r.freq ∧ r.freq ≤ 4) (b k : Int) :
    (bnd r (idx r b + k) = sp0 r b k) ∨ (bnd r (idx r b + k) = (0, 0) ∧ sp0 r b k = (0, -1)) := by
  unfold bnd idx sp0
  by_cases f2 : r.freq = 2
  · left
    rw [if_pos f2, if_pos f2, if_neg (by omega), if_pos f2, beg_div, Prod.mk.injEq]
    constructor <;> omega
  rw [if_neg f2, if_neg f2]
  by_cases f3 : r.freq = 3
  · rw [if_pos f3, if_pos f3, if_neg (by omega), if_neg f2, if_pos f3, show yr b * 12 + mon b - 1 + k = 12 * yr b + mon b - 1 + k by omega]
    unfold mos
    by_cases h : 1 ≤ (12 * yr b + mon b - 1 + k) / 12 ∧ (12 * yr b + mon b - 1 + k) / 12 ≤ 9999
    · left
      rw [if_pos h, if_pos h, Prod.mk.injEq]
      refine ⟨rfl, ?_⟩
      unfold num; omega
    · right
      rw [if_neg h, if_neg h]; exact ⟨rfl, rfl⟩
  rw [if_neg f3, if_neg f3]
  by_cases f4 : r.freq = 4
  · rw [if_pos f4, if_pos f4, if_neg (by omega), if_neg f2, if_neg f3]
    unfold mos
    by_cases h : 1 ≤ yr b + k ∧ yr b + k ≤ 9999
    · left
      rw [if_pos h, if_pos h, num_dec, num_jan]
    · right
      rw [if_neg h, if_neg h]; exact ⟨rfl, rfl⟩
  · left
    rw [if_neg f4, if_neg f4, if_pos (by omega)]
theorem bnd_max {r : Ru} (hf : 1 ≤ r.freq ∧ r.freq ≤ 4) (b k : Int) :
    (max (bnd r (idx r b + k)).1 1 ≤ min (bnd r (idx r b + k)).2 3652059 ∧ span r b k = (max (bnd r (idx r b + k)).1 1, min (bnd r (idx r b + k)).2 3652059)) ∨
    (¬ max (bnd r (idx r b + k)).1 1 ≤ min (bnd r (idx r b + k)).2 3652059 ∧ span r b k = (0, -1)) := by
  rcases bnd_sp hf b k with h | ⟨h1, h2⟩
  · rw [h]
    unfold span
    by_cases c : max (sp0 r b k).1 1 ≤ min (sp0 r b k).2 3652059
    · exact .inl ⟨c, by rw [if_pos c]⟩
    · exact .inr ⟨c, by rw [if_neg c]⟩
  · right
    rw [h1]
    refine ⟨by decide, ?_⟩
    unfold span
    rw [h2, if_neg (by decide)]
/- a span far away is none -/
theorem span_far {r : Ru} {b k : Int} (hb : dayB b = true) (h : k < -3652059 ∨ 3652059 < k) : span r b k = (0, -1) := by
  obtain ⟨b1, b2⟩ := dayB_iff.1 hb
  have y1 := yr_bd b1 b2
  have mb : 1 ≤ mon b ∧ mon b ≤ 12 := mo_bd (yr b) (b - dby (yr b))
  have bb := beg_bd b r.st
  unfold span
  rw [if_neg]
  unfold sp0
  split
  · dsimp only; omega
  split
  · dsimp only; omega
  split
  · rw [if_neg (by omega)]; decide
  · rw [if_neg (by omega)]; decide
/- a day of the program's likes -/
def sml2 (r : Ru) (b n : Int) : Bool :=
  if r.freq = 2 ∨ r.week ≠ [] then n % 7 == b % 7 else if r.freq = 3 then dom n == dom b else if r.freq = 4 then dom n == dom b && (!r.month.isEmpty || mon n == mon b) else true
def nwk (y s : Int) : Int := (Iso.w1 (y + 1) s - Iso.w1 y s) / 7
def inW2 (r : Ru) (n : Int) : Bool := r.week.isEmpty || (Iso.wy r.st n == yr n && cntB r.week (Iso.wn r.st n) (nwk (yr n) r.st))
theorem inW_eq (r : Ru) (n : Int) : inW2 r n = (r.week.isEmpty || inW r n) := by
  unfold inW2 inW nwk
  have sp := Iso.wy_spec r.st n
  by_cases h : Iso.w1 (yr n) r.st ≤ n ∧ n < Iso.w1 (yr n + 1) r.st
  · have e := Iso.wy_unique h.1 h.2
    rw [e, decide_eq_true h.1, decide_eq_true h.2]
    have e2 : Iso.wn r.st n = (n - Iso.w1 (yr n) r.st) / 7 + 1 := by unfold Iso.wn; rw [e]
    rw [e2]
    simp
  · have e : ¬ Iso.wy r.st n = yr n := by
      intro c
      rw [c] at sp
      exact h sp
    have e1 : (decide (Iso.w1 (yr n) r.st ≤ n) && decide (n < Iso.w1 (yr n + 1) r.st)) = false := by
      rw [Bool.eq_false_iff]
      intro c
      rw [Bool.and_eq_true, decide_eq_true_eq, decide_eq_true_eq] at c
      exact h c
    rw [e1, beq_eq_false_iff_ne.2 e]
    simp
/- the place of the day among those of its weekday -/
def nth (r : Ru) (n : Int) : Int × Int :=
  if r.freq = 3 ∨ r.month ≠ [] then ((dom n - 1) / 7 + 1, (dim (yr n) (mon n) - dom n) / 7 + 1) else ((n - dby (yr n) - 1) / 7 + 1, (ylen (yr n) - (n - dby (yr n))) / 7 + 1)
def onD2 (r : Ru) (n : Int) : Bool := r.day.isEmpty || r.day.any (fun w => w.2 == n % 7 && (w.1 == 0 || nthB (nth r n).1 (nth r n).2 w.1))
theorem nth_eq {r : Ru} {n : Int} (hn : dayB n = true) : nth r n = (ahd (fst r n) n, bhd (fst r n) (len r n) n) := by
  have h2 := (date_spec hn).2
  unfold nth ahd bhd fst len
  by_cases h : r.freq = 3 ∨ r.month ≠ []
  · rw [if_pos h, if_pos h, if_pos h, Prod.mk.injEq]
    unfold num at h2 ⊢
    constructor <;> congr 2 <;> omega
  · rw [if_neg h, if_neg h, if_neg h, Prod.mk.injEq]
    constructor <;> congr 2 <;> omega
theorem onD_eq {r : Ru} {n : Int} (hn : dayB n = true) : onD2 r n = (r.day.isEmpty || onD r n) := by
  unfold onD2 onD
  rw [nth_eq hn]
  congr 2
  funext w
  unfold onW
  rw [nthB_eq, Bool.or_assoc]
def lst2 (r : Ru) (n : Int) : Bool :=
  (r.month.isEmpty || hasB r.month (mon n)) && lstd r.mday (dom n) (dim (yr n) (mon n)) && lstd r.yday (n - dby (yr n)) (ylen (yr n)) && inW2 r n && onD2 r n
theorem lst_eq {r : Ru} {n : Int} (hn : dayB n = true) : lst2 r n = lstB r n := by
  unfold lst2 lstB lstd
  rw [inW_eq, onD_eq hn]
  generalize (r.month.isEmpty || hasB r.month (mon n)) = a
  generalize (r.mday.isEmpty || cntB r.mday (dom n) (dim (yr n) (mon n))) = b
  generalize (r.yday.isEmpty || cntB r.yday (n - dby (yr n)) (ylen (yr n))) = c
  generalize (r.week.isEmpty || inW r n) = d
  generalize (r.day.isEmpty || onD r n) = e
  cases a <;> cases b <;> cases c <;> cases d <;> rfl
def like2 (r : Ru) (b n : Int) : Bool := !(r.yday.isEmpty && r.mday.isEmpty && r.day.isEmpty) || sml2 r b n
theorem like_eq {r : Ru} (hw : r.week ≠ [] → r.freq = 4) (b n : Int) : sml2 r b n = sml r b n := by
  have sy : ∀ x y : Int, (x == y) = (y == x) := fun x y => by rw [Bool.eq_iff_iff, beq_iff_eq, beq_iff_eq]; exact eq_comm
  unfold sml2 sml
  rw [sy (n % 7), sy (dom n), sy (mon n)]
  by_cases f2 : r.freq = 2
  · rw [if_pos (.inl f2), if_pos f2]
  rw [if_neg f2]
  by_cases hk : r.week = []
  · rw [if_neg (by rintro (h | h); exact f2 h; exact h hk), if_neg (c := r.freq = 4 ∧ r.week ≠ []) (fun h => h.2 hk)]
  · have f4 := hw hk
    rw [if_pos (.inr hk), if_neg (by omega), if_pos ⟨f4, hk⟩]
def fits2 (r : Ru) (b n : Int) : Bool := decide (0 ≤ per r b n) && decide (per r b n % r.ivl = 0) && (lst2 r n && like2 r b n)
theorem fits_eq {r : Ru} {b n : Int} (hw : r.week ≠ [] → r.freq = 4) (hn : dayB n = true) : fits2 r b n = fits r b n := by
  unfold fits2 fits like2
  rw [lst_eq hn, like_eq hw]
  simp only [Bool.and_assoc]
end Mc
end Go.Proofs.YtmbmkldcedkbmaaGreat
