/- The texts Ex, Ey, Xa, Xb, one behind the other. -/
import Derived.Test.YtmbmkldcedkbmaaGreatZGa
import Derived.Lib.SlicesCompact
namespace Go.Proofs.YtmbmkldcedkbmaaGreat
namespace Ex
open Cal Rm

/- may a second of the day be one of the rule's? b: the second of the begin's day -/
def onB (r : Ru) (b s : Int) : Bool :=
  (if r.hour = [] then s / 3600 == b / 3600 else Mc.hasB r.hour (s / 3600)) && (if r.min = [] then s / 60 % 60 == b / 60 % 60 else Mc.hasB r.min (s / 60 % 60)) &&
    (if r.sec = [] then s % 60 == b % 60 else Mc.hasB r.sec (s % 60))
def upto (n : Nat) : List Int := (List.range n).map (fun k : Nat => (k : Int))
def secs (r : Ru) (b : Int) : List Int := (upto 86400).filter (onB r b)
/- the days from f to l -/
def days (f l : Int) : List Int := (List.range (l + 1 - f).toNat).map (fun k : Nat => f + k)
/- the times of a period's days that fit, of the seconds ss of a day; db: the begin's day -/
def ofDay (ss : List Int) (d : Int) : List Int := ss.map (fun s => 86400 * d + s)
def all (r : Ru) (db n : Int) (ss : List Int) : List Int := ((days (Mc.span r db n).1 (Mc.span r db n).2).filter (Mc.fits r db)).flatMap (ofDay ss)
/- those whose place is in the list of positions, counted from both ends -/
def pickF (pos : List Int) (len : Int) : List Int → Int → List Int
  | [], _ => []
  | x :: l, i => if Mc.cntB pos i len = true then x :: pickF pos len l (i + 1) else pickF pos len l (i + 1)
def picked (pos l : List Int) : List Int := if pos = [] then l else pickF pos l.length l 1
def tms (r : Ru) (db n : Int) (ss : List Int) : List Int := if n < 0 ∨ n % r.ivl ≠ 0 then [] else picked r.pos (all r db n ss)

/- all of them rise -/
abbrev Rise (l : List Int) : Prop := l.Pairwise (· < ·)
theorem upto_rise (n : Nat) : Rise (upto n) := by
  unfold upto
  rw [Rise, List.pairwise_map]
  exact (List.pairwise_lt_range (n := n)).imp (fun h => by omega)
theorem upto_mem {n : Nat} {x : Int} : x ∈ upto n ↔ 0 ≤ x ∧ x < n := by
  unfold upto
  rw [List.mem_map]
  constructor
  · rintro ⟨k, hk, rfl⟩
    have := List.mem_range.1 hk
    omega
  · rintro ⟨h0, h1⟩
    exact ⟨x.toNat, List.mem_range.2 (by omega), by omega⟩
theorem secs_rise (r : Ru) (b : Int) : Rise (secs r b) := (upto_rise _).filter _
theorem secs_mem {r : Ru} {b x : Int} : x ∈ secs r b ↔ (0 ≤ x ∧ x < 86400) ∧ onB r b x = true := by
  unfold secs
  rw [List.mem_filter, upto_mem]
  rfl
theorem days_rise (f l : Int) : Rise (days f l) := by
  unfold days
  rw [Rise, List.pairwise_map]
  exact (List.pairwise_lt_range (n := _)).imp (fun h => by omega)
theorem days_mem {f l x : Int} : x ∈ days f l ↔ f ≤ x ∧ x ≤ l := by
  unfold days
  rw [List.mem_map]
  constructor
  · rintro ⟨k, hk, rfl⟩
    have := List.mem_range.1 hk
    omega
  · rintro ⟨h0, h1⟩
    exact ⟨(x - f).toNat, List.mem_range.2 (by omega), by omega⟩
theorem ofDay_rise {ss : List Int} (h : Rise ss) (d : Int) : Rise (ofDay ss d) := by
  unfold ofDay
  rw [Rise, List.pairwise_map]
  exact h.imp (fun h => by omega)
theorem ofDay_mem {ss : List Int} {d x : Int} : x ∈ ofDay ss d ↔ ∃ s ∈ ss, x = 86400 * d + s := by
  unfold ofDay
  rw [List.mem_map]
  constructor
  · rintro ⟨s, hs, rfl⟩; exact ⟨s, hs, rfl⟩
  · rintro ⟨s, hs, rfl⟩; exact ⟨s, hs, rfl⟩
/- rising days, each with rising seconds of a day, rise -/
theorem flat_rise {ss : List Int} (h : Rise ss) (hb : ∀ s ∈ ss, 0 ≤ s ∧ s < 86400) : ∀ {ds : List Int}, Rise ds → Rise (ds.flatMap (ofDay ss))
  | [], _ => List.Pairwise.nil
  | d :: ds, hd => by
    rw [List.flatMap_cons, Rise, List.pairwise_append]
    have hd2 := List.pairwise_cons.1 hd
    refine ⟨ofDay_rise h d, flat_rise h hb hd2.2, ?_⟩
    intro a ha c hc
    obtain ⟨s, hs, rfl⟩ := ofDay_mem.1 ha
    obtain ⟨d2, hd3, hc2⟩ := List.mem_flatMap.1 hc
    obtain ⟨s2, hs2, rfl⟩ := ofDay_mem.1 hc2
    have := hd2.1 d2 hd3
    have := hb s hs
    have := hb s2 hs2
    omega
theorem all_rise {r : Ru} {db n : Int} {ss : List Int} (h : Rise ss) (hb : ∀ s ∈ ss, 0 ≤ s ∧ s < 86400) : Rise (all r db n ss) :=
  flat_rise h hb ((days_rise _ _).filter _)
theorem all_mem {r : Ru} {db n x : Int} {ss : List Int} : x ∈ all r db n ss ↔ ∃ d, ((Mc.span r db n).1 ≤ d ∧ d ≤ (Mc.span r db n).2) ∧ Mc.fits r db d = true ∧ ∃ s ∈ ss, x = 86400 * d + s := by
  unfold all
  rw [List.mem_flatMap]
  constructor
  · rintro ⟨d, hd, hx⟩
    rw [List.mem_filter, days_mem] at hd
    exact ⟨d, hd.1, hd.2, ofDay_mem.1 hx⟩
  · rintro ⟨d, hd, hf, hx⟩
    exact ⟨d, List.mem_filter.2 ⟨days_mem.2 hd, hf⟩, ofDay_mem.2 hx⟩
theorem pickF_sub (pos : List Int) (len : Int) : ∀ (l : List Int) (i : Int), (pickF pos len l i).Sublist l
  | [], _ => List.Sublist.refl _
  | x :: l, i => by
    unfold pickF
    split
    · exact (pickF_sub pos len l (i + 1)).cons_cons x
    · exact (pickF_sub pos len l (i + 1)).cons x
theorem picked_sub (pos l : List Int) : (picked pos l).Sublist l := by
  unfold picked
  split
  · exact List.Sublist.refl _
  · exact pickF_sub _ _ _ _
theorem tms_sub (r : Ru) (db n : Int) (ss : List Int) : (tms r db n ss).Sublist (all r db n ss) := by
  unfold tms
  split
  · exact List.nil_sublist _
  · exact picked_sub _ _
theorem tms_rise {r : Ru} {db n : Int} {ss : List Int} (h : Rise ss) (hb : ∀ s ∈ ss, 0 ≤ s ∧ s < 86400) : Rise (tms r db n ss) :=
  (all_rise h hb).sublist (tms_sub r db n ss)
/- a time of a period lies in it, on a day of layer 1 -/
theorem tms_day {r : Ru} {db n x : Int} {ss : List Int} (hb : ∀ s ∈ ss, 0 ≤ s ∧ s < 86400) (h : x ∈ tms r db n ss) : (Mc.span r db n).1 ≤ x / 86400 ∧ x / 86400 ≤ (Mc.span r db n).2 := by
  obtain ⟨d, hd, _, s, hs, rfl⟩ := all_mem.1 ((tms_sub r db n ss).subset h)
  have := hb s hs
  omega
theorem span_day (r : Ru) (b k : Int) : (Mc.span r b k = (0, -1)) ∨ (1 ≤ (Mc.span r b k).1 ∧ (Mc.span r b k).1 ≤ (Mc.span r b k).2 ∧ (Mc.span r b k).2 ≤ 3652059) := by
  unfold Mc.span
  split
  · right; dsimp only; omega
  · exact .inl rfl
/- what is cut from the end: the positions count from the first -/
theorem pickF_nil (pos : List Int) (len i : Int) : pickF pos len [] i = [] := rfl
end Ex
end Go.Proofs.YtmbmkldcedkbmaaGreat
namespace Go.Proofs.YtmbmkldcedkbmaaGreat
namespace Ex
open Cal Rm

theorem yr_mono {a b : Int} (h : a ≤ b) : yr a ≤ yr b := by
  by_cases c : yr b < yr a
  · have h1 := yr_lo a
    have h2 := yr_hi b
    have h3 := dby_mono (a := yr b + 1) (b := yr a) (by omega)
    omega
  · omega
theorem mon_spec (n : Int) : (1 ≤ mon n ∧ mon n ≤ 12) ∧ cum (yr n) (mon n) < n - dby (yr n) ∧ n - dby (yr n) ≤ cum (yr n) (mon n + 1) := by
  have h1 := yr_lo n
  have h2 := yr_hi n
  have h3 := cum_13 (yr n)
  have h4 := dby_succ (yr n)
  obtain ⟨m, m1, m2, m3, m4⟩ := mo_ex (y := yr n) (r := n - dby (yr n)) (by omega) (by omega)
  have e : mon n = m := mo_unique m1 m2 m3 m4
  rw [e]
  exact ⟨⟨m1, m2⟩, m3, m4⟩
theorem mon_mono {a b : Int} (h : a ≤ b) (hy : yr a = yr b) : mon a ≤ mon b := by
  by_cases c : mon b < mon a
  · obtain ⟨_, h1, _⟩ := mon_spec a
    obtain ⟨_, _, h2⟩ := mon_spec b
    rw [hy] at h1
    by_cases e : mon b + 1 = mon a
    · rw [e] at h2; omega
    · have := cum_mono (yr b) (m := mon b + 1) (n := mon a) (by omega)
      omega
  · omega
theorem per_mono {r : Ru} (b : Int) {x y : Int} (h : x ≤ y) : Mc.per r b x ≤ Mc.per r b y := by
  unfold Mc.per
  split
  · omega
  split
  · unfold Mc.beg; omega
  split
  · have h1 := yr_mono h
    have h2 := (mon_spec x).1
    have h3 := (mon_spec y).1
    by_cases e : yr x = yr y
    · have := mon_mono h e
      omega
    · omega
  · have := yr_mono h
    omega
/- the days of a period's span have its number -/
theorem span_num {r : Ru} {b k d : Int} (hs : 0 ≤ r.st ∧ r.st ≤ 6) (h1 : (Mc.span r b k).1 ≤ d) (h2 : d ≤ (Mc.span r b k).2) : Mc.per r b d = k ∧ dayB d = true := by
  have hd : (Mc.span r b k).1 ≤ (Mc.span r b k).2 := by omega
  have hmem : (Mc.sp0 r b k).1 ≤ d ∧ d ≤ (Mc.sp0 r b k).2 ∧ 1 ≤ d ∧ d ≤ 3652059 := by
    unfold Mc.span at h1 h2
    split at h1
    · rename_i c
      rw [if_pos c] at h2
      dsimp only at h1 h2
      omega
    · rename_i c
      rw [if_neg c] at h2
      dsimp only at h1 h2
      omega
  obtain ⟨m1, m2, m3, m4⟩ := hmem
  refine ⟨?_, dayB_iff.2 ⟨m3, m4⟩⟩
  unfold Mc.sp0 at m1 m2
  unfold Mc.per
  by_cases f1 : r.freq = 1
  · rw [if_pos f1] at m1 m2
    rw [if_pos f1]
    dsimp only at m1 m2
    omega
  rw [if_neg f1] at m1 m2
  rw [if_neg f1]
  by_cases f2 : r.freq = 2
  · rw [if_pos f2] at m1 m2
    rw [if_pos f2]
    dsimp only at m1 m2
    have e1 := Mc.beg_mod (n := b) hs.1 hs.2
    have e2 := Mc.beg_of (n := d) (s := r.st) (k := Mc.beg b r.st + 7 * k) m1 (by omega) (by omega)
    omega
  rw [if_neg f2] at m1 m2
  rw [if_neg f2]
  by_cases f3 : r.freq = 3
  · rw [if_pos f3] at m1 m2
    rw [if_pos f3]
    by_cases hy : 1 ≤ (12 * yr b + mon b - 1 + k) / 12 ∧ (12 * yr b + mon b - 1 + k) / 12 ≤ 9999
    · rw [if_pos hy] at m1 m2
      dsimp only at m1 m2
      have hok : okB ((12 * yr b + mon b - 1 + k) / 12) ((12 * yr b + mon b - 1 + k) % 12 + 1) (d - num ((12 * yr b + mon b - 1 + k) / 12) ((12 * yr b + mon b - 1 + k) % 12 + 1) 1 + 1) = true := okB_iff.2 (by omega)
      obtain ⟨u1, u2, _⟩ := date_unique hok (n := d) (by unfold num; omega)
      rw [u1, u2]; omega
    · rw [if_neg hy] at m1 m2
      dsimp only at m1 m2
      omega
  rw [if_neg f3] at m1 m2
  rw [if_neg f3]
  by_cases hy : 1 ≤ yr b + k ∧ yr b + k ≤ 9999
  · rw [if_pos hy] at m1 m2
    dsimp only at m1 m2
    have := yr_unique (n := d) (y := yr b + k) (by omega) m2
    omega
  · rw [if_neg hy] at m1 m2
    dsimp only at m1 m2
    omega
/- the times of a later period come later -/
theorem tms_lt {r : Ru} {db k k2 x y : Int} {ss : List Int} (hs : 0 ≤ r.st ∧ r.st ≤ 6) (hb : ∀ s ∈ ss, 0 ≤ s ∧ s < 86400) (hk : k < k2) (hx : x ∈ tms r db k ss) (hy : y ∈ tms r db k2 ss) : x < y := by
  obtain ⟨x1, x2⟩ := tms_day hb hx
  obtain ⟨y1, y2⟩ := tms_day hb hy
  have e1 := (span_num hs x1 x2).1
  have e2 := (span_num hs y1 y2).1
  by_cases c : y / 86400 ≤ x / 86400
  · have := per_mono (r := r) db c
    omega
  · omega
/- up to when a rule goes -/
def fin (r : Ru) (last : Int) : Int := if r.has = true then min last (if r.uk = 0 then r.ua + 86399 else r.ua) else last
/- how many at most -/
def lim (r : Ru) (most : Nat) : Nat := if r.cnt = 0 then most else min most r.cnt.toNat
def inB (B e x : Int) : Bool := decide (B < x) && decide (x ≤ e)
def stop (r : Ru) (B e k : Int) : Bool := decide ((Mc.span r (B / 86400) k).2 < (Mc.span r (B / 86400) k).1) || decide (e < 86400 * (Mc.span r (B / 86400) k).1)
/- the times behind the begin, of the next periods that count, from the k-th on, f of them at most -/
def rest (r : Ru) (B e : Int) : Nat → Int → List Int
  | 0, _ => []
  | f + 1, k => if stop r B e k = true then [] else (tms r (B / 86400) k (secs r (B % 86400))).filter (inB B e) ++ rest r B e f (k + r.ivl)
/- the reference's loop -/
def addM (r : Ru) (B e : Int) (most : Nat) (out : List Int) (x : Int) : List Int := if inB B e x = true ∧ out.length < lim r most then out ++ [x] else out
def loopM (r : Ru) (B e : Int) (most : Nat) : Nat → Int → List Int → List Int
  | 0, _, out => out
  | f + 1, k, out =>
    if most ≤ out.length then out else if stop r B e k = true then out
    else let o := (tms r (B / 86400) k (secs r (B % 86400))).foldl (addM r B e most) out
      if 0 < r.cnt ∧ r.cnt.toNat ≤ o.length then o else loopM r B e most f (k + r.ivl) o
theorem addM_fold (r : Ru) (B e : Int) (most : Nat) : ∀ (l out : List Int), l.foldl (addM r B e most) out = out ++ (l.filter (inB B e)).take (lim r most - out.length)
  | [], out => by simp
  | x :: l, out => by
    rw [List.foldl_cons, addM_fold r B e most l]
    unfold addM
    by_cases hx : inB B e x = true
    · rw [List.filter_cons_of_pos hx]
      by_cases hl : out.length < lim r most
      · rw [if_pos ⟨hx, hl⟩, List.length_append, List.append_assoc]
        have : lim r most - out.length = (lim r most - (out.length + [x].length)) + 1 := by simp; omega
        rw [this, List.take_succ_cons]
        rfl
      · rw [if_neg (fun c => hl c.2)]
        have : lim r most - out.length = 0 := by omega
        rw [this]; rfl
    · rw [List.filter_cons_of_neg hx, if_neg (fun c => hx c.1)]
theorem lim_le (r : Ru) (most : Nat) : lim r most ≤ most := by
  unfold lim; split <;> omega
theorem lim_cnt {r : Ru} (most : Nat) (h : 0 < r.cnt) : lim r most ≤ r.cnt.toNat := by
  unfold lim; rw [if_neg (by omega)]; omega
theorem loopM_eq (r : Ru) (B e : Int) (most : Nat) : ∀ (f : Nat) (k : Int) (out : List Int), loopM r B e most f k out = out ++ (rest r B e f k).take (lim r most - out.length)
  | 0, _, out => by simp [loopM, rest]
  | f + 1, k, out => by
    unfold loopM rest
    by_cases h1 : most ≤ out.length
    · have := lim_le r most
      rw [if_pos h1, show lim r most - out.length = 0 by omega]
      simp
    rw [if_neg h1]
    by_cases h2 : stop r B e k = true
    · rw [if_pos h2, if_pos h2]; simp
    rw [if_neg h2, if_neg h2]
    dsimp only
    rw [addM_fold]
    generalize (tms r (B / 86400) k (secs r (B % 86400))).filter (inB B e) = l
    have hl : (out ++ l.take (lim r most - out.length)).length = out.length + min (lim r most - out.length) l.length := by
      rw [List.length_append, List.length_take]
    rw [List.take_append, ← List.append_assoc]
    by_cases h3 : 0 < r.cnt ∧ r.cnt.toNat ≤ (out ++ l.take (lim r most - out.length)).length
    · rw [if_pos h3]
      have h4 := lim_cnt most h3.1
      have h5 : lim r most - out.length - l.length = 0 := by
        have := h3.2
        rw [hl] at this
        omega
      rw [h5]; simp
    · rw [if_neg h3, loopM_eq r B e most f, hl]
      have h5 : lim r most - (out.length + min (lim r most - out.length) l.length) = lim r most - out.length - l.length := by omega
      rw [h5]
/- the expansion: at most 'most' of it -/
def means (r : Ru) (B last : Int) (most : Nat) : List Int := if last < B ∨ most = 0 then [] else (B :: rest r B (fin r last) 3652062 0).take (lim r most)
/- further than the days no period goes on -/
theorem stop_far {r : Ru} {B e k : Int} (hb : dayB (B / 86400) = true) (hs : 0 ≤ r.st ∧ r.st ≤ 6) (h : 3652059 < k) : stop r B e k = true := by
  unfold stop
  have : (Mc.span r (B / 86400) k).2 < (Mc.span r (B / 86400) k).1 := by
    by_cases c : (Mc.span r (B / 86400) k).2 < (Mc.span r (B / 86400) k).1
    · exact c
    · have e := span_num hs (k := k) (Int.le_refl _) (by omega : (Mc.span r (B / 86400) k).1 ≤ (Mc.span r (B / 86400) k).2)
      obtain ⟨d1, d2⟩ := dayB_iff.1 e.2
      obtain ⟨b1, b2⟩ := dayB_iff.1 hb
      have p := per_mono (r := r) (B / 86400) (x := (Mc.span r (B / 86400) k).1) (y := 3652059) d2
      have hp : Mc.per r (B / 86400) 3652059 ≤ 3652059 := by
        have y1 := yr_bd (n := 3652059) (by omega) (by omega)
        have y2 := yr_bd b1 b2
        have q1 := (mon_spec (B / 86400)).1
        have q2 := (mon_spec 3652059).1
        unfold Mc.per
        split
        · omega
        split
        · unfold Mc.beg; omega
        split <;> omega
      omega
  rw [decide_eq_true this]; rfl
theorem rest_more (r : Ru) (B e : Int) (hb : dayB (B / 86400) = true) (hs : 0 ≤ r.st ∧ r.st ≤ 6) (hi : 1 ≤ r.ivl) : ∀ (f g : Nat) (k : Int), 0 ≤ k → 3652060 ≤ k + f → rest r B e (f + g) k = rest r B e f k
  | 0, 0, _, _, _ => rfl
  | 0, g + 1, k, _, h => by
    rw [Nat.zero_add]
    unfold rest
    rw [if_pos (stop_far hb hs (by omega))]
  | f + 1, g, k, h0, h => by
    rw [show f + 1 + g = (f + g) + 1 by omega]
    unfold rest
    rw [rest_more r B e hb hs hi f g (k + r.ivl) (by omega) (by omega)]
/- all of it rises -/
theorem rest_mem {r : Ru} {B e : Int} : ∀ {f : Nat} {k x : Int}, x ∈ rest r B e f k → (B < x ∧ x ≤ e) ∧ ∃ j : Nat, x ∈ tms r (B / 86400) (k + j * r.ivl) (secs r (B % 86400))
  | 0, _, _, h => by cases h
  | f + 1, k, x, h => by
    unfold rest at h
    split at h
    · cases h
    · rw [List.mem_append] at h
      rcases h with h | h
      · rw [List.mem_filter] at h
        refine ⟨by have := h.2; unfold inB at this; simpa using this, 0, ?_⟩
        simpa using h.1
      · obtain ⟨h1, j, h2⟩ := rest_mem h
        refine ⟨h1, j + 1, ?_⟩
        rw [show k + ((j + 1 : Nat) : Int) * r.ivl = k + r.ivl + j * r.ivl by push_cast; rw [Int.add_mul]; omega]
        exact h2
theorem secs_bd {r : Ru} {b : Int} : ∀ s ∈ secs r b, 0 ≤ s ∧ s < 86400 := fun _ h => (secs_mem.1 h).1
theorem rest_rise {r : Ru} {B e : Int} (hs : 0 ≤ r.st ∧ r.st ≤ 6) (hi : 1 ≤ r.ivl) : ∀ (f : Nat) (k : Int), Rise (rest r B e f k)
  | 0, _ => List.Pairwise.nil
  | f + 1, k => by
    unfold rest
    split
    · exact List.Pairwise.nil
    · rw [Rise, List.pairwise_append]
      refine ⟨(tms_rise (secs_rise _ _) secs_bd).filter _, rest_rise hs hi f _, ?_⟩
      intro x hx y hy
      obtain ⟨_, j, hj⟩ := rest_mem hy
      have hj0 : 0 ≤ (j : Int) * r.ivl := Int.mul_nonneg (by omega) (by omega)
      exact tms_lt hs secs_bd (by omega) (List.mem_filter.1 hx).1 hj
theorem means_rise {r : Ru} {B last : Int} {most : Nat} (hs : 0 ≤ r.st ∧ r.st ≤ 6) (hi : 1 ≤ r.ivl) : Rise (means r B last most) := by
  unfold means
  split
  · exact List.Pairwise.nil
  · refine List.Pairwise.sublist (List.take_sublist _ _) ?_
    rw [List.pairwise_cons]
    exact ⟨fun x hx => (rest_mem hx).1.1, rest_rise hs hi _ _⟩
end Ex
end Go.Proofs.YtmbmkldcedkbmaaGreat
namespace Go.Proofs.YtmbmkldcedkbmaaGreat
namespace Ex
open Cal Rm

theorem lpB_sh (y u : Int) : lpB (y + 400 * u) = lpB y := by
  rw [Bool.eq_iff_iff, lpB_iff, lpB_iff]; omega
theorem lp_sh (y u : Int) : lp (y + 400 * u) = lp y := by unfold lp; rw [lpB_sh]
theorem dby_sh (y u : Int) : dby (y + 400 * u) = dby y + 146097 * u := by unfold dby; omega
theorem cum_sh (y u m : Int) : cum (y + 400 * u) m = cum y m := by unfold cum; rw [lp_sh]
theorem dim_sh (y u m : Int) : dim (y + 400 * u) m = dim y m := by unfold dim; rw [lp_sh]
theorem yr_sh (n u : Int) : yr (n + 146097 * u) = yr n + 400 * u := by
  refine yr_unique ?_ ?_
  · rw [dby_sh]; have := yr_lo n; omega
  · rw [show yr n + 400 * u + 1 = (yr n + 1) + 400 * u by omega, dby_sh]; have := yr_hi n; omega
theorem ylen_sh (y u : Int) : Mc.ylen (y + 400 * u) = Mc.ylen y := by
  unfold Mc.ylen
  rw [show y + 400 * u + 1 = (y + 1) + 400 * u by omega, dby_sh, dby_sh]; omega
theorem mon_sh (n u : Int) : mon (n + 146097 * u) = mon n := by
  obtain ⟨⟨m1, m2⟩, m3, m4⟩ := mon_spec n
  refine mo_unique m1 m2 ?_ ?_
  · rw [yr_sh, cum_sh, dby_sh]; omega
  · rw [yr_sh, cum_sh, dby_sh]; omega
theorem dom_sh (n u : Int) : dom (n + 146097 * u) = dom n := by
  unfold dom; rw [mon_sh, yr_sh, cum_sh, dby_sh]; omega
theorem beg_sh (n s u : Int) : Mc.beg (n + 146097 * u) s = Mc.beg n s + 146097 * u := by unfold Mc.beg; omega
theorem w1_sh (y s u : Int) : Iso.w1 (y + 400 * u) s = Iso.w1 y s + 146097 * u := by unfold Iso.w1; rw [dby_sh]; omega
/- how many periods four centuries have -/
def PP (r : Ru) : Int := if r.freq = 1 then 146097 else if r.freq = 2 then 20871 else if r.freq = 3 then 4800 else 400
theorem per_sh (r : Ru) (b n u : Int) : Mc.per r b (n + 146097 * u) = Mc.per r b n + u * PP r := by
  unfold Mc.per PP
  by_cases f1 : r.freq = 1
  · simp only [if_pos f1]; omega
  simp only [if_neg f1]
  by_cases f2 : r.freq = 2
  · simp only [if_pos f2]; rw [beg_sh]; omega
  simp only [if_neg f2]
  by_cases f3 : r.freq = 3
  · simp only [if_pos f3]; rw [yr_sh, mon_sh]; omega
  simp only [if_neg f3]; rw [yr_sh]; omega
theorem inW_sh (r : Ru) (n u : Int) : Mc.inW r (n + 146097 * u) = Mc.inW r n := by
  unfold Mc.inW
  rw [yr_sh, show yr n + 400 * u + 1 = (yr n + 1) + 400 * u by omega, w1_sh, w1_sh]
  generalize Iso.w1 (yr n) r.st = a
  generalize Iso.w1 (yr n + 1) r.st = c
  have e1 : decide (a + 146097 * u ≤ n + 146097 * u) = decide (a ≤ n) := decide_eq_decide.2 (by omega)
  have e2 : decide (n + 146097 * u < c + 146097 * u) = decide (n < c) := decide_eq_decide.2 (by omega)
  rw [e1, e2, show n + 146097 * u - (a + 146097 * u) = n - a by omega, show c + 146097 * u - (a + 146097 * u) = c - a by omega]
theorem fst_sh (r : Ru) (n u : Int) : Mc.fst r (n + 146097 * u) = Mc.fst r n + 146097 * u := by
  unfold Mc.fst
  rw [yr_sh, mon_sh, dby_sh]
  split
  · unfold num; rw [dby_sh, cum_sh]; omega
  · omega
theorem len_sh (r : Ru) (n u : Int) : Mc.len r (n + 146097 * u) = Mc.len r n := by
  unfold Mc.len
  rw [yr_sh, mon_sh, dim_sh, ylen_sh]
theorem onD_sh (r : Ru) (n u : Int) : Mc.onD r (n + 146097 * u) = Mc.onD r n := by
  unfold Mc.onD
  rw [fst_sh, len_sh]
  have e1 : Mc.ahd (Mc.fst r n + 146097 * u) (n + 146097 * u) = Mc.ahd (Mc.fst r n) n := by unfold Mc.ahd; omega
  have e2 : Mc.bhd (Mc.fst r n + 146097 * u) (Mc.len r n) (n + 146097 * u) = Mc.bhd (Mc.fst r n) (Mc.len r n) n := by unfold Mc.bhd; omega
  rw [e1, e2]
  have e3 : Mc.onW (n + 146097 * u) = Mc.onW n := by
    funext a b w
    unfold Mc.onW
    rw [show (n + 146097 * u) % 7 = n % 7 by omega]
  rw [e3]
theorem sml_sh (r : Ru) (b n u : Int) : Mc.sml r b (n + 146097 * u) = Mc.sml r b n := by
  unfold Mc.sml
  rw [show (n + 146097 * u) % 7 = n % 7 by omega, dom_sh, mon_sh]
theorem lstB_sh (r : Ru) (n u : Int) : Mc.lstB r (n + 146097 * u) = Mc.lstB r n := by
  unfold Mc.lstB
  rw [mon_sh, inW_sh, onD_sh, dom_sh, yr_sh, dby_sh, ylen_sh, dim_sh, show n + 146097 * u - (dby (yr n) + 146097 * u) = n - dby (yr n) by omega]
theorem fits_sh {r : Ru} {b n t : Int} (h0 : 0 ≤ Mc.per r b n) (h1 : 0 ≤ Mc.per r b (n + 146097 * (r.ivl * t))) : Mc.fits r b (n + 146097 * (r.ivl * t)) = Mc.fits r b n := by
  unfold Mc.fits
  rw [lstB_sh, sml_sh, decide_eq_true h0, decide_eq_true h1, per_sh, Int.mul_assoc, Int.add_mul_emod_self_left]
/- a period, four centuries earlier -/
theorem span_sh {r : Ru} {b j u : Int} (h : (Mc.span r b j).1 ≤ (Mc.span r b j).2) (h1 : 1 < (Mc.span r b j).1) (h2 : 1 ≤ (Mc.span r b j).1 - 146097 * u) (hu : 0 ≤ u) :
    (Mc.span r b (j - u * PP r)).1 = (Mc.span r b j).1 - 146097 * u ∧ (Mc.span r b j).2 - 146097 * u ≤ (Mc.span r b (j - u * PP r)).2 := by
  have key : (Mc.sp0 r b (j - u * PP r)).1 = (Mc.sp0 r b j).1 - 146097 * u ∧ (Mc.sp0 r b j).2 - 146097 * u = (Mc.sp0 r b (j - u * PP r)).2 ∧ (Mc.sp0 r b j).1 ≤ (Mc.sp0 r b j).2 → (Mc.span r b (j - u * PP r)).1 = (Mc.span r b j).1 - 146097 * u ∧ (Mc.span r b j).2 - 146097 * u ≤ (Mc.span r b (j - u * PP r)).2 := by
    rintro ⟨k1, k2, k3⟩
    unfold Mc.span at h h1 h2 ⊢
    generalize Mc.sp0 r b (j - u * PP r) = p at *
    generalize Mc.sp0 r b j = q at *
    by_cases c : max q.1 1 ≤ min q.2 3652059
    · simp only [if_pos c] at h h1 h2 ⊢
      have c2 : max p.1 1 ≤ min p.2 3652059 := by omega
      simp only [if_pos c2]
      omega
    · simp only [if_neg c] at h
      omega
  have hm : max (Mc.sp0 r b j).1 1 ≤ min (Mc.sp0 r b j).2 3652059 ∧ (Mc.span r b j).1 = max (Mc.sp0 r b j).1 1 := by
    unfold Mc.span at h ⊢
    by_cases c : max (Mc.sp0 r b j).1 1 ≤ min (Mc.sp0 r b j).2 3652059
    · rw [if_pos c]; exact ⟨c, rfl⟩
    · rw [if_neg c] at h; simp at h
  obtain ⟨hm1, hm2⟩ := hm
  rw [hm2] at h1 h2
  refine key ?_
  clear key h hm2
  unfold Mc.sp0 PP at *
  by_cases f1 : r.freq = 1
  · simp only [if_pos f1] at *; omega
  simp only [if_neg f1] at *
  by_cases f2 : r.freq = 2
  · simp only [if_pos f2] at *; omega
  simp only [if_neg f2] at *
  by_cases f3 : r.freq = 3
  · simp only [if_pos f3] at *
    have e1 : (12 * yr b + mon b - 1 + (j - u * 4800)) / 12 = (12 * yr b + mon b - 1 + j) / 12 - 400 * u := by omega
    have e2 : (12 * yr b + mon b - 1 + (j - u * 4800)) % 12 = (12 * yr b + mon b - 1 + j) % 12 := by omega
    rw [e1, e2]
    generalize hy : (12 * yr b + mon b - 1 + j) / 12 = y at *
    have hmm : 1 ≤ (12 * yr b + mon b - 1 + j) % 12 + 1 ∧ (12 * yr b + mon b - 1 + j) % 12 + 1 ≤ 12 := by omega
    generalize (12 * yr b + mon b - 1 + j) % 12 + 1 = m at *
    by_cases c : 1 ≤ y ∧ y ≤ 9999
    · simp only [if_pos c] at *
      have d1 := dby_sh (y - 400 * u) u
      have d2 := cum_sh (y - 400 * u) u m
      have d3 := dim_sh (y - 400 * u) u m
      rw [show y - 400 * u + 400 * u = y by omega] at d1 d2 d3
      have d4 := dim_lo y hmm.1 hmm.2
      have hy1 : 1 ≤ y - 400 * u := by
        by_cases c1 : 1 ≤ y - 400 * u
        · exact c1
        · have a1 := dby_mono (a := y - 400 * u + 1) (b := 1) (by omega)
          have a2 := dby_1
          have a3 := dby_succ (y - 400 * u)
          have a4 := cum_13 (y - 400 * u)
          have a5 := cum_mono (y - 400 * u) (m := m) (n := 13) (by omega)
          unfold num at h2
          omega
      have c2 : 1 ≤ y - 400 * u ∧ y - 400 * u ≤ 9999 := ⟨hy1, by omega⟩
      simp only [if_pos c2]
      unfold num at *
      omega
    · simp only [if_neg c] at *
      omega
  simp only [if_neg f3] at *
  by_cases c : 1 ≤ yr b + j ∧ yr b + j ≤ 9999
  · simp only [if_pos c] at *
    have d1 := dby_sh (yr b + (j - u * 400)) u
    have d2 := dby_sh (yr b + (j - u * 400) + 1) u
    rw [show yr b + (j - u * 400) + 400 * u = yr b + j by omega] at d1
    rw [show yr b + (j - u * 400) + 1 + 400 * u = yr b + j + 1 by omega] at d2
    have hy1 : 1 ≤ yr b + (j - u * 400) := by
      by_cases c1 : 1 ≤ yr b + (j - u * 400)
      · exact c1
      · have a1 := dby_mono (a := yr b + (j - u * 400) + 1) (b := 1) (by omega)
        have a2 := dby_1
        have a3 := dby_succ (yr b + (j - u * 400))
        have a4 := lp_01 (yr b + (j - u * 400))
        omega
    have c2 : 1 ≤ yr b + (j - u * 400) ∧ yr b + (j - u * 400) ≤ 9999 := ⟨hy1, by omega⟩
    have a3 := dby_succ (yr b + j)
    have a4 := lp_01 (yr b + j)
    simp only [if_pos c2]
    omega
  · simp only [if_neg c] at *
    omega
/- whether a time is left depends on how many there are -/
theorem pickF_ne (pos : List Int) (len : Int) : ∀ (l : List Int) (i : Int), pickF pos len l i ≠ [] ↔ ∃ t : Nat, t < l.length ∧ Mc.cntB pos (i + t) len = true
  | [], i => by simp [pickF]
  | x :: l, i => by
    unfold pickF
    by_cases c : Mc.cntB pos i len = true
    · rw [if_pos c]
      simp only [ne_eq, reduceCtorEq, not_false_eq_true, true_iff]
      exact ⟨0, by simp, by simpa using c⟩
    · rw [if_neg c, pickF_ne pos len l (i + 1)]
      constructor
      · rintro ⟨t, h1, h2⟩
        exact ⟨t + 1, by simpa using h1, by rw [← h2]; congr 1; omega⟩
      · rintro ⟨t, h1, h2⟩
        cases t with
        | zero => exact absurd (by simpa using h2) c
        | succ t => exact ⟨t, by simpa using h1, by rw [← h2]; congr 1; omega⟩
theorem picked_ne {pos l m : List Int} (h : l.length ≤ m.length) (hl : picked pos l ≠ []) : picked pos m ≠ [] := by
  unfold picked at hl ⊢
  by_cases c : pos = []
  · rw [if_pos c] at hl ⊢
    intro e
    rw [e] at h
    exact hl (List.eq_nil_of_length_eq_zero (by simpa using h))
  · rw [if_neg c] at hl ⊢
    rw [pickF_ne] at hl ⊢
    obtain ⟨t, h1, h2⟩ := hl
    unfold Mc.cntB at h2
    rw [Bool.or_eq_true] at h2
    rcases h2 with h2 | h2
    · exact ⟨t, by omega, by unfold Mc.cntB; rw [h2]; rfl⟩
    · refine ⟨t + (m.length - l.length), by omega, ?_⟩
      unfold Mc.cntB
      rw [show 1 + ((t + (m.length - l.length) : Nat) : Int) - (m.length : Int) - 1 = 1 + (t : Int) - (l.length : Int) - 1 by omega, h2, Bool.or_true]
theorem ofDay_len (ss : List Int) (d : Int) : (ofDay ss d).length = ss.length := by unfold ofDay; simp
theorem flat_len (ss : List Int) : ∀ ds : List Int, (ds.flatMap (ofDay ss)).length = ds.length * ss.length
  | [] => by simp
  | d :: ds => by rw [List.flatMap_cons, List.length_append, flat_len ss ds, ofDay_len, List.length_cons, Nat.add_mul]; omega
theorem days_split {f m l : Int} (h1 : f ≤ m + 1) (h2 : m ≤ l) : days f l = days f m ++ days (m + 1) l := by
  unfold days
  rw [show (l + 1 - f).toNat = (m + 1 - f).toNat + (l + 1 - (m + 1)).toNat by omega, List.range_add, List.map_append, List.map_map]
  congr 1
  refine List.map_congr_left ?_
  intro k _
  simp only [Function.comp_apply]
  omega
theorem days_sh (f l T : Int) : days (f - T) (l - T) = (days f l).map (fun d => d - T) := by
  unfold days
  rw [List.map_map, show l - T + 1 - (f - T) = l + 1 - f by omega]
  refine List.map_congr_left ?_
  intro k _
  simp only [Function.comp_apply]
  omega
/- no time, until now, lies on a day behind s -/
def SeenP (r : Ru) (db : Int) (ss : List Int) (k s : Int) : Prop := db ≤ s ∧ ∀ j, 0 ≤ j → j % r.ivl = 0 → j < k → s < (Mc.span r db j).1 → tms r db j ss = []
theorem seen_zero (r : Ru) (db : Int) (ss : List Int) : SeenP r db ss 0 db := ⟨Int.le_refl _, fun j h0 _ h1 => by omega⟩
theorem ivl_next {r : Ru} (hi : 1 ≤ r.ivl) {k j : Int} (hk : k % r.ivl = 0) (hj : j % r.ivl = 0) (h : j < k + r.ivl) : j ≤ k := by
  obtain ⟨a, ha⟩ := Int.dvd_of_emod_eq_zero hk
  obtain ⟨c, hc⟩ := Int.dvd_of_emod_eq_zero hj
  have : r.ivl * c < r.ivl * (a + 1) := by rw [Int.mul_add, Int.mul_one, ← ha, ← hc]; exact h
  have h2 := Int.lt_of_mul_lt_mul_left this (by omega)
  rw [ha, hc]
  exact Int.mul_le_mul_of_nonneg_left (by omega) (by omega)
theorem seen_none {r : Ru} {db k s : Int} {ss : List Int} (hi : 1 ≤ r.ivl) (hk : k % r.ivl = 0) (h : SeenP r db ss k s) (hn : tms r db k ss = []) : SeenP r db ss (k + r.ivl) s := by
  refine ⟨h.1, fun j h0 hj h1 h2 => ?_⟩
  by_cases c : j = k
  · rw [c]; exact hn
  · exact h.2 j h0 hj (by have := ivl_next hi hk hj h1; omega) h2
theorem seen_some {r : Ru} {db k : Int} {ss : List Int} (hs : 0 ≤ r.st ∧ r.st ≤ 6) (hb : dayB db = true) (hi : 1 ≤ r.ivl) (h0 : 0 ≤ k) (hk : k % r.ivl = 0) (hv : (Mc.span r db k).1 ≤ (Mc.span r db k).2) : SeenP r db ss (k + r.ivl) (Mc.span r db k).2 := by
  obtain ⟨n1, n2⟩ := span_num hs hv (Int.le_refl _)
  refine ⟨?_, fun j j0 hj h1 h2 => ?_⟩
  · by_cases c : db ≤ (Mc.span r db k).2
    · exact c
    · have p := per_mono (r := r) db (x := (Mc.span r db k).2) (y := db) (by omega)
      have e : Mc.per r db db = 0 := by unfold Mc.per; split; omega; split; simp; split <;> omega
      have hk0 : k = 0 := by omega
      have := (Mc.span_in (r := r) hs hb hb).2.2
      rw [e, ← hk0] at this
      exact this
  · exfalso
    have hjk := ivl_next hi hk hj h1
    by_cases c : (Mc.span r db j).1 ≤ (Mc.span r db j).2
    · have e := (span_num hs (Int.le_refl _) c).1
      have p := per_mono (r := r) db (x := (Mc.span r db k).2) (y := (Mc.span r db j).1) (by omega)
      have : j = k := by omega
      rw [this] at h2
      omega
    · rcases span_day r db j with d | d
      · rw [d] at h2
        have := dayB_iff.1 n2
        dsimp only at h2
        omega
      · omega
theorem cutT {r : Ru} {db k s j : Int} {ss : List Int} (hs : 0 ≤ r.st ∧ r.st ≤ 6) (hb : dayB db = true) (hi : 1 ≤ r.ivl) (h : SeenP r db ss k s) (hv : (Mc.span r db k).1 ≤ (Mc.span r db k).2) (hc : r.ivl * 146097 < (Mc.span r db k).1 - s)
    (hkj : k ≤ j) : tms r db j ss = [] := by
  by_cases hne : tms r db j ss = []
  · exact hne
  exfalso
  have hj : 0 ≤ j ∧ j % r.ivl = 0 := by
    unfold tms at hne
    split at hne
    · exact absurd rfl hne
    · omega
  have hjv : (Mc.span r db j).1 ≤ (Mc.span r db j).2 := by
    by_cases c : (Mc.span r db j).1 ≤ (Mc.span r db j).2
    · exact c
    · exfalso
      apply hne
      have : days (Mc.span r db j).1 (Mc.span r db j).2 = [] := by unfold days; rw [show (_ : Int).toNat = 0 by omega]; rfl
      unfold tms all
      rw [this, if_neg (by omega)]
      unfold picked
      split <;> rfl
  have hf : (Mc.span r db k).1 ≤ (Mc.span r db j).1 := by
    have e1 := (span_num hs (Int.le_refl _) hv).1
    have e2 := (span_num hs (Int.le_refl _) hjv).1
    by_cases c : (Mc.span r db k).1 ≤ (Mc.span r db j).1
    · exact c
    · have p := per_mono (r := r) db (x := (Mc.span r db j).1) (y := (Mc.span r db k).1) (by omega)
      have : j = k := by omega
      rw [this]; omega
  obtain ⟨hs0, hnone⟩ := h
  have hb1 := dayB_iff.1 hb
  generalize hL : r.ivl * 146097 = L at hc
  have hLp : 0 < L := by omega
  obtain ⟨t, ht⟩ : ∃ t, ((Mc.span r db j).1 - s - 1) / L = t := ⟨_, rfl⟩
  have q1 := Int.mul_ediv_add_emod ((Mc.span r db j).1 - s - 1) L
  have q2 := Int.emod_nonneg ((Mc.span r db j).1 - s - 1) (b := L) (by omega)
  have q3 := Int.emod_lt_of_pos ((Mc.span r db j).1 - s - 1) hLp
  have t0 : 0 ≤ t := by rw [← ht]; exact Int.ediv_nonneg (by omega) (by omega)
  rw [ht] at q1
  have hLt : L * t = 146097 * (r.ivl * t) := by rw [← hL, Int.mul_comm r.ivl 146097, Int.mul_assoc]
  have hu0 : 0 ≤ r.ivl * t := Int.mul_nonneg (by omega) t0
  obtain ⟨s1, s2⟩ := span_sh (r := r) (b := db) (j := j) (u := r.ivl * t) hjv (by omega) (by omega) hu0
  have hv2 : (Mc.span r db (j - r.ivl * t * PP r)).1 ≤ (Mc.span r db (j - r.ivl * t * PP r)).2 := by omega
  have e1 := (span_num hs (Int.le_refl _) hv).1
  have e2 := (span_num hs (Int.le_refl _) hv2).1
  have p0 := per_mono (r := r) db (x := db) (y := (Mc.span r db (j - r.ivl * t * PP r)).1) (by omega)
  have e0 : Mc.per r db db = 0 := by unfold Mc.per; split; omega; split; simp; split <;> omega
  have hj0 : 0 ≤ j - r.ivl * t * PP r := by omega
  have hjm : (j - r.ivl * t * PP r) % r.ivl = 0 := by
    rw [Int.mul_assoc, Int.sub_mul_emod_self_left]
    exact hj.2
  have hjk : j - r.ivl * t * PP r < k := by
    have p := per_mono (r := r) db (x := (Mc.span r db (j - r.ivl * t * PP r)).1) (y := (Mc.span r db k).1) (by omega)
    by_cases c : j - r.ivl * t * PP r = k
    · rw [c] at s1; omega
    · omega
  have hno := hnone _ hj0 hjm hjk (by omega)
  apply hne
  unfold tms at hno hne ⊢
  rw [if_neg (by omega)] at hno hne ⊢
  by_cases hz : picked r.pos (all r db j ss) = []
  · exact hz
  exfalso
  refine picked_ne ?_ hz hno
  unfold all
  rw [flat_len, flat_len]
  refine Nat.mul_le_mul_right _ ?_
  have h3 : days (Mc.span r db (j - r.ivl * t * PP r)).1 (Mc.span r db (j - r.ivl * t * PP r)).2 = (days (Mc.span r db j).1 (Mc.span r db j).2).map (fun d => d - 146097 * (r.ivl * t)) ++ days ((Mc.span r db j).2 - 146097 * (r.ivl * t) + 1) (Mc.span r db (j - r.ivl * t * PP r)).2 := by
    rw [← days_sh, s1]
    exact days_split (by omega) s2
  rw [h3, List.filter_append, List.length_append, List.filter_map, List.length_map]
  refine Nat.le_trans (Nat.le_of_eq ?_) (Nat.le_add_right _ _)
  congr 1
  refine List.filter_congr ?_
  intro d hd
  rw [days_mem] at hd
  have g1 := (span_num hs hd.1 hd.2).1
  have g2 : 0 ≤ Mc.per r db (d - 146097 * (r.ivl * t)) := by
    have := per_mono (r := r) db (x := db) (y := d - 146097 * (r.ivl * t)) (by omega)
    omega
  have g3 := fits_sh (r := r) (b := db) (n := d - 146097 * (r.ivl * t)) (t := t) g2 (by rw [show d - 146097 * (r.ivl * t) + 146097 * (r.ivl * t) = d by omega]; omega)
  rw [show d - 146097 * (r.ivl * t) + 146097 * (r.ivl * t) = d by omega] at g3
  simp only [Function.comp_apply]
  exact g3
theorem cut_rest {r : Ru} {B e k s : Int} (hs : 0 ≤ r.st ∧ r.st ≤ 6) (hb : dayB (B / 86400) = true) (hi : 1 ≤ r.ivl) (h : SeenP r (B / 86400) (secs r (B % 86400)) k s) (hv : (Mc.span r (B / 86400) k).1 ≤ (Mc.span r (B / 86400) k).2)
    (hc : r.ivl * 146097 < (Mc.span r (B / 86400) k).1 - s) (f : Nat) : rest r B e f k = [] := by
  cases hr : rest r B e f k with
  | nil => rfl
  | cons x l =>
    exfalso
    have hx : x ∈ rest r B e f k := by rw [hr]; simp
    obtain ⟨_, j, hj⟩ := rest_mem hx
    have hj0 : 0 ≤ (j : Int) * r.ivl := Int.mul_nonneg (by omega) (by omega)
    rw [cutT hs hb hi h hv hc (by omega)] at hj
    cases hj
end Ex
end Go.Proofs.YtmbmkldcedkbmaaGreat
namespace Go.Proofs.YtmbmkldcedkbmaaGreat
namespace Ex
open Cal Rm

theorem rise_ext : ∀ {l m : List Int}, Rise l → Rise m → (∀ x, x ∈ l ↔ x ∈ m) → l = m
  | [], [], _, _, _ => rfl
  | [], y :: m, _, _, h => absurd ((h y).2 (by simp)) (by simp)
  | x :: l, [], _, _, h => absurd ((h x).1 (by simp)) (by simp)
  | x :: l, y :: m, hl, hm, h => by
    have hl2 := List.pairwise_cons.1 hl
    have hm2 := List.pairwise_cons.1 hm
    have e : x = y := by
      have h1 := (h x).1 (by simp)
      have h2 := (h y).2 (by simp)
      rcases List.mem_cons.1 h1 with h1 | h1
      · exact h1
      · rcases List.mem_cons.1 h2 with h2 | h2
        · exact h2.symm
        · have a := hm2.1 x h1
          have b := hl2.1 y h2
          omega
    subst e
    congr 1
    refine rise_ext hl2.2 hm2.2 (fun z => ⟨fun hz => ?_, fun hz => ?_⟩)
    · rcases List.mem_cons.1 ((h z).1 (by simp [hz])) with e | hz2
      · have := hl2.1 z hz; omega
      · exact hz2
    · rcases List.mem_cons.1 ((h z).2 (by simp [hz])) with e | hz2
      · have := hm2.1 z hz; omega
      · exact hz2
theorem rise_of : ∀ {l : List Int}, rise l = true → Rise l
  | [], _ => List.Pairwise.nil
  | x :: l, h => List.pairwise_cons.2 ⟨fun y hy => rise_lt l x h y hy, rise_of (rise_tail h)⟩
/- the list, or what the begin has -/
def ob (l : List Int) (b : Int) : List Int := if l = [] then [b] else l
def prodS (h m s : List Int) : List Int := h.flatMap (fun a => m.flatMap (fun b => s.map (fun c => (a * 60 + b) * 60 + c)))
theorem flatMap_rise {f : Int → List Int} : ∀ {l : List Int}, Rise l → (∀ a ∈ l, Rise (f a)) → (∀ a ∈ l, ∀ b ∈ l, a < b → ∀ x ∈ f a, ∀ y ∈ f b, x < y) → Rise (l.flatMap f)
  | [], _, _, _ => List.Pairwise.nil
  | a :: l, hl, h1, h2 => by
    have hl2 := List.pairwise_cons.1 hl
    rw [List.flatMap_cons, Rise, List.pairwise_append]
    refine ⟨h1 a (by simp), flatMap_rise hl2.2 (fun b hb => h1 b (by simp [hb])) (fun b hb c hc => h2 b (by simp [hb]) c (by simp [hc])), ?_⟩
    intro x hx y hy
    obtain ⟨b, hb, hy2⟩ := List.mem_flatMap.1 hy
    exact h2 a (by simp) b (by simp [hb]) (hl2.1 b hb) x hx y hy2
theorem prodS_mem {h m s : List Int} (hm : ∀ b ∈ m, 0 ≤ b ∧ b ≤ 59) (hs : ∀ c ∈ s, 0 ≤ c ∧ c ≤ 59) {x : Int} : x ∈ prodS h m s ↔ x / 3600 ∈ h ∧ x / 60 % 60 ∈ m ∧ x % 60 ∈ s := by
  unfold prodS
  constructor
  · intro hx
    obtain ⟨a, ha, hx⟩ := List.mem_flatMap.1 hx
    obtain ⟨b, hb, hx⟩ := List.mem_flatMap.1 hx
    obtain ⟨c, hc, rfl⟩ := List.mem_map.1 hx
    have := hm b hb
    have := hs c hc
    rw [show ((a * 60 + b) * 60 + c) / 3600 = a by omega, show ((a * 60 + b) * 60 + c) / 60 % 60 = b by omega, show ((a * 60 + b) * 60 + c) % 60 = c by omega]
    exact ⟨ha, hb, hc⟩
  · rintro ⟨ha, hb, hc⟩
    refine List.mem_flatMap.2 ⟨_, ha, List.mem_flatMap.2 ⟨_, hb, List.mem_map.2 ⟨_, hc, ?_⟩⟩⟩
    omega
theorem prodS_rise {h m s : List Int} (rh : Rise h) (rm : Rise m) (rs : Rise s) (hm : ∀ b ∈ m, 0 ≤ b ∧ b ≤ 59) (hs : ∀ c ∈ s, 0 ≤ c ∧ c ≤ 59) : Rise (prodS h m s) := by
  unfold prodS
  refine flatMap_rise rh (fun a _ => flatMap_rise rm (fun b _ => ?_) ?_) ?_
  · rw [Rise, List.pairwise_map]
    exact rs.imp (fun h => by omega)
  · intro b hb c hc hbc x hx y hy
    obtain ⟨u, hu, rfl⟩ := List.mem_map.1 hx
    obtain ⟨v, hv, rfl⟩ := List.mem_map.1 hy
    have := hs u hu
    have := hs v hv
    omega
  · intro a ha b hb hab x hx y hy
    obtain ⟨u, hu, hx⟩ := List.mem_flatMap.1 hx
    obtain ⟨v, hv, hy⟩ := List.mem_flatMap.1 hy
    obtain ⟨u2, hu2, rfl⟩ := List.mem_map.1 hx
    obtain ⟨v2, hv2, rfl⟩ := List.mem_map.1 hy
    have := hm u hu
    have := hm v hv
    have := hs u2 hu2
    have := hs v2 hv2
    omega
theorem ob_rise {l : List Int} (h : rise l = true) (b : Int) : Rise (ob l b) := by
  unfold ob
  split
  · exact List.pairwise_singleton _ _
  · exact rise_of h
theorem ob_ne (l : List Int) (b : Int) : ob l b ≠ [] := by
  unfold ob
  split
  · simp
  · assumption
theorem ob_mem {l : List Int} {b x : Int} : x ∈ ob l b ↔ (if l = [] then x == b else Mc.hasB l x) = true := by
  unfold ob
  by_cases h : l = []
  · rw [if_pos h, if_pos h]; simp
  · rw [if_neg h, if_neg h]; unfold Mc.hasB; simp
theorem fine_bd {i : Nat} {l : List Int} (h : fine i l = true) : l.length ≤ 40 ∧ rise l = true ∧ ((i = 0 ∨ i = 1) → ∀ n ∈ l, 0 ≤ n ∧ n ≤ 59) ∧ (i = 2 → ∀ n ∈ l, 0 ≤ n ∧ n ≤ 23) ∧ (i = 7 → ∀ n ∈ l, n ≠ 0 ∧ -366 ≤ n ∧ n ≤ 366) := by
  obtain ⟨h1, h2, h3⟩ := fine_iff.1 h
  refine ⟨h1, h3, ?_, ?_, ?_⟩
  · intro hi n hn
    have := h2 n hn
    unfold may at this
    rw [if_pos hi] at this
    simpa using this
  · rintro rfl n hn
    have := h2 n hn
    unfold may at this
    simpa using this
  · rintro rfl n hn
    have := h2 n hn
    unfold may at this
    simp at this
    exact ⟨this.1.1, this.1.2, this.2⟩
theorem ob_bd {l : List Int} {b hi : Int} (h : ∀ n ∈ l, 0 ≤ n ∧ n ≤ hi) (hb : 0 ≤ b ∧ b ≤ hi) : ∀ n ∈ ob l b, 0 ≤ n ∧ n ≤ hi := by
  unfold ob
  split
  · intro n hn; rw [List.mem_singleton] at hn; rw [hn]; exact hb
  · exact h
theorem secs_prod {r : Ru} {b : Int} (h0 : fine 0 r.sec = true) (h1 : fine 1 r.min = true) (h2 : fine 2 r.hour = true) (b0 : 0 ≤ b) (b1 : b < 86400) :
    secs r b = prodS (ob r.hour (b / 3600)) (ob r.min (b / 60 % 60)) (ob r.sec (b % 60)) := by
  obtain ⟨_, r0, m0, _, _⟩ := fine_bd h0
  obtain ⟨_, r1, m1, _, _⟩ := fine_bd h1
  obtain ⟨_, r2, _, m2, _⟩ := fine_bd h2
  have B0 := ob_bd (m0 (.inl rfl)) (b := b % 60) (by omega)
  have B1 := ob_bd (m1 (.inr rfl)) (b := b / 60 % 60) (by omega)
  have B2 := ob_bd (m2 rfl) (b := b / 3600) (by omega)
  refine rise_ext (secs_rise _ _) (prodS_rise (ob_rise r2 _) (ob_rise r1 _) (ob_rise r0 _) B1 B0) (fun x => ?_)
  rw [secs_mem, prodS_mem B1 B0, ob_mem, ob_mem, ob_mem]
  unfold onB
  simp only [Bool.and_eq_true]
  constructor
  · rintro ⟨_, ⟨a, c⟩, d⟩
    exact ⟨a, c, d⟩
  · rintro ⟨a, c, d⟩
    refine ⟨?_, ⟨a, c⟩, d⟩
    have := B2 _ (ob_mem.2 a)
    omega
/- the indexes that are kept -/
def ks (pos : List Int) (n : Int) : List Int := if pos = [] then upto n.toNat else (upto n.toNat).filter (fun k => Mc.cntB pos (k + 1) n)
theorem ks_rise (pos : List Int) (n : Int) : Rise (ks pos n) := by
  unfold ks
  split
  · exact upto_rise _
  · exact (upto_rise _).filter _
theorem ks_mem {pos : List Int} {n x : Int} (h : x ∈ ks pos n) : 0 ≤ x ∧ x < n := by
  unfold ks at h
  split at h
  · have := upto_mem.1 h; omega
  · have := upto_mem.1 (List.mem_filter.1 h).1; omega
theorem getD_cons_succ (x : Int) (l : List Int) (k : Int) (hk : 0 ≤ k) : (x :: l).getD (k + 1).toNat 0 = l.getD k.toNat 0 := by
  rw [show (k + 1).toNat = k.toNat + 1 by omega]; rfl
theorem upto_succ' (n : Nat) : upto (n + 1) = 0 :: (upto n).map (fun k => k + 1) := by
  unfold upto
  rw [List.range_succ_eq_map, List.map_cons, List.map_map, List.map_map]
  rfl
theorem pickF_ks (pos : List Int) (len : Int) : ∀ (l : List Int) (i : Int), pickF pos len l i = ((upto l.length).filter (fun k => Mc.cntB pos (k + i) len)).map (fun k => l.getD k.toNat 0)
  | [], _ => rfl
  | x :: l, i => by
    unfold pickF
    rw [pickF_ks pos len l (i + 1), List.length_cons, upto_succ']
    have e : ((upto l.length).map (fun k => k + 1)).filter (fun k => Mc.cntB pos (k + i) len) = ((upto l.length).filter (fun k => Mc.cntB pos (k + (i + 1)) len)).map (fun k => k + 1) := by
      rw [List.filter_map]
      congr 1
      refine List.filter_congr (fun k _ => ?_)
      simp only [Function.comp_apply]
      rw [show k + 1 + i = k + (i + 1) by omega]
    have e2 : (((upto l.length).filter (fun k => Mc.cntB pos (k + (i + 1)) len)).map (fun k => k + 1)).map (fun k : Int => (x :: l).getD k.toNat 0) = ((upto l.length).filter (fun k => Mc.cntB pos (k + (i + 1)) len)).map (fun k => l.getD k.toNat 0) := by
      rw [List.map_map]
      refine List.map_congr_left (fun k hk => ?_)
      have := upto_mem.1 (List.mem_filter.1 hk).1
      simp only [Function.comp_apply]
      exact getD_cons_succ x l k this.1
    by_cases c : Mc.cntB pos i len = true
    · rw [if_pos c, List.filter_cons_of_pos (by simpa using c), e, List.map_cons, e2]; rfl
    · rw [if_neg c, List.filter_cons_of_neg (by simpa using c), e, e2]
theorem picked_ks (pos l : List Int) : picked pos l = (ks pos l.length).map (fun k => l.getD k.toNat 0) := by
  unfold picked ks
  rw [show ((l.length : Nat) : Int).toNat = l.length by omega]
  split
  · unfold upto
    rw [List.map_map]
    refine List.ext_getElem (by simp) (fun i h1 h2 => ?_)
    simp [List.getD_eq_getElem?_getD, List.getElem?_eq_getElem (show i < l.length by simpa using h1)]
  · exact pickF_ks pos _ l 1
theorem flat_at {ss : List Int} (hn : 0 < ss.length) : ∀ (ds : List Int) (k : Nat), k < ds.length * ss.length → (ds.flatMap (ofDay ss)).getD k 0 = 86400 * ds.getD (k / ss.length) 0 + ss.getD (k % ss.length) 0
  | [], k, h => by simp at h
  | d :: ds, k, h => by
    rw [List.flatMap_cons]
    by_cases c : k < ss.length
    · rw [Nat.div_eq_of_lt c, Nat.mod_eq_of_lt c, List.getD_eq_getElem?_getD, List.getElem?_append_left (by rw [ofDay_len]; exact c)]
      unfold ofDay
      simp [List.getElem?_eq_getElem c]
    · have e1 : k = (k - ss.length) + ss.length := by omega
      have e2 : k / ss.length = (k - ss.length) / ss.length + 1 := by
        conv => lhs; rw [e1]
        exact Nat.add_div_right _ hn
      have e3 : k % ss.length = (k - ss.length) % ss.length := by
        conv => lhs; rw [e1]
        exact Nat.add_mod_right _ _
      rw [e2, e3, List.getD_eq_getElem?_getD, List.getElem?_append_right (by rw [ofDay_len]; omega), ofDay_len, ← List.getD_eq_getElem?_getD, flat_at hn ds (k - ss.length) (by rw [List.length_cons, Nat.add_mul] at h; omega)]
      rfl
/- the times, by their indexes -/
def tmK (ds ss : List Int) (k : Int) : Int := 86400 * ds.getD (k / ss.length).toNat 0 + ss.getD (k % ss.length).toNat 0
theorem picked_tm {pos ds ss : List Int} (hn : 0 < ss.length) : picked pos (ds.flatMap (ofDay ss)) = (ks pos ((ds.length * ss.length : Nat) : Int)).map (tmK ds ss) := by
  rw [picked_ks, flat_len]
  refine List.map_congr_left (fun k hk => ?_)
  have := ks_mem hk
  obtain ⟨m, rfl⟩ := Int.eq_ofNat_of_zero_le this.1
  unfold tmK
  rw [Int.toNat_natCast, flat_at hn ds m (by omega), ← Int.natCast_ediv, ← Int.natCast_emod, Int.toNat_natCast, Int.toNat_natCast]
/- what the program sorts, and makes compact -/
def idxK (n p : Int) : Int := if p < 0 then p + n else p - 1
def rawK (n : Int) (pos : List Int) : List Int := (pos.map (idxK n)).filter (fun i => decide (0 ≤ i) && decide (i < n))
theorem rawK_mem {pos : List Int} {n x : Int} (hp : ∀ p ∈ pos, p ≠ 0) (hne : pos ≠ []) : x ∈ rawK n pos ↔ x ∈ ks pos n := by
  unfold rawK ks
  rw [if_neg hne, List.mem_filter, List.mem_filter, upto_mem, List.mem_map]
  unfold Mc.cntB Mc.hasB
  simp only [Bool.and_eq_true, decide_eq_true_eq, Bool.or_eq_true, List.contains_iff_mem]
  constructor
  · rintro ⟨⟨p, h1, h2⟩, h3, h4⟩
    have := hp p h1
    unfold idxK at h2
    refine ⟨by omega, ?_⟩
    split at h2
    · right; rw [show x + 1 - n - 1 = p by omega]; exact h1
    · left; rw [show x + 1 = p by omega]; exact h1
  · rintro ⟨h1, h2 | h2⟩
    · refine ⟨⟨_, h2, ?_⟩, by omega, by omega⟩
      unfold idxK; rw [if_neg (by omega)]; omega
    · refine ⟨⟨_, h2, ?_⟩, by omega, by omega⟩
      unfold idxK; rw [if_pos (by omega)]; omega
theorem compact_up {d : Array Int} (hs : ∀ i j, i ≤ j → j < d.size → d[i]! ≤ d[j]!) : ∀ m, m ≤ d.size → Rise (Lib.compactUpTo d m) ∧ (∀ x, x ∈ Lib.compactUpTo d m ↔ ∃ j, j < m ∧ d[j]! = x)
  | 0, _ => ⟨by simp [Lib.compactUpTo], fun x => by simp [Lib.compactUpTo]⟩
  | m + 1, h => by
    obtain ⟨h1, h2⟩ := compact_up hs m (by omega)
    rw [Lib.compactUpTo_succ]
    by_cases c : Lib.keeps d m = true
    · rw [if_pos c]
      refine ⟨?_, fun x => ?_⟩
      · rw [Rise, List.pairwise_append]
        refine ⟨h1, List.pairwise_singleton _ _, ?_⟩
        intro x hx y hy
        rw [List.mem_singleton] at hy
        obtain ⟨j, hj, rfl⟩ := (h2 x).1 hx
        subst hy
        unfold Lib.keeps at c
        rw [decide_eq_true_eq] at c
        have a1 := hs j (m - 1) (by omega) (by omega)
        have a2 := hs (m - 1) m (by omega) (by omega)
        rcases c with c | c
        · omega
        · omega
      · rw [List.mem_append, List.mem_singleton, h2]
        constructor
        · rintro (⟨j, hj, e⟩ | rfl)
          · exact ⟨j, by omega, e⟩
          · exact ⟨m, by omega, rfl⟩
        · rintro ⟨j, hj, e⟩
          by_cases e2 : j = m
          · right; rw [← e, e2]
          · left; exact ⟨j, by omega, e⟩
    · rw [if_neg c]
      refine ⟨by simpa using h1, fun x => ?_⟩
      rw [List.append_nil, h2]
      unfold Lib.keeps at c
      rw [decide_eq_true_eq] at c
      constructor
      · rintro ⟨j, hj, e⟩; exact ⟨j, by omega, e⟩
      · rintro ⟨j, hj, e⟩
        by_cases e2 : j = m
        · refine ⟨m - 1, by omega, ?_⟩
          rw [← e, e2]
          by_cases e3 : d[m]! = d[m - 1]!
          · exact e3.symm
          · exact absurd (Or.inr e3) c
        · exact ⟨j, by omega, e⟩
theorem compact_sort {zs : List Int} : Rise (Lib.compact (zs.mergeSort fun x y => decide (x ≤ y))) ∧ (∀ x, x ∈ Lib.compact (zs.mergeSort fun x y => decide (x ≤ y)) ↔ x ∈ zs) := by
  have hsorted : (zs.mergeSort fun x y => decide (x ≤ y)).Pairwise (fun a b => decide (a ≤ b) = true) :=
    List.pairwise_mergeSort (fun a b c h1 h2 => by simp only [decide_eq_true_eq] at *; omega) (fun a b => by simp only [Bool.or_eq_true, decide_eq_true_eq]; omega) zs
  have hp := List.mergeSort_perm zs (fun x y => decide (x ≤ y))
  generalize (zs.mergeSort fun x y => decide (x ≤ y)) = s at *
  unfold Lib.compact
  have hs : ∀ i j, i ≤ j → j < s.toArray.size → s.toArray[i]! ≤ s.toArray[j]! := by
    intro i j hij hj
    have hj2 : j < s.length := by simpa using hj
    rw [getElem!_pos s.toArray i (by simpa using (by omega : i < s.length)), getElem!_pos s.toArray j hj]
    by_cases e : i = j
    · subst e; exact Int.le_refl _
    · have := List.pairwise_iff_getElem.1 hsorted i j (by omega) hj2 (by omega)
      simpa using this
  obtain ⟨h1, h2⟩ := compact_up hs s.length (by simp)
  refine ⟨h1, fun x => ?_⟩
  rw [h2, ← hp.mem_iff, List.mem_iff_getElem]
  constructor
  · rintro ⟨j, hj, e⟩
    exact ⟨j, hj, by rw [getElem!_pos s.toArray j (by simpa using hj)] at e; simpa using e⟩
  · rintro ⟨j, hj, e⟩
    exact ⟨j, hj, by rw [getElem!_pos s.toArray j (by simpa using hj)]; simpa using e⟩
theorem keptL {pos : List Int} {n : Int} (hp : ∀ p ∈ pos, p ≠ 0) (hne : pos ≠ []) : Lib.compact ((rawK n pos).mergeSort fun x y => decide (x ≤ y)) = ks pos n :=
  rise_ext compact_sort.1 (ks_rise _ _) (fun x => by rw [compact_sort.2, rawK_mem hp hne])
/- a month none of whose days fits is passed over -/
theorem month_same {d x : Int} (h1 : d - dom d < x) (h2 : x ≤ d - dom d + dim (yr d) (mon d)) : mon x = mon d := by
  obtain ⟨⟨m1, m2⟩, m3, m4⟩ := mon_spec d
  have e : d - dom d = dby (yr d) + cum (yr d) (mon d) := by unfold dom; omega
  have c1 := cum_succ (yr d) m1 m2
  have c2 := cum_13 (yr d)
  have c3 := dby_succ (yr d)
  have c4 : cum (yr d) (mon d + 1) ≤ cum (yr d) 13 := by
    by_cases c : mon d = 12
    · rw [c]; exact Int.le_refl _
    · have := cum_mono (yr d) (m := mon d + 1) (n := 13) (by omega); omega
  have c5 := cum_bd (yr d) m1 (by omega : mon d ≤ 13)
  have hy : yr x = yr d := yr_unique (by omega) (by omega)
  have : mo (yr d) (x - dby (yr d)) = mon d := mo_unique m1 m2 (by omega) (by omega)
  unfold mon at *
  rw [hy]
  exact this
theorem fits_month {r : Ru} {b x : Int} (h1 : r.month ≠ []) (h2 : Mc.hasB r.month (mon x) = false) : Mc.fits r b x = false := by
  unfold Mc.fits Mc.lstB
  rw [h2, show r.month.isEmpty = false by cases hm : r.month with | nil => exact absurd hm h1 | cons => rfl]
  simp
def dayL (r : Ru) (db f l : Int) : List Int := (days f l).filter (Mc.fits r db)
theorem days_nil {f l : Int} (h : l < f) : days f l = [] := by unfold days; rw [show (l + 1 - f).toNat = 0 by omega]; rfl
theorem days_one (d : Int) : days d d = [d] := by unfold days; rw [show (d + 1 - d).toNat = 1 by omega]; simp [List.range_succ]
theorem dayL_yes {r : Ru} {db f d : Int} (h : f ≤ d) (hf : Mc.fits r db d = true) : dayL r db f d = dayL r db f (d - 1) ++ [d] := by
  unfold dayL
  rw [days_split (f := f) (m := d - 1) (l := d) (by omega) (by omega), List.filter_append, show d - 1 + 1 = d by omega, days_one, List.filter_cons_of_pos hf]; rfl
theorem dayL_no {r : Ru} {db f d : Int} (h : f ≤ d) (hf : Mc.fits r db d = false) : dayL r db f d = dayL r db f (d - 1) := by
  unfold dayL
  rw [days_split (f := f) (m := d - 1) (l := d) (by omega) (by omega), List.filter_append, show d - 1 + 1 = d by omega, days_one, List.filter_cons_of_neg (by simp [hf])]; simp
theorem dayL_skip {r : Ru} {db f d e : Int} (h : f ≤ d) (he : d ≤ e) (h1 : r.month ≠ []) (h2 : Mc.hasB r.month (mon d) = false) (h3 : ∀ x, d ≤ x → x ≤ e → mon x = mon d) : dayL r db f e = dayL r db f (d - 1) := by
  unfold dayL
  rw [days_split (f := f) (m := d - 1) (l := e) (by omega) (by omega), List.filter_append, show d - 1 + 1 = d by omega]
  have : (days d e).filter (Mc.fits r db) = [] := by
    rw [List.filter_eq_nil_iff]
    intro x hx
    rw [days_mem] at hx
    rw [fits_month h1 (by rw [h3 x hx.1 hx.2]; exact h2)]; simp
  rw [this, List.append_nil]
theorem all_dayL (r : Ru) (db n : Int) (ss : List Int) : all r db n ss = (dayL r db (Mc.span r db n).1 (Mc.span r db n).2).flatMap (ofDay ss) := rfl
theorem upto_prefix {a b : Nat} (h : a ≤ b) : upto a <+: upto b := by
  unfold upto
  rw [show b = a + (b - a) by omega, List.range_add, List.map_append]
  exact List.prefix_append _ _
theorem upto_snoc (n : Nat) : upto (n + 1) = upto n ++ [(n : Int)] := by unfold upto; rw [List.range_succ, List.map_append]; rfl
theorem upto_len (n : Nat) : (upto n).length = n := by unfold upto; simp
end Ex
end Go.Proofs.YtmbmkldcedkbmaaGreat
