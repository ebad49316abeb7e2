/- What the reference's ParseDuration returns. -/
import Derived.Test.YtafpdiikhhikeaaDoorRefTm
import Derived.Test.YtafpdiikhhikeaaDoorRefPl
import Derived.Test.YtafpdiikhhikeaaDoorVf
import Derived.Deep.Cut
import Derived.Deep.CutBlock
import Derived.Deep.CutRange
namespace Go.Proofs.YtafpdiikhhikeaaDoor
open Go.RowKit

namespace Va
/- the reference's steps: the days, then the hours -/
def days (d : List UInt8) (ht : Bool) : Option Nat :=
  if d = [] then some 0 else match one (tm d) with
    | some (n, c) => if c = 68 then some (86400 * n) else if c = 87 ∧ ht = false then some (604800 * n) else none
    | none => none
theorem rpd_no {q : List UInt8} (h : q.dropWhile noT = []) : rpd q = if q = [] then none else days q false := by
  obtain ⟨h1, _⟩ := dw_nil h
  unfold rpd days
  rw [h, h1]
  by_cases hq : q = []
  · subst hq; rfl
  · rw [if_neg hq, if_neg hq]
    rcases one (tm q) with _ | ⟨n, c⟩
    · rfl
    · by_cases c1 : c = 68
      · subst c1; simp
      · by_cases c2 : c = 87
        · subst c2; simp
        · simp [c1, c2]
theorem rpd_at {q d h : List UInt8} (e : q = d ++ 84 :: h) (hd : ∀ b ∈ d, b ≠ 84) : rpd q = (days d true).bind fun n => (hr h).map (n + ·) := by
  have hall : d.all noT = true := by
    rw [List.all_eq_true]
    intro b hb
    simpa [noT] using hd b hb
  have t1 : q.takeWhile noT = d ∧ q.dropWhile noT = 84 :: h := by
    rw [e]
    clear e hd
    induction d with
    | nil => exact ⟨rfl, rfl⟩
    | cons b d ih =>
      rw [List.all_cons, Bool.and_eq_true] at hall
      have := ih hall.2
      simp [hall.1, this]
  unfold rpd days
  rw [t1.1, t1.2]
  by_cases hq : d = []
  · subst hq; simp
  · rw [if_neg hq]
    simp only [if_neg hq]
    rcases one (tm d) with _ | ⟨n, c⟩
    · rfl
    · by_cases c1 : c = 68
      · subst c1; simp
      · simp [c1]
theorem one_no {t : List (Nat × UInt8)} (h : t.length ≠ 1) : one (some t) = none := by
  rcases t with _ | ⟨p, _ | ⟨q, t⟩⟩
  · rfl
  · exact absurd rfl h
  · rfl
theorem top_yes {n : Nat} (h : n ≤ 10000000000) : top (some n) = some n := if_pos h
theorem top_no {n : Nat} (h : ¬ n ≤ 10000000000) : top (some n) = none := if_neg h
theorem tm_one {l : List UInt8} {n : Nat} {c : UInt8} {t : List (Nat × UInt8)} (h : tm l = some ((n, c) :: t)) : n < 10000000000 := by
  by_cases hl : l = []
  · subst hl; cases h
  · rw [tm_cut hl] at h
    rcases h1 : cut l with _ | ⟨m, d, r⟩
    · rw [h1] at h; cases h
    · rw [h1] at h
      have h2 := (cut_lt h1).1
      change (tm r).map ((m, d) :: ·) = _ at h
      rcases h3 : tm r with _ | t'
      · rw [h3] at h; cases h
      · rw [h3] at h
        simp at h
        omega
end Va
theorem svb {sv n : Int} (h : -1 ≤ sv ∧ sv ≤ 1) (h0 : 0 ≤ n) (h1 : n ≤ 10000000000) : -10000000000 ≤ sv * n ∧ sv * n ≤ 10000000000 := by
  have : sv = -1 ∨ sv = 0 ∨ sv = 1 := by omega
  rcases this with rfl | rfl | rfl <;> omega
theorem convk (w : World) (d : UInt8) (k : Int) (h : (d.toNat : Int) = k) : Sem.run Tryd.prog (convert 54 9 (.slice (some ⟨w.heap.size, 0, none⟩) 1 1)) (w.alloc (.cells #[.int .u8 k] 5)) = .ok (.string ⟨#[d]⟩) (w.alloc (.cells #[.int .u8 k] 5)) := by
  subst h
  refine run_convert_bytes_back _ 54 9 5 ⟨w.heap.size, 0, none⟩ 1 [d] Tryd.underlying54 Tryd.underlying5 Tryd.underlying9 ?_
  intro j hj
  obtain rfl : j = 0 := by simpa using hj
  simp [Addr.add]
theorem catb (l : List UInt8) (d : UInt8) : (⟨l.toArray⟩ : ByteArray) ++ ⟨#[d]⟩ = ⟨(l ++ [d]).toArray⟩ := by
  rw [show (#[d] : Array UInt8) = [d].toArray from rfl, ByteArray.mk_append_mk]
theorem un_neg (s : ByteArray) (h : 0 < s.size) (hc : s[0] = 45) : Va.neg s.data.toList = true ∧ Va.un s.data.toList = s.data.toList.tail := by
  have hn : Va.neg s.data.toList = true := by unfold Va.neg; rw [head_at s h, hc]; rfl
  exact ⟨hn, by unfold Va.un; rw [if_pos hn]⟩
theorem un_plus (s : ByteArray) (h : 0 < s.size) (hc : s[0] = 43) : Va.neg s.data.toList = false ∧ Va.un s.data.toList = s.data.toList.tail := by
  have hn : Va.neg s.data.toList = false := by unfold Va.neg; rw [head_at s h, hc]; rfl
  exact ⟨hn, by unfold Va.un; rw [if_neg (by simp [hn]), if_pos (by rw [head_at s h, hc]; rfl)]⟩
theorem un_none (s : ByteArray) (h1 : ∀ h : 0 < s.size, s[0] ≠ 45) (h2 : ∀ h : 0 < s.size, s[0] ≠ 43) : Va.neg s.data.toList = false ∧ Va.un s.data.toList = s.data.toList := by
  rcases Nat.eq_zero_or_pos s.size with h | h
  · have : s.data.toList = [] := List.eq_nil_of_length_eq_zero (by rw [← Lib.size_eq]; exact h)
    rw [this]; exact ⟨rfl, rfl⟩
  · have e1 : (some s[0] == some (45 : UInt8)) = false := by rw [beq_eq_false_iff_ne]; intro e; exact h1 h (Option.some.inj e)
    have e2 : (some s[0] == some (43 : UInt8)) = false := by rw [beq_eq_false_iff_ne]; intro e; exact h2 h (Option.some.inj e)
    have hn : Va.neg s.data.toList = false := by unfold Va.neg; rw [head_at s h, e1]
    refine ⟨hn, ?_⟩
    unfold Va.un
    rw [if_neg (by simp [hn]), head_at s h, if_neg (by rw [e2]; decide)]
set_option maxRecDepth 100000 in
set_option maxHeartbeats 4000000 in
theorem rpduration_any (s : ByteArray) (w : World) (hl : s.size ≤ 200) :
    Calls Tryd.prog 14 #[.string s] w fun e w' => e = .returned (Va.opV (Va.pd s.data.toList)) ∧ Gr w w' := by
  have hz : s.data.toList.length ≤ 200 := by rw [← Lib.size_eq]; exact hl
  obtain ⟨N, hN⟩ : ∃ N, Va.pd s.data.toList = N := ⟨_, rfl⟩
  rw [hN]
  have HN := Lib.hid hN
  clear hN
  go_enter Tryd.func14, Tryd.ntmps14
  go_upto_region 2 with fail
  go_cut [0, 4, 27] from 15 (fun v0 v4 v wx => ∃ b : Bool, v0 = .string s ∧ v4 = .int .i64 1 ∧ v = .bool b ∧ w = wx ∧ (b = true → ∃ h : 0 < s.size, s[0] = 45 ∨ s[0] = 43) ∧ (b = false → (∀ h : 0 < s.size, s[0] ≠ 45) ∧ (∀ h : 0 < s.size, s[0] ≠ 43)))
  case first =>
    rcases Nat.eq_zero_or_pos s.size with h | h
    · go_wp2
      go_meet
      case rel => exact ⟨_, rfl, rfl, rfl, rfl, fun hb => by (cases hb), fun _ => ⟨fun h' => by omega, fun h' => by omega⟩⟩
    · have h0 : (0 : Int) < s.size := by omega
      by_cases c1 : s[0] = 45
      · have b1 : ((s[0].toNat : Int) == 45) = true := bt 45 c1
        go_wp2
        go_meet
        case rel => exact ⟨_, rfl, rfl, rfl, rfl, fun _ => ⟨h, .inl c1⟩, fun hb => by (cases hb)⟩
      · have b1 : ((s[0].toNat : Int) == 45) = false := bf 45 c1
        by_cases c2 : s[0] = 43
        · have b2 : ((s[0].toNat : Int) == 43) = true := bt 43 c2
          go_wp2
          go_meet
          case rel => exact ⟨_, rfl, rfl, rfl, rfl, fun _ => ⟨h, .inr c2⟩, fun hb => by (cases hb)⟩
        · have b2 : ((s[0].toNat : Int) == 43) = false := bf 43 c2
          go_wp2
          go_meet
          case rel => exact ⟨_, rfl, rfl, rfl, rfl, fun hb => by (cases hb), fun _ => ⟨fun _ => c1, fun _ => c2⟩⟩
  case rest =>
    obtain ⟨b, rfl, rfl, rfl, rfl, hb1, hb2⟩ := hcut
    have HB1 := Lib.hid hb1
    have HB2 := Lib.hid hb2
    clear hb1 hb2
    go_upto_if 27 with fail
    go_cut [0, 4] from 15 (fun v0 v4 wx => ∃ (x : ByteArray) (sv : Int), v0 = .string x ∧ v4 = .int .i64 sv ∧ w = wx ∧ (-1 ≤ sv ∧ sv ≤ 1) ∧ Hid (x.data.toList = Va.un s.data.toList ∧ ∀ n : Int, Va.sg (Va.neg s.data.toList) n = sv * n))
    case first =>
      rcases b
      · obtain ⟨q1, q2⟩ := HB2.out rfl
        obtain ⟨e1, e2⟩ := un_none s q1 q2
        clear q1 q2
        have E1 := Lib.hid e1
        have E2 := Lib.hid e2
        clear e1 e2
        go_wp2
        go_meet
        case rel => exact ⟨_, _, rfl, rfl, rfl, by omega, Lib.hid ⟨E2.out.symm, fun n => by rw [E1.out]; unfold Va.sg; rw [if_neg (by decide)]; omega⟩⟩
      · obtain ⟨h, hc⟩ := HB1.out rfl
        have h0 : (0 : Int) < s.size := by omega
        rcases hc with c1 | c1
        · obtain ⟨e1, e2⟩ := un_neg s h c1
          have b1 : ((s[0].toNat : Int) == 45) = true := bt 45 c1
          have E1 := Lib.hid e1
          have E2 := Lib.hid e2
          clear e1 e2
          go_wp2
          go_meet
          case rel => exact ⟨_, _, rfl, rfl, rfl, by omega, Lib.hid ⟨by rw [E2.out, tail_at], fun n => by rw [E1.out]; unfold Va.sg; rw [if_pos rfl]; omega⟩⟩
        · obtain ⟨e1, e2⟩ := un_plus s h c1
          have b1 : ((s[0].toNat : Int) == 45) = false := by rw [c1]; rfl
          have E1 := Lib.hid e1
          have E2 := Lib.hid e2
          clear e1 e2
          go_wp2
          go_meet
          case rel => exact ⟨_, _, rfl, rfl, rfl, by omega, Lib.hid ⟨by rw [E2.out, tail_at], fun n => by rw [E1.out]; unfold Va.sg; rw [if_neg (by decide)]; omega⟩⟩
    case rest =>
      clear HB1 HB2
      obtain ⟨x, sv, rfl, rfl, rfl, hs1, HX⟩ := hcut
      have hxl : x.size ≤ 200 := by
        have := Va.un_len s.data.toList
        rw [Lib.size_eq, HX.out.1]; omega
      have hep : N = if x.data.toList.head? = some 80 then (Va.top (Va.pp x.data.toList.tail)).map (fun n => sv * (n : Int)) else none := by
        rw [← HN.out, HX.out.1]
        unfold Va.pd
        congr 2
        funext n
        exact HX.out.2 _
      clear HX HN
      by_cases hp : ∃ h : 0 < x.size, x[0] = 80
      · obtain ⟨h, hc⟩ := hp
        have h0 : (0 : Int) < x.size := by omega
        have h0b : ((x.size : Int) == 0) = false := by rw [beq_eq_false_iff_ne]; omega
        have b1 : ((x[0].toNat : Int) != 80) = false := by rw [hc]; rfl
        rw [if_pos (by rw [head_at x h, hc])] at hep
        have ht := tail_at x
        have htz : (x.extract 1 x.size).size = x.size - 1 := by rw [Lib.size_eq, ht, List.length_tail, ← Lib.size_eq]
        rw [← ht, ← Va.rpd_eq] at hep
        have hyl : (x.extract 1 x.size).size ≤ 200 := by omega
        have HP := Lib.hid hep
        have HY := Lib.hid hyl
        clear hep ht hc htz hyl
        as_aux_lemma =>
          go_upto_region 9 with fail
          go_cut [0, 4, 5] from 15 (fun v0 v4 v5 wx => ∃ y : ByteArray, v0 = .string y ∧ v4 = .int .i64 sv ∧ v5 = .int .i64 (-1) ∧ w = wx ∧ Hid (y.size ≤ 200 ∧ N = (Va.top (Va.rpd y.data.toList)).map (fun n => sv * (n : Int))))
          case first =>
            go_wp2
            go_meet
            case rel => exact ⟨_, rfl, rfl, rfl, rfl, Lib.hid ⟨HY.out, HP.out⟩⟩
          case rest =>
            clear HY HP h0 h0b b1
            obtain ⟨y, rfl, rfl, rfl, rfl, HY⟩ := hcut
            clear h hxl
            as_aux_lemma =>
              have hyl := HY.out.1
              have HZ := Lib.hid (Lib.size_eq y)
              go_wp2_with fail
              go_loopg [5, 45] y.size (fun g v5 v45 wx => ∃ (j : Nat) (cv : Int), v5 = .int .i64 cv ∧ v45 = .int .i64 (j : Int) ∧ j + g = y.size ∧ w = wx ∧ -1 ≤ cv ∧ cv < j ∧ Hid ((cv = -1 ∧ ∀ b ∈ y.data.toList.take j, b ≠ 84) ∨ ∃ (k : Nat) (h : k < y.size), cv = k ∧ y[k] = 84 ∧ ∀ b ∈ y.data.toList.take k, b ≠ 84))
              case atStart => exact ⟨0, -1, rfl, rfl, by omega, rfl, by omega, by omega, Lib.hid (.inl ⟨rfl, by simp⟩)⟩
              case round =>
                obtain ⟨j, cv, rfl, rfl, jg, rfl, cv0, cv1, HC⟩ := hrel
                have HG := Lib.hid jg
                have hj1 : j ≤ y.size := by omega
                clear jg
                by_cases hj : j < y.size
                · by_cases c1 : y[j] = 84
                  · have b1 : ((y[j].toNat : Int) == 84) = true := bt 84 c1
                    by_cases hcv : cv < 0
                    · have hE : ∃ (k : Nat) (h : k < y.size), (j : Int) = k ∧ y[k] = 84 ∧ ∀ b ∈ y.data.toList.take k, b ≠ 84 := by
                        rcases HC.out with ⟨_, h2⟩ | ⟨k, h2, h3, _⟩
                        · exact ⟨j, hj, rfl, c1, h2⟩
                        · omega
                      have HE := Lib.hid hE
                      clear hE c1
                      go_wp2
                      go_roundg (y.size - (j + 1))
                      case measure => have := HG.out; omega
                      case rel => exact ⟨j + 1, j, rfl, by go_num, by omega, rfl, by omega, by omega, Lib.hid (.inr HE.out)⟩
                    · have hcd : decide (cv < 0) = false := decide_eq_false hcv
                      have hE : ∃ (k : Nat) (h : k < y.size), cv = k ∧ y[k] = 84 ∧ ∀ b ∈ y.data.toList.take k, b ≠ 84 := by
                        rcases HC.out with ⟨h2, _⟩ | h2
                        · omega
                        · exact h2
                      have HE := Lib.hid hE
                      clear hE c1
                      go_wp2
                      go_roundg (y.size - (j + 1))
                      case measure => have := HG.out; omega
                      case rel => exact ⟨j + 1, cv, rfl, by go_num, by omega, rfl, by omega, by omega, Lib.hid (.inr HE.out)⟩
                  · have b1 : ((y[j].toNat : Int) == 84) = false := bf 84 c1
                    have hE : (cv = -1 ∧ ∀ b ∈ y.data.toList.take (j + 1), b ≠ 84) ∨ ∃ (k : Nat) (h : k < y.size), cv = k ∧ y[k] = 84 ∧ ∀ b ∈ y.data.toList.take k, b ≠ 84 := by
                      rcases HC.out with ⟨h1, h2⟩ | h2
                      · left
                        refine ⟨h1, fun b hb => ?_⟩
                        rw [take_snoc y j hj, List.mem_append] at hb
                        rcases hb with hb | hb
                        · exact h2 b hb
                        · rw [List.mem_singleton] at hb; rw [hb]; exact c1
                      · exact .inr h2
                    have HE := Lib.hid hE
                    clear hE c1
                    go_wp2
                    go_roundg (y.size - (j + 1))
                    case measure => have := HG.out; omega
                    case rel => exact ⟨j + 1, cv, rfl, by go_num, by omega, rfl, by omega, by omega, HE⟩
                · obtain rfl : j = y.size := by omega
                  have et : y.data.toList.take y.size = y.data.toList := List.take_of_length_le (by rw [← HZ.out]; omega)
                  have hC := HC.out
                  rw [et] at hC
                  clear et hj HC HG
                  rcases hC with ⟨rfl, hC⟩ | ⟨k, hk, rfl, hk84, hC⟩
                  · have hdw : y.data.toList.dropWhile Va.noT = [] := by
                      have h1 := List.dropWhile_append_of_pos (p := Va.noT) (l₁ := y.data.toList) (l₂ := []) (fun x hx => by simpa [Va.noT] using hC x hx)
                      simpa using h1
                    have hR := Va.rpd_no hdw
                    have HR := Lib.hid hR
                    clear hdw hR hC cv0 cv1 hj1
                    as_aux_lemma =>
                      by_cases hy0 : y.size = 0
                      · have he := emp_t y hy0
                        have hnil : y.data.toList = [] := List.eq_nil_of_length_eq_zero (by rw [← HZ.out]; exact hy0)
                        have hE : N = none := by rw [HY.out.2, HR.out, if_pos hnil]; rfl
                        have HE := Lib.hid hE
                        clear hE hnil
                        go_wp2
                        go_ret2
                        exact ⟨by rw [HE.out] <;> rfl, Gr.refl _⟩
                      have he := emp_f y hy0
                      have hne := Va.ne_of_size hy0
                      have hR2 := HR.out
                      rw [if_neg hne] at hR2
                      have HR := Lib.hid hR2
                      clear hR2
                      have cT := terms_any y w hyl
                      go_wp2_with fail
                      refine cT.mono ?_
                      rintro e w1 ⟨A, n, c, b, t, rfl, hg, ht, hf⟩
                      have HG := Lib.hid hg
                      clear hg cT
                      rcases b
                      · have hE : N = none := by
                          rw [HY.out.2, HR.out]
                          unfold Va.days
                          rw [if_neg hne]
                          rcases hf rfl with h | h <;> rw [h] <;> rfl
                        have HE := Lib.hid hE
                        clear hE ht hf
                        go_wp2
                        go_ret2
                        exact ⟨by rw [HE.out] <;> rfl, HG.out⟩
                      · obtain ⟨htm, htn, hT⟩ := ht rfl
                        clear ht hf htn
                        by_cases hn1 : n = 1
                        · subst hn1
                          obtain ⟨htl, hTc⟩ := hT
                          obtain ⟨p, rfl⟩ : ∃ p, t = [p] := List.length_eq_one_iff.1 htl
                          obtain ⟨g, rfl, hgl, hcell⟩ := hTc (by omega)
                          obtain ⟨hc0, hc1⟩ := hcell 0 p rfl
                          rw [Nat.zero_mul] at hc0 hc1
                          rw [Nat.zero_add] at hc1
                          obtain ⟨n0, d⟩ := p
                          have hD : N = (Va.top (if d = 68 then some (86400 * n0) else if d = 87 then some (604800 * n0) else none)).map (fun n => sv * (n : Int)) := by
                            rw [HY.out.2, HR.out]
                            unfold Va.days
                            rw [if_neg hne, htm]
                            simp [Va.one]
                          have hn0 := Va.tm_one htm
                          have HD := Lib.hid hD
                          clear hD htm htl hTc hcell HR hne hgl
                          by_cases d1 : d = 68
                          · subst d1
                            by_cases hbig : 86400 * n0 ≤ 10000000000
                            · have hE : N = some (sv * (86400 * (n0 : Int))) := by
                                rw [HD.out, if_pos rfl, Va.top_yes hbig]
                                simp
                              have HE := Lib.hid hE
                              have hsb := svb hs1 (n := 86400 * (n0 : Int)) (by omega) (by omega)
                              have hbd : decide ((10000000000 : Int) < 86400 * n0) = false := decide_eq_false (by omega)
                              clear hE
                              go_wp2
                              go_ret2
                              exact ⟨by rw [HE.out] <;> rfl, HG.out⟩
                            · have hE : N = none := by rw [HD.out, if_pos rfl, Va.top_no hbig]; rfl
                              have HE := Lib.hid hE
                              have hbd : decide ((10000000000 : Int) < 86400 * n0) = true := decide_eq_true (by omega)
                              clear hE
                              go_wp2
                              go_ret2
                              exact ⟨by rw [HE.out] <;> rfl, HG.out⟩
                          · have n1 : ((d.toNat : Int) != 68) = true := bn 68 d1
                            by_cases d2 : d = 87
                            · subst d2
                              by_cases hbig : 604800 * n0 ≤ 10000000000
                              · have hE : N = some (sv * (604800 * (n0 : Int))) := by
                                  rw [HD.out, if_neg (by decide), if_pos rfl, Va.top_yes hbig]
                                  simp
                                have HE := Lib.hid hE
                                have hsb := svb hs1 (n := 604800 * (n0 : Int)) (by omega) (by omega)
                                have hbd : decide ((10000000000 : Int) < 604800 * n0) = false := decide_eq_false (by omega)
                                clear hE
                                go_wp2
                                go_ret2
                                exact ⟨by rw [HE.out] <;> rfl, HG.out⟩
                              · have hE : N = none := by rw [HD.out, if_neg (by decide), if_pos rfl, Va.top_no hbig]; rfl
                                have HE := Lib.hid hE
                                have hbd : decide ((10000000000 : Int) < 604800 * n0) = true := decide_eq_true (by omega)
                                clear hE
                                go_wp2
                                go_ret2
                                exact ⟨by rw [HE.out] <;> rfl, HG.out⟩
                            · have n2 : ((d.toNat : Int) != 87) = true := bn 87 d2
                              have hE : N = none := by rw [HD.out, if_neg d1, if_neg d2]; rfl
                              have HE := Lib.hid hE
                              clear hE
                              go_wp2
                              go_ret2
                              exact ⟨by rw [HE.out] <;> rfl, HG.out⟩
                        · have hE : N = none := by
                            rw [HY.out.2, HR.out]
                            unfold Va.days
                            rw [if_neg hne, htm, Va.one_no (by rw [hT.1]; exact hn1)]; rfl
                          have HE := Lib.hid hE
                          have hnb : ((n : Int) != 1) = true := by rw [bne_iff_ne]; omega
                          clear hE hT htm
                          go_wp2
                          go_ret2
                          exact ⟨by rw [HE.out] <;> rfl, HG.out⟩
                  · have hq : y.data.toList = y.data.toList.take k ++ 84 :: y.data.toList.drop (k + 1) := by
                      have h1 := drop_cons y k hk
                      rw [hk84] at h1
                      rw [← h1, List.take_append_drop]
                    have HR := Lib.hid (Va.rpd_at hq hC)
                    have hex : (y.extract 0 k).data.toList = y.data.toList.take k := by rw [Lib.extract_data]; simp
                    have hexl : (y.extract 0 k).data.toList.length = k := by rw [hex, List.length_take, ← HZ.out]; omega
                    have hexz : (y.extract 0 k).size = k := by rw [Lib.size_eq]; exact hexl
                    have HX := Lib.hid hex
                    have HXZ := Lib.hid hexz
                    have hk1 : (k : Int) < y.size := by omega
                    have hk2 : (k : Int) + 1 ≤ y.size := by omega
                    clear hex hexl hexz hq hk84 hC cv0 cv1 hj1
                    as_aux_lemma =>
                      go_upto_region 20 with fail
                      go_cut [65] from 58 (fun v wx => ∃ b : Bool, v = .bool b ∧ w = wx ∧ (b = true → k ≠ 0) ∧ (b = false → k = 0))
                      case first =>
                        by_cases hk0 : k = 0
                        · have he : (y.extract 0 k).toList.isEmpty = true := emp_t _ (by rw [HXZ.out]; exact hk0)
                          have hk0' := Lib.hid hk0
                          clear hk0
                          go_wp2
                          go_meet
                          case rel => exact ⟨_, rfl, rfl, fun hb => by (cases hb), fun _ => hk0'.out⟩
                        · have he : (y.extract 0 k).toList.isEmpty = false := emp_f _ (by rw [HXZ.out]; exact hk0)
                          go_wp2
                          go_meet
                          case rel => exact ⟨_, rfl, rfl, fun _ => hk0, fun hb => by (cases hb)⟩
                      case rest =>
                      obtain ⟨b, rfl, rfl, hb1, hb2⟩ := hcut
                      have HB1 := Lib.hid hb1
                      have HB2 := Lib.hid hb2
                      clear hb1 hb2
                      go_upto_if 65 with fail
                      go_cut [7] from 58 (fun v7 wx => ∃ n0 : Nat, v7 = .int .i64 (n0 : Int) ∧ n0 < 1000000000000000 ∧ Hid (Gr w wx ∧ N = (Va.top ((Va.hr (y.data.toList.drop (k + 1))).map (n0 + ·))).map (fun n => sv * (n : Int))))
                      case first =>
                        rcases b
                        · have hk0 := HB2.out rfl
                          have hE : N = (Va.top ((Va.hr (y.data.toList.drop (k + 1))).map (0 + ·))).map (fun n => sv * (n : Int)) := by
                            rw [HY.out.2, HR.out]
                            have : y.data.toList.take k = [] := by rw [hk0]; rfl
                            rw [this]; rfl
                          have HE := Lib.hid hE
                          clear hE
                          have hk0' := Lib.hid hk0
                          clear hk0
                          go_wp2
                          go_meet
                          case rel => exact ⟨0, rfl, by omega, Lib.hid ⟨Gr.refl _, HE.out⟩⟩
                        · have hk0 := HB1.out rfl
                          have hne : y.data.toList.take k ≠ [] := by
                            rw [← HX.out]; exact Va.ne_of_size (by rw [HXZ.out]; exact hk0)
                          have cT := terms_any (y.extract 0 k) w (by rw [HXZ.out]; omega)
                          rw [HX.out] at cT
                          go_wp2_with fail
                          refine cT.mono ?_
                          rintro e w1 ⟨A, n, c, b, t, rfl, hg, ht, hf⟩
                          have HG := Lib.hid hg
                          clear hg cT
                          rcases b
                          · have hE : N = none := by
                              rw [HY.out.2, HR.out]
                              unfold Va.days
                              rw [if_neg hne]
                              rcases hf rfl with h | h <;> rw [h] <;> rfl
                            have HE := Lib.hid hE
                            clear hE ht hf hne
                            go_wp2
                            go_ret2
                            exact ⟨by rw [HE.out] <;> rfl, HG.out⟩
                          · obtain ⟨htm, htn, hT⟩ := ht rfl
                            clear ht hf htn
                            by_cases hn1 : n = 1
                            · subst hn1
                              obtain ⟨htl, hTc⟩ := hT
                              obtain ⟨p, rfl⟩ : ∃ p, t = [p] := List.length_eq_one_iff.1 htl
                              obtain ⟨g, rfl, hgl, hcell⟩ := hTc (by omega)
                              obtain ⟨hc0, hc1⟩ := hcell 0 p rfl
                              rw [Nat.zero_mul] at hc0 hc1
                              rw [Nat.zero_add] at hc1
                              obtain ⟨n0, d⟩ := p
                              have hn0 := Va.tm_one htm
                              by_cases d1 : d = 68
                              · have hE : N = (Va.top ((Va.hr (y.data.toList.drop (k + 1))).map (86400 * n0 + ·))).map (fun n => sv * (n : Int)) := by
                                  rw [HY.out.2, HR.out]
                                  unfold Va.days
                                  rw [if_neg hne, htm, d1]
                                  simp [Va.one]
                                have HE := Lib.hid hE
                                clear hE htm htl hTc hcell hne hgl
                                subst d1
                                go_wp2
                                go_meet
                                case rel => exact ⟨86400 * n0, by go_num, by omega, Lib.hid ⟨HG.out, HE.out⟩⟩
                              · have hE : N = none := by
                                  rw [HY.out.2, HR.out]
                                  unfold Va.days
                                  rw [if_neg hne, htm]
                                  simp [Va.one, d1, Va.top]
                                have HE := Lib.hid hE
                                have n1 : ((d.toNat : Int) != 68) = true := bn 68 d1
                                have hkk : decide (0 ≤ (k : Int)) = true := decide_eq_true (by omega)
                                clear hE htm htl hTc hcell hne hgl
                                by_cases d2 : d = 87
                                · subst d2
                                  go_wp2
                                  go_ret2
                                  exact ⟨by rw [HE.out] <;> rfl, HG.out⟩
                                · have n2 : ((d.toNat : Int) != 87) = true := bn 87 d2
                                  go_wp2
                                  go_ret2
                                  exact ⟨by rw [HE.out] <;> rfl, HG.out⟩
                            · have hE : N = none := by
                                rw [HY.out.2, HR.out]
                                unfold Va.days
                                rw [if_neg hne, htm, Va.one_no (by rw [hT.1]; exact hn1)]; rfl
                              have HE := Lib.hid hE
                              have hnb : ((n : Int) != 1) = true := by rw [bne_iff_ne]; omega
                              clear hE hT htm hne
                              go_wp2
                              go_ret2
                              exact ⟨by rw [HE.out] <;> rfl, HG.out⟩
                      case rest =>
                        obtain ⟨n0, rfl, hn0, HG⟩ := hcut
                        clear HR HB1 HB2
                        as_aux_lemma =>
                          have hkk : decide ((k : Int) < 0) = false := decide_eq_false (by omega)
                          go_upto_region 27 with fail
                          go_cut [116] from 58 (fun v wx => v = .bool false ∧ wc = wx)
                          case first =>
                            by_cases hk0 : k = 0
                            · have he : (y.extract 0 k).toList.isEmpty = true := emp_t _ (by rw [HXZ.out]; exact hk0)
                              have hk0' := Lib.hid hk0
                              clear hk0
                              go_wp2
                              go_meet
                              case rel => exact ⟨rfl, rfl⟩
                            · have he : (y.extract 0 k).toList.isEmpty = false := emp_f _ (by rw [HXZ.out]; exact hk0)
                              go_wp2
                              go_meet
                              case rel => exact ⟨rfl, rfl⟩
                          case rest =>
                            obtain ⟨rfl, rfl⟩ := hcut
                            have hex : (y.extract (k + 1) y.size).data.toList = y.data.toList.drop (k + 1) := by
                              rw [Lib.extract_data]
                              refine List.take_of_length_le ?_
                              rw [List.length_drop, ← HZ.out]; omega
                            have hzx : (y.extract (k + 1) y.size).size ≤ 200 := by rw [Lib.size_eq, hex, List.length_drop, ← HZ.out]; omega
                            have cT := terms_any (y.extract (k + 1) y.size) wc hzx
                            have hkl : (Va.tm (y.data.toList.drop (k + 1))) = Va.tm (y.extract (k + 1) y.size).data.toList := by rw [hex]
                            have hhr := (Va.hr_eq (y.data.toList.drop (k + 1))).symm
                            rw [hkl] at hhr
                            have HH := Lib.hid hhr
                            have HZX := Lib.hid hzx
                            have hk3 : decide (0 ≤ (k : Int)) = true := decide_eq_true (by omega)
                            clear hhr hkl hex hzx HX HXZ
                            go_wp2_with fail
                            refine cT.mono ?_
                            rintro e w1 ⟨A, n, c, b, t, rfl, hg, ht, hf⟩
                            have HG1 := Lib.hid (HG.out.1.trans hg)
                            clear hg cT
                            rcases b
                            · have hE : N = none := by
                                rw [HG.out.2, HH.out]
                                rcases hf rfl with h | h <;> rw [h] <;> rfl
                              have HE := Lib.hid hE
                              clear hE ht hf
                              go_wp2
                              go_ret2
                              exact ⟨by rw [HE.out] <;> rfl, HG1.out⟩
                            · obtain ⟨htm, htn, hT⟩ := ht rfl
                              have hb := Va.tm_all _ _ htm
                              have hlen := Va.tm_len _ _ htm
                              rw [← Lib.size_eq] at hlen
                              have hHr : N = (Va.top ((if Va.okW (Va.word t) then some (Va.sum t) else none).map (n0 + ·))).map (fun n => sv * (n : Int)) := by
                                rw [HG.out.2, HH.out, htm]; rfl
                              have HN2 := Lib.hid hHr
                              have hnl : t.length = n := hT.1
                              have hn200 : n ≤ 200 := by have := HZX.out; omega
                              have HT := Lib.hid hT
                              have HB := Lib.hid hb
                              have HL := Lib.hid hnl
                              clear ht hf htn hHr HH HG htm hlen hb hnl hT HZX
                              go_wp2_with fail
                              as_aux_lemma =>
                                go_loopg [7, 13, 131] n (fun g v7 v13 v131 wx => ∃ j : Nat, v7 = .int .i64 ((n0 + Va.sum (t.take j) : Nat) : Int) ∧ v13 = .string ⟨(Va.word (t.take j)).toArray⟩ ∧ v131 = .int .i64 (j : Int) ∧ j + g = n ∧ Gr w1 wx)
                                case atStart => exact ⟨0, rfl, rfl, rfl, by omega, Gr.refl _⟩
                                case round =>
                                  obtain ⟨j, rfl, rfl, rfl, jg, hg⟩ := hrel
                                  have HJ := Lib.hid jg
                                  have hj1 : j ≤ n := by omega
                                  clear jg
                                  have hsb := Va.sum_take_le HB.out j
                                  have hwl := Va.word_len t j
                                  rw [HL.out] at hwl
                                  have hsum : Va.sum (t.take j) ≤ 10000000000000000 := by
                                    have : j * 36000000000000 ≤ 200 * 36000000000000 := Nat.mul_le_mul_right _ (by omega)
                                    omega
                                  clear hsb
                                  by_cases hj : j < n
                                  · have hjt : j < t.length := by rw [HL.out]; exact hj
                                    obtain ⟨g, rfl, hgl, hcell⟩ := (HT.out.gr hg).2 (by omega)
                                    obtain ⟨hc0, hc1⟩ := hcell j _ (List.getElem?_eq_getElem hjt)
                                    have hW := Va.word_snoc hjt
                                    have hS := Va.sum_snoc hjt
                                    have hm : t[j].1 < 10000000000 := HB.out _ (List.getElem_mem hjt)
                                    clear hcell
                                    generalize t[j] = p at hc0 hc1 hW hS hm
                                    obtain ⟨m, d⟩ := p
                                    have HW := Lib.hid hW
                                    simp only [Va.wt] at hS
                                    simp only at hc0 hc1 hm
                                    have hA : (⟨g, 0, none⟩ : Addr).add (j * 2) = ⟨g, j * 2, none⟩ := add_nil _ _
                                    clear hW
                                    as_aux_lemma =>
                                      by_cases d1 : d = 72
                                      · have m1 : (d.toNat : Int) = 72 := by rw [d1]; rfl
                                        rw [if_pos d1] at hS
                                        have gA := (Gr.refl wr).alloc #[.int .u8 72] 5
                                        have hc0' := gA.keeps hgl hc0
                                        have hc1' := gA.keeps hgl hc1
                                        have hv := convk wr d 72 m1
                                        have HS := Lib.hid hS
                                        clear hS gA
                                        go_wp2
                                        go_roundg (n - (j + 1))
                                        case measure => have := HJ.out; omega
                                        case rel => exact ⟨j + 1, by rw [HS.out] <;> go_num, by rw [HW.out, ← catb, d1] <;> rfl, by go_num, by omega, hg.alloc _ _⟩
                                      have n1 : ((d.toNat : Int) == 72) = false := bf 72 d1
                                      rw [if_neg d1] at hS
                                      by_cases d2 : d = 77
                                      · have m2 : (d.toNat : Int) = 77 := by rw [d2]; rfl
                                        rw [if_pos d2] at hS
                                        have gA := (Gr.refl wr).alloc #[.int .u8 77] 5
                                        have hc0' := gA.keeps hgl hc0
                                        have hc1' := gA.keeps hgl hc1
                                        have hv := convk wr d 77 m2
                                        have HS := Lib.hid hS
                                        clear hS gA
                                        go_wp2
                                        go_roundg (n - (j + 1))
                                        case measure => have := HJ.out; omega
                                        case rel => exact ⟨j + 1, by rw [HS.out] <;> go_num, by rw [HW.out, ← catb, d2] <;> rfl, by go_num, by omega, hg.alloc _ _⟩
                                      have n2 : ((d.toNat : Int) == 77) = false := bf 77 d2
                                      rw [if_neg d2] at hS
                                      by_cases d3 : d = 83
                                      · have m3 : (d.toNat : Int) = 83 := by rw [d3]; rfl
                                        rw [if_pos d3] at hS
                                        have gA := (Gr.refl wr).alloc #[.int .u8 83] 5
                                        have hc0' := gA.keeps hgl hc0
                                        have hc1' := gA.keeps hgl hc1
                                        have hv := convk wr d 83 m3
                                        have HS := Lib.hid hS
                                        clear hS gA
                                        go_wp2
                                        go_roundg (n - (j + 1))
                                        case measure => have := HJ.out; omega
                                        case rel => exact ⟨j + 1, by rw [HS.out] <;> go_num, by rw [HW.out, ← catb, d3] <;> rfl, by go_num, by omega, hg.alloc _ _⟩
                                      · have n3 : ((d.toNat : Int) == 83) = false := bf 83 d3
                                        rw [if_neg d3, Nat.add_zero] at hS
                                        have gA := (Gr.refl wr).alloc #[.int .u8 (d.toNat : Int)] 5
                                        have hc0' := gA.keeps hgl hc0
                                        have hc1' := gA.keeps hgl hc1
                                        have hv := convk wr d (d.toNat : Int) rfl
                                        have HS := Lib.hid hS
                                        clear hS gA
                                        go_wp2
                                        go_roundg (n - (j + 1))
                                        case measure => have := HJ.out; omega
                                        case rel => exact ⟨j + 1, by rw [HS.out] <;> simp, by rw [HW.out, ← catb] <;> rfl, by go_num, by omega, hg.alloc _ _⟩
                                  · obtain rfl : j = n := by omega
                                    have et : t.take j = t := List.take_of_length_le (by rw [HL.out]; omega)
                                    rw [et] at hsum hwl
                                    rw [et]
                                    clear et hj HJ HT HB
                                    have hN2 := HN2.out
                                    generalize Va.sum t = sm at *
                                    generalize Va.word t = wd at *
                                    have HN3 := Lib.hid hN2
                                    clear hN2 HN2 HL
                                    as_aux_lemma =>
                                      go_upto_region 46 with fail
                                      go_cut [7, 13, 199] from 58 (fun v7 v13 v wx => v7 = .int .i64 ((n0 : Int) + sm) ∧ v = .bool (!Va.okW wd) ∧ wr = wx)
                                      case first =>
                                        by_cases e0 : wd = [72]
                                        · go_wp2
                                          go_meet
                                          case rel => exact ⟨by go_num, by rw [e0] <;> rfl, rfl⟩
                                        by_cases e1 : wd = [72, 77]
                                        · go_wp2
                                          go_meet
                                          case rel => exact ⟨by go_num, by rw [e1] <;> rfl, rfl⟩
                                        by_cases e2 : wd = [72, 77, 83]
                                        · go_wp2
                                          go_meet
                                          case rel => exact ⟨by go_num, by rw [e2] <;> rfl, rfl⟩
                                        by_cases e3 : wd = [77]
                                        · go_wp2
                                          go_meet
                                          case rel => exact ⟨by go_num, by rw [e3] <;> rfl, rfl⟩
                                        by_cases e4 : wd = [77, 83]
                                        · go_wp2
                                          go_meet
                                          case rel => exact ⟨by go_num, by rw [e4] <;> rfl, rfl⟩
                                        by_cases e5 : wd = [83]
                                        · go_wp2
                                          go_meet
                                          case rel => exact ⟨by go_num, by rw [e5] <;> rfl, rfl⟩
                                        go_wp2
                                        go_meet
                                        case rel => exact ⟨by go_num, by simp [Va.okW], rfl⟩
                                      case rest =>
                                        obtain ⟨rfl, rfl, rfl⟩ := hcut
                                        clear hwl
                                        rcases hok : Va.okW wd
                                        · have hE : N = none := by rw [HN3.out, hok]; rfl
                                          have HE := Lib.hid hE
                                          clear hE
                                          go_wp2
                                          go_ret2
                                          exact ⟨by rw [HE.out] <;> rfl, HG1.out.trans hg⟩
                                        · by_cases hbig : n0 + sm ≤ 10000000000
                                          · have hE : N = some (sv * ((n0 : Int) + sm)) := by
                                              rw [HN3.out, hok, if_pos rfl, Option.map_some, Va.top_yes hbig]
                                              simp
                                            have HE := Lib.hid hE
                                            have hsb := svb hs1 (n := (n0 : Int) + sm) (by omega) (by omega)
                                            have hbd : decide ((10000000000 : Int) < (n0 : Int) + sm) = false := decide_eq_false (by omega)
                                            clear hE
                                            go_wp2
                                            go_ret2
                                            exact ⟨by rw [HE.out] <;> rfl, HG1.out.trans hg⟩
                                          · have hE : N = none := by
                                              rw [HN3.out, hok, if_pos rfl, Option.map_some, Va.top_no hbig]; rfl
                                            have HE := Lib.hid hE
                                            have hbd : decide ((10000000000 : Int) < (n0 : Int) + sm) = true := decide_eq_true (by omega)
                                            clear hE
                                            go_wp2
                                            go_ret2
                                            exact ⟨by rw [HE.out] <;> rfl, HG1.out.trans hg⟩
      · have hh : ¬ x.data.toList.head? = some 80 := by
          intro e
          rcases Nat.eq_zero_or_pos x.size with h | h
          · have : x.data.toList = [] := List.eq_nil_of_length_eq_zero (by rw [← Lib.size_eq]; exact h)
            rw [this] at e; cases e
          · rw [head_at x h] at e
            exact hp ⟨h, Option.some.inj e⟩
        rw [if_neg hh] at hep
        have HP := Lib.hid hep
        clear hep hh
        rcases Nat.eq_zero_or_pos x.size with h | h
        · have h0b : ((x.size : Int) == 0) = true := by rw [beq_iff_eq]; omega
          clear hp
          go_wp2
          go_ret2
          exact ⟨by rw [HP.out] <;> rfl, Gr.refl _⟩
        · have h0b : ((x.size : Int) == 0) = false := by rw [beq_eq_false_iff_ne]; omega
          have h0 : (0 : Int) < x.size := by omega
          have b1 : ((x[0].toNat : Int) != 80) = true := bn 80 (fun e => hp ⟨h, e⟩)
          clear hp
          go_wp2
          go_ret2
          exact ⟨by rw [HP.out] <;> rfl, Gr.refl _⟩
end Go.Proofs.YtafpdiikhhikeaaDoor
