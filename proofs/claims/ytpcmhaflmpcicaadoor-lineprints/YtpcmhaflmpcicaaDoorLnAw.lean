/- What the laws' awake of layer 10 returns. -/
import Derived.Test.YtpcmhaflmpcicaaDoorLnParse
namespace Go.Proofs.YtpcmhaflmpcicaaDoor
open Go.RowKit

namespace Ln
open _root_.Go.Proofs.YtpcmhaflmpcicaaDoor.Es _root_.Go.Proofs.YtpcmhaflmpcicaaDoor.Fd
theorem aw_cl (f : Bool) (b : UInt8) (hb : b.toNat < 128) (h : bad f b = false) : clE f [b] = 0 :=
  clE_ok (by rw [valid_low _ _ hb]; exact valid_nil) (by simp [h])
theorem aw10 : rp [97, 59, 98, 61, 99, 58, 100] = some ⟨[65], [([66], [[99]])], [100]⟩ := by
  have hv : Lib.validD [97, 59, 98, 61, 99, 58, 100] = true := by
    rw [valid_low _ _ (by decide), valid_low _ _ (by decide), valid_low _ _ (by decide), valid_low _ _ (by decide), valid_low _ _ (by decide), valid_low _ _ (by decide), valid_low _ _ (by decide)]; exact valid_nil
  have n1 : nm 60 [97, 59, 98, 61, 99, 58, 100] = ([65], [59, 98, 61, 99, 58, 100]) := by decide
  have n2 : nm 60 [98, 61, 99, 58, 100] = ([66], [61, 99, 58, 100]) := by decide
  have hpq : pq [99] = [99] := by decide
  have hvl := vl_pq [99] (aw_cl true 99 (by decide) (by decide))
  rw [hpq] at hvl
  have hsv : sv [99, 58, 100] = some ([99], [58, 100]) := by
    have := sv_pq [99] 58 [100] (by decide) (by decide)
    rw [hpq] at this
    exact this
  have hvs : vs [99, 58, 100] [] = some ([[99]], [58, 100]) := by
    rw [vs_end hsv hvl.1 (by decide), hvl.2]; rfl
  have hpa : pa [98, 61, 99, 58, 100] [] = some (([66], [[99]]), [58, 100]) := by
    rw [pa_vals (by rw [n2]; decide) (by rw [n2]; decide) (by decide) (by rw [n2]; decide), n2]
    show (vs [99, 58, 100] []).map _ = _
    rw [hvs]; rfl
  have hps : ps [59, 98, 61, 99, 58, 100] [] = some ([([66], [[99]])], [58, 100]) := by
    rw [ps_more (r := [59, 98, 61, 99, 58, 100]) (acc := []) (p := ([66], [[99]])) (rest := [58, 100]) rfl hpa, ps_end (by decide)]; rfl
  rw [rp_ok (by decide) hv, rl_name (by rw [n1]; decide), n1]
  show rlB [65] (ps [59, 98, 61, 99, 58, 100] []) = _
  rw [hps, rlB_ok (x := ([([66], [[99]])], [58, 100])) (by decide) (aw_cl false 100 (by decide) (by decide))]; rfl
end Ln
set_option maxHeartbeats 1000000 in
set_option maxRecDepth 100000 in
theorem awake10_any (w : World) (ht : Tab w) : Calls Tryd.prog 7 #[] w fun e w' => e = .returned (.bool true) ∧ Gr w w' := by
  have cP := (parse_any ⟨#[97, 59, 98, 61, 99, 58, 100]⟩ w ht (by decide)).mono (R' := fun e w' => ∃ A c, e = .returned (.tuple #[.agg #[.string ⟨#[65]⟩, .slice A 1 c, .string ⟨#[100]⟩], .int .i64 0, .int .i64 0]) ∧ Gr w w') (by
    rintro e w' (⟨l, A, n, c, hl, he, hg, hP, _⟩ | ⟨hl, _⟩)
    · have h2 : Ln.rp [97, 59, 98, 61, 99, 58, 100] = some l := hl
      rw [Ln.aw10] at h2
      injection h2 with h2
      subst h2
      have hn : 1 = n := hP.1
      subst hn
      exact ⟨A, c, he, hg⟩
    · have h2 : Ln.rp [97, 59, 98, 61, 99, 58, 100] = none := hl
      rw [Ln.aw10] at h2; cases h2)
  go_enter Tryd.func7, Tryd.ntmps7
  go_wp2_with (go_at_call 16; refine cP.mono ?_; rintro e w1 ⟨A, c, rfl, hg1⟩)
  go_ret
  exact ⟨rfl, hg1.allocO _⟩
end Go.Proofs.YtpcmhaflmpcicaaDoor
