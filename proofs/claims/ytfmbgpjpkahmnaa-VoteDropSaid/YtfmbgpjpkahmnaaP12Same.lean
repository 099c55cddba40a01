/-
  Package vote: Same, walked.
-/
import Derived.Test.YtfmbgpjpkahmnaaGU
import Derived.Test.YtfmbgpjpkahmnaaR12Same
namespace Go.Proofs.Ytfmbgpjpkahmnaa
open Go.RowKit

set_option maxRecDepth 100000 in
set_option maxHeartbeats 4000000 in
theorem voteSame (s s' : SlV) (v u : Vt) (w : World) (h : SlE Elt w (sv s) v.l) (h' : SlE Elt w (sv s') u.l) (hn : v.l.length ≤ 1000) :
    Calls Try.prog 19 #[.agg (vo ⟨s, v.out⟩), .agg (vo ⟨s', u.out⟩)] w fun e w' => e = .returned (.bool (decide (v = u))) ∧ Below w.heap.size w w' := by
  obtain ⟨W0, hW0⟩ : ∃ W0, W0 = (w.alloc (.cells (vo ⟨s, v.out⟩) 25)).alloc (.cells (vo ⟨s', u.out⟩) 25) := ⟨_, rfl⟩
  obtain ⟨a0, b0⟩ := vw_two hW0 h h'
  have A := Lib.hid a0
  have B := Lib.hid b0
  have HW := Lib.hid hW0
  have HE := Lib.hid (equalLt_any s s' v.l u.l W0 a0.s b0.s hn)
  obtain ⟨r, hr⟩ : ∃ r, r = decide (v = u) := ⟨_, rfl⟩
  rw [← hr]
  have z0 := a0.z0
  have z1 := b0.z0
  have z2 := a0.zo
  have z3 := b0.zo
  by_cases ho : v.out = u.out
  · have HR : Hid (decide (v.l = u.l) = r) := by
      show _ = _
      rw [hr, Bool.eq_iff_iff, decide_eq_true_iff, decide_eq_true_iff]
      exact ⟨fun e => Vt.ext e ho, fun e => by rw [e]⟩
    rw [ho] at z2
    rw [HR.out] at HE
    clear a0 b0 hW0 h h' hn hr ho HR
    go_enter Try.func19, Try.ntmps19
    go_upto_region 1 with fail
    rw [← HW.out]
    go_wp2_with fail
    refine HE.out.mono ?_
    rintro e w1 ⟨rfl, g⟩
    go_wp2_with fail
    go_ret
    exact ⟨rfl, belowT A.out.g g⟩
  · have hR : Hid (r = false) := by
      show r = false
      rw [hr, decide_eq_false_iff_not]
      intro e; exact ho (by rw [e])
    obtain ⟨a, ha⟩ : ∃ a, a = (v.out.toNat : Int) := ⟨_, rfl⟩
    obtain ⟨b, hb⟩ : ∃ b, b = (u.out.toNat : Int) := ⟨_, rfl⟩
    have t1 : (a == b) = false := by
      rw [beq_eq_false_iff_ne, ha, hb]
      intro e; exact ho (UInt64.toNat_inj.1 (by omega))
    rw [← ha] at z2
    rw [← hb] at z3
    clear a0 b0 hW0 h h' hn hr ho ha hb HE
    go_enter Try.func19, Try.ntmps19
    go_upto_region 1 with fail
    rw [← HW.out]
    go_wp2_with fail
    go_ret
    exact ⟨by rw [hR.out]; first | done | rfl, A.out.g⟩
end Go.Proofs.Ytfmbgpjpkahmnaa
