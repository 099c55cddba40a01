/-
  Package vote: copied, walked.
-/
import Derived.Test.YtfmbgpjpkahmnaaGU
import Derived.Test.YtfmbgpjpkahmnaaR12Drop
namespace Go.Proofs.Ytfmbgpjpkahmnaa
open Go.RowKit

/-- Votes in a row of the call's own. -/
def VoOwn (v : Vt) (w : World) (e : Ending) (w' : World) : Prop := ∃ s : SlV, e = .returned (.agg (vo ⟨s, v.out⟩)) ∧ OwnE Elt w' w.heap.size (sv s) v.l ∧ Below w.heap.size w w'
theorem ownE_sv {α : Type} {E : Lie α} {w : World} {base : Nat} {v : Value} {l : List α} (h : OwnE E w base v l) : ∃ s : SlV, v = sv s := by
  obtain ⟨p, c, rfl, _⟩ := slE_shape (ownE_slE h)
  exact ⟨⟨p, _, c⟩, rfl⟩

set_option maxRecDepth 100000 in
set_option maxHeartbeats 4000000 in
theorem voteCopied (s : SlV) (v : Vt) (w : World) (h : SlE Elt w (sv s) v.l) (hn : v.l.length ≤ 1000) :
    Calls Try.prog 20 #[.agg (vo ⟨s, v.out⟩)] w (VoOwn v w) := by
  obtain ⟨W0, hW0⟩ : ∃ W0, W0 = (w.alloc (.cells (vo ⟨s, v.out⟩) 25)).alloc (.cells (vo zvo) 25) := ⟨_, rfl⟩
  obtain ⟨hB, hM, hR, hZ⟩ := heap2 w _ _ _ _ W0 hW0
  have HC := Lib.hid (cloneLt (sv s) v.l W0 (slE_keep hB h) (by omega))
  have B0 := Lib.hid hB
  have M0 : Hid (W0.heap[w.heap.size]? = some (.cells (vo ⟨s, v.out⟩) 25 (0, 0))) := hM
  have R0 : Hid (W0.heap[w.heap.size + 1]? = some (.cells (vo zvo) 25 (0, 0))) := hR
  have HW := Lib.hid hW0
  have Z0 : Hid (W0.heap.size = w.heap.size + 2) := hZ
  obtain ⟨z0, z1, z2, zl⟩ := vo_cells hM
  dsimp only at z0
  clear hB hM hR hW0 h hn hZ
  go_enter Try.func20, Try.ntmps20
  go_upto_region 1 with fail
  rw [← HW.out]
  go_wp2_with fail
  refine HC.out.mono ?_
  rintro e w1 ⟨y, rfl, ho, g⟩
  obtain ⟨⟨p2, n2, c2⟩, rfl⟩ := ownE_sv ho
  rw [sv_mk] at ho ⊢
  have O1 := Lib.hid ho
  have B1 := Lib.hid (belowT B0.out g)
  have hM1 := blk_keep g M0.out
  have hR1 := blk_keep g R0.out
  have f0 := frozen_of_row w1 w.heap.size 0 _ _ hM1
  have hM2 : (w1.setCell ⟨w.heap.size, 0, none⟩ (.slice p2 n2 c2)).heap[w.heap.size]? = some (.cells (vo ⟨⟨p2, n2, c2⟩, v.out⟩) 25 (0, 0)) := by
    have := heap_setCell_same hM1 0 (.slice p2 n2 c2)
    rwa [vo_sets_l] at this
  have hR2 : (w1.setCell ⟨w.heap.size, 0, none⟩ (.slice p2 n2 c2)).heap[w.heap.size + 1]? = some (.cells (vo zvo) 25 (0, 0)) := by
    rw [Below.heap_setCell _ _ _ _ (show w.heap.size + 1 ≠ w.heap.size by omega)]; exact hR1
  have hO2 : OwnE Elt (w1.setCell ⟨w.heap.size, 0, none⟩ (.slice p2 n2 c2)) W0.heap.size (.slice p2 n2 c2) v.l := ownE_set ho (by rw [Z0.out]; omega) _
  have hB2 : Below w.heap.size w (w1.setCell ⟨w.heap.size, 0, none⟩ (.slice p2 n2 c2)) := B1.out.setCell (p := ⟨w.heap.size, 0, none⟩) (Nat.le_refl _) _
  have M2 := Lib.hid hM2
  have R2 := Lib.hid hR2
  have O2 := Lib.hid hO2
  have B2 := Lib.hid hB2
  obtain ⟨y0, y1, y2, yl⟩ := vo_cells hM1
  dsimp only at y0
  clear z0 z1 z2 zl ho g hM1 hR1 hM2 hR2 hO2 hB2
  go_upto_region 2 with fail
  obtain ⟨w2, hw2⟩ : ∃ w2, w2 = w1.setCell ⟨w.heap.size, 0, none⟩ (.slice p2 n2 c2) := ⟨_, rfl⟩
  rw [← hw2] at M2 R2 O2 B2 ⊢
  have k1 := (vo_cells M2.out).2.2.1
  have k2 := wrA_block R2.out (vo_size _)
  clear hw2 y0 y1 y2 yl f0
  go_wp2_with fail
  exact bodyPost_ret (results_agg1 Try.isAgg25 Try.sizeOf25 _ 2 rfl _ _ _ _ rfl (ldA_block (heap_putV R2.out (by rw [vo_size, vo_size])) (vo_size _))) rfl
    ⟨⟨p2, n2, c2⟩, rfl, ownE_base (ownE_stA O2.out (by rw [Z0.out]; omega)) (by rw [Z0.out]; omega), below_stA B2.out (by omega)⟩
theorem enters_copied : ∀ args w, (callFunc 20 args).run Try.prog w = .ok (.enter 20 args) w := entersE Try.func20 (by kernel_rfl) (by kernel_rfl)
end Go.Proofs.Ytfmbgpjpkahmnaa
