/-
  The document's trees: whether a place is one, walked.
-/
import Derived.Test.YtanoijcgkacnmaaR06May
namespace Go.Proofs.Ytanoijcgkacnmaa
open Go.RowKit

set_option maxRecDepth 100000 in
set_option maxHeartbeats 4000000 in
theorem refIs (s : SlV) (l : List Nd) (i : Int) (w : World) (h : SlE Ene w (sv s) l) (hn : l.length ≤ 1000) :
    Calls Try.prog 33 #[.agg (tr ⟨s⟩), .int .i64 i] w fun e w' => e = .returned (.bool (isT l i)) ∧ Below w.heap.size w w' := by
  have HN : Hid (l.length ≤ 1000) := Lib.hid hn
  have HM := Lib.hid (fun W (g : Below w.heap.size w W) => refMayT s l W (slE_keep g h) hn)
  have hl := sv_lenN h
  obtain ⟨p, n, cp⟩ := s
  dsimp only at hl
  obtain ⟨r, hr⟩ : ∃ r, r = decide (MayT l) := ⟨_, rfl⟩
  rw [← hr] at HM
  obtain ⟨x, hx⟩ : ∃ x, x = isT l i := ⟨_, rfl⟩
  rw [← hx]
  have HX : Hid (x = (r && (decide (0 ≤ i) && decide (i < (n : Int))))) := by rw [hx, hr]; unfold isT; rw [hl]; rfl
  obtain ⟨W0, hW0⟩ : ∃ W0, W0 = w.alloc (.cells (tr ⟨⟨p, n, cp⟩⟩) 24) := ⟨_, rfl⟩
  have HB : Hid (Below w.heap.size w W0) := by rw [hW0]; exact below1
  have M0 : Hid (W0.heap[w.heap.size]? = some (.cells (tr ⟨⟨p, n, cp⟩⟩) 24 (0, 0))) := by rw [hW0]; exact heap_alloc_last w _
  have HW := Lib.hid hW0
  clear hW0 h hl hn hr hx
  go_enter Try.func33, Try.ntmps33
  go_wp2_with fail
  rw [← HW.out]
  refine (HM.out W0 HB.out).mono ?_
  rintro e w1 ⟨rfl, g1⟩
  have G1 := Lib.hid (belowT HB.out g1)
  obtain ⟨z0, z1, zl⟩ := tr_cells (blk_keep g1 M0.out)
  dsimp only at z0
  rw [sv_mk] at z0
  cases r
  · go_wp2_with fail
    go_ret
    exact ⟨by rw [HX.out]; rfl, G1.out⟩
  · by_cases h0 : 0 ≤ i
    · have t0 : decide (0 ≤ i) = true := decide_eq_true h0
      by_cases h1 : i < (n : Int)
      · have t1 : decide (i < (n : Int)) = true := decide_eq_true h1
        have hX : Hid (x = true) := by show x = true; rw [HX.out, t0, t1]; rfl
        clear h0 h1
        go_wp2_with fail
        go_ret
        exact ⟨by rw [hX.out]; first | done | rfl, G1.out⟩
      · have t1 : decide (i < (n : Int)) = false := decide_eq_false h1
        have hX : Hid (x = false) := by show x = false; rw [HX.out, t0, t1]; rfl
        clear h0 h1
        go_wp2_with fail
        go_ret
        exact ⟨by rw [hX.out]; first | done | rfl, G1.out⟩
    · have t0 : decide (0 ≤ i) = false := decide_eq_false h0
      have hX : Hid (x = false) := by show x = false; rw [HX.out, t0]; rfl
      clear h0
      go_wp2_with fail
      go_ret
      exact ⟨by rw [hX.out]; first | done | rfl, G1.out⟩
end Go.Proofs.Ytanoijcgkacnmaa
