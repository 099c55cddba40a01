/-
  The law's own tree of three nodes, in any seat that holds areopaguslaw06.Three (XThree06 without what stage 6 alone asks).
-/
import Derived.Test.YtonfmddjlhgglaaRt1
import Derived.Test.YtonfmddjlhgglaaTr
import Derived.Test.YtonfmddjlhgglaaTreeIs
import Derived.Test.YtonfmddjlhgglaaTmem
namespace Go.Proofs.Ytonfmddjlhgglaa
open Go.RowKit

def threeL : List Nd := [⟨r1, -1, 0, 0⟩, ⟨r2, 0, 3, 0⟩, ⟨r3, 1, 5, 0⟩]
theorem three_may : decide (MayT threeL) = true := by decide +kernel
theorem three_above : aboveZ threeL 0 2 = true := by decide +kernel
theorem three_at : atZ threeL 2 4 = 1 := by decide +kernel
theorem three_find : findT threeL r3 = 2 := by decide +kernel
@[local go_sem] theorem put_slot3 (x : Nd) : putSeg (ne x) 33 #[.int .u64 3] = ne { x with slot := 3 } := ne_put_slot x 3
@[local go_sem] theorem put_slot5 (x : Nd) : putSeg (ne x) 33 #[.int .u64 5] = ne { x with slot := 5 } := ne_put_slot x 5

set_option maxRecDepth 100000 in
set_option maxHeartbeats 4000000 in
theorem three (w : World) : Calls Try.prog 18 #[] w (TreeIs threeL w) := by
  go_enter Try.func18, Try.ntmps18
  go_wp2_with fail
  simp only [zne]
  obtain ⟨W, hW⟩ : ∃ W, W = (w.alloc (.cells (tr ⟨⟨some ⟨w.heap.size + 1, 0, none⟩, 3, 3⟩⟩) 24)).alloc (.cells (ne ⟨r1, -1, 0, 0⟩ ++ (ne ⟨r2, 0, 3, 0⟩ ++ ne ⟨r3, 1, 5, 0⟩)) 53) := ⟨_, rfl⟩
  obtain ⟨hB, h0, h1, hz⟩ := heap2 w _ _ _ _ W hW
  have hs : SlE Ene W (.slice (some ⟨w.heap.size + 1, 0, none⟩) 3 3) threeL := by
    rw [hW]
    refine slE_lit _ threeL 3 _ _ (w.heap.size + 1) rfl (by simp) ?_
    rw [Array.toList_append, Array.toList_append, ne_list, ne_list, ne_list]
    simp [cellsE, Ene, threeL]
  exact bodyPost_ret (results_agg1 Try.isAgg24 Try.sizeOf24 _ 0 rfl _ _ _ _ rfl (by rw [← hW]; exact ldA_block h0 (tr_size _))) rfl ⟨⟨some ⟨w.heap.size + 1, 0, none⟩, 3, 3⟩, rfl, by rw [← hW]; exact hs, by rw [← hW]; exact hB⟩
end Go.Proofs.Ytonfmddjlhgglaa
