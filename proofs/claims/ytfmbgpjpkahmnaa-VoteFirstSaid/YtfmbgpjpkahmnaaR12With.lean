/-
  The document's votes: with, walked.
-/
import Derived.Test.YtfmbgpjpkahmnaaVoteM
import Derived.Deep.Cut
namespace Go.Proofs.Ytfmbgpjpkahmnaa
open Go.RowKit

set_option maxRecDepth 100000 in
set_option maxHeartbeats 8000000 in
theorem ref12With_n (p : Option Addr) (n cp : Nat) (out : UInt64) (l : List Lt) (i : Nat) (x : Lt) (w : World) (h : SlE Elt w (.slice p n cp) l) (hl : l.length = n) (hn : n ≤ 1000) (hi : i < n) :
    Calls Try.prog 25 #[.agg (vo ⟨⟨p, n, cp⟩, out⟩), .int .i64 (i : Int), .agg (lt x)] w (VoIs ⟨l.set i x, out⟩ w) := by
  obtain ⟨W0, hW0⟩ : ∃ W0, W0 = ((w.alloc (.cells (vo ⟨⟨p, n, cp⟩, out⟩) 25)).alloc (.cells (lt x) 41)).alloc (.cells (vo zvo) 25) := ⟨_, rfl⟩
  obtain ⟨hB, hM, hN, hR, hZ⟩ := heap3 w _ _ _ _ _ _ W0 hW0
  have S0 := Lib.hid (slE_keep hB h)
  have B0 := Lib.hid hB
  have M0 := Lib.hid hM
  have N0 := Lib.hid hN
  have R0 : Hid (W0.heap[w.heap.size + 1 + 1]? = some (.cells (vo zvo) 25 (0, 0))) := hR
  have Z0 := Lib.hid hZ
  have HW := Lib.hid hW0
  have HL := Lib.hid hl
  have HN := Lib.hid hn
  have HI := Lib.hid hi
  have i0 : (0 : Int) ≤ (i : Int) := by omega
  have i1 : (i : Int) < (n : Int) := by omega
  clear h hl hn hi hB hM hN hR hZ hW0
  go_enter Try.func25, Try.ntmps25
  go_upto_region 1 with fail
  rw [← HW.out]
  obtain ⟨z0, z1, z2, zl⟩ := vo_cells M0.out
  dsimp only at z0
  rw [sv_mk] at z0
  go_upto_region 2 with (at_builtin; go_loud (refine wpList_append_E Klt _ rfl (.const (.slice none 0 0)) (.tmp 8) rfl W0.heap.size _ [] rfl (ownE_nil _ _ _) _ l rfl S0.out (by have := HL.out; have := HN.out; simp; omega) (Nat.le_refl _) ?_; intro v5 w5 o5 g5; obtain ⟨gp, c5, rfl, hgp⟩ := ownT_form o5 HL.out (by have := HI.out; omega); have B5 := Lib.hid g5.nil; have O5 := Lib.hid o5; have HG := Lib.hid hgp; have hM5 := blk_keep B5.out M0.out; have M5 := Lib.hid hM5; obtain ⟨y0, y1, y2, yl⟩ := vo_cells hM5; dsimp only at y0; rw [sv_mk] at y0; have yf := frozen_of_row w5 w.heap.size 0 _ _ hM5; clear o5 g5 hgp hM5))
  obtain ⟨w6, hw6⟩ : ∃ w6, w6 = w5.setCell ⟨w.heap.size, 0, none⟩ (.slice (some ⟨gp, 0, none⟩) n c5) := ⟨_, rfl⟩
  rw [← hw6]
  have hM6 : w6.heap[w.heap.size]? = some (.cells (vo ⟨⟨some ⟨gp, 0, none⟩, n, c5⟩, out⟩) 25 (0, 0)) := by
    have := heap_setCell_same M5.out 0 (.slice (some ⟨gp, 0, none⟩) n c5)
    rw [hw6]
    rwa [vo_sets_l] at this
  have hN6 : w6.heap[w.heap.size + 1]? = some (.cells (lt x) 41 (0, 0)) := by
    rw [hw6, Below.heap_setCell _ _ _ _ (show w.heap.size + 1 ≠ w.heap.size by omega)]; exact blk_keep B5.out N0.out
  have hR6 : w6.heap[w.heap.size + 1 + 1]? = some (.cells (vo zvo) 25 (0, 0)) := by
    rw [hw6, Below.heap_setCell _ _ _ _ (show w.heap.size + 1 + 1 ≠ w.heap.size by omega)]; exact blk_keep B5.out R0.out
  have hO6 : OwnE Elt w6 W0.heap.size (.slice (some ⟨gp, 0, none⟩) n c5) l := by rw [hw6]; exact ownE_set O5.out (by rw [Z0.out]; omega) _
  have hB6 : Below w.heap.size w w6 := by rw [hw6]; exact (belowT B0.out B5.out).setCell (p := ⟨w.heap.size, 0, none⟩) (Nat.le_refl _) _
  have HGP : Hid (w.heap.size + 3 ≤ gp) := by show _ ≤ _; rw [← Z0.out]; exact HG.out
  obtain ⟨b7, o7, e7, _, x7⟩ := lats_ptr (ownE_slE hO6) (by have := HL.out; have := HI.out; omega)
  have e8 : b7 = gp ∧ o7 = 0 := by injection e7 with e7; injection e7 with e1 e2; exact ⟨e1.symm, e2.symm⟩
  obtain ⟨rfl, rfl⟩ := e8
  have hwr := ownE_wr hO6 HL.out HI.out
  have M6 := Lib.hid hM6
  have R6 := Lib.hid hR6
  have B6 := Lib.hid hB6
  have X7 := Lib.hid x7
  have WR := Lib.hid hwr
  have wr0 : wrA w6 (.pointer (some ⟨b7, i * 34, none⟩)) 34 = true := by have := hwr; rw [Nat.zero_add] at this; exact this
  obtain ⟨y0, y1, y2, yl⟩ := vo_cells hM6
  dsimp only at y0
  rw [sv_mk] at y0
  obtain ⟨_, _, _, u0, ul⟩ := lt_cells hN6
  clear z0 z1 z2 zl hw6 hM6 hN6 hR6 hO6 hB6 e7 x7 hwr
  go_upto_region 3 with fail
  obtain ⟨w7, hw7⟩ : ∃ w7, w7 = stA w6 (.pointer (some ⟨b7, i * 34, none⟩)) (.agg (lt x)) := ⟨_, rfl⟩
  rw [← hw7]
  have ne0 : w.heap.size ≠ b7 := by have := HGP.out; omega
  have ne2 : w.heap.size + 1 + 1 ≠ b7 := by have := HGP.out; omega
  have hM7 : w7.heap[w.heap.size]? = some (.cells (vo ⟨⟨some ⟨b7, 0, none⟩, n, c5⟩, out⟩) 25 (0, 0)) := by rw [hw7, heap_stA ne0]; exact M6.out
  have hR7 : w7.heap[w.heap.size + 1 + 1]? = some (.cells (vo zvo) 25 (0, 0)) := by rw [hw7, heap_stA ne2]; exact R6.out
  have hS7 : w7.rangeAt b7 0 (cellsE Elt (l.set i x)) := by
    rw [hw7]
    have := range_put X7.out (i := i) (by rw [HL.out]; exact HI.out) WR.out x
    rw [Nat.zero_add] at this
    show (w6.setCells b7 (i * 34) (lt x).toList).rangeAt b7 0 _
    rw [lt_list]
    exact this
  have hB7 : Below w.heap.size w w7 := by rw [hw7]; exact below_stA B6.out (by have := HGP.out; omega)
  have M7 := Lib.hid hM7
  have R7 := Lib.hid hR7
  have S7 := Lib.hid hS7
  have B7 := Lib.hid hB7
  have f0 := (vo_cells hM7).2.2.1
  have f1 := wrA_block hR7 (vo_size _)
  clear y0 y1 y2 yl u0 ul wr0 ne0 hw7 hM7 hR7 hS7 hB7
  go_wp2_with fail
  have hlen : (l.set i x).length = n := by rw [List.length_set, HL.out]
  have hgl : b7 < w7.heap.size := ldA_lt (lats_ld S7.out (i := i) (by rw [hlen]; exact HI.out)) (by decide)
  have hcap : n ≤ c5 := by
    obtain ⟨_, _, e, hc⟩ := slE_shape (ownE_slE O5.out)
    injection e with _ _ e
    rw [e, ← HL.out]
    exact hc
  exact bodyPost_ret (results_agg1 Try.isAgg25 Try.sizeOf25 _ 6 rfl _ _ _ _ rfl (ldA_block (heap_putV R7.out (by rw [vo_size, vo_size])) (vo_size _))) rfl
    ⟨⟨some ⟨b7, 0, none⟩, n, c5⟩, rfl, ⟨_, c5, by rw [hlen]; rfl, by rw [hlen]; exact hcap, .inr ⟨b7, 0, rfl, by rw [size_stA]; exact hgl, rangeAt_block (heap_stA (fun e => ne2 e.symm)) S7.out⟩⟩, below_stA B7.out (by omega)⟩
theorem ref12With (s : SlV) (out : UInt64) (l : List Lt) (i : Nat) (x : Lt) (w : World) (h : SlE Elt w (sv s) l) (hn : l.length ≤ 1000) (hi : i < l.length) :
    Calls Try.prog 25 #[.agg (vo ⟨s, out⟩), .int .i64 (i : Int), .agg (lt x)] w (VoIs ⟨l.set i x, out⟩ w) := by
  have hl := sv_lenT h
  obtain ⟨p, n, cp⟩ := s
  dsimp only at hl
  subst hl
  exact ref12With_n p _ cp out l i x w h rfl hn hi
end Go.Proofs.Ytfmbgpjpkahmnaa
