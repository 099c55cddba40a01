/-
  Blocks kept over calls; in every program.
-/
import Derived.Test.YtljehgohcchocaaRes
namespace Go.Proofs.Ytljehgohcchocaa
open Go.RowKit
set_option maxRecDepth 100000

theorem below1 {w : World} {o : Obj} : Below w.heap.size w (w.alloc o) := (Below.refl _ _).alloc (Nat.le_refl _) _
theorem blk_keep {w w' : World} {b : Nat} {o : Obj} (g : Below w.heap.size w w') (h : w.heap[b]? = some o) : w'.heap[b]? = some o := (g.block _ (Array.getElem?_eq_some_iff.1 h).1).trans h
theorem heap3 (w : World) (a b c : Array Value) (s t u : TypeId) (W : World) (hW : W = ((w.alloc (.cells a s)).alloc (.cells b t)).alloc (.cells c u)) : Below w.heap.size w W ∧ W.heap[w.heap.size]? = some (.cells a s (0, 0)) ∧ W.heap[w.heap.size + 1]? = some (.cells b t (0, 0)) ∧ W.heap[w.heap.size + 2]? = some (.cells c u (0, 0)) ∧ W.heap.size = w.heap.size + 3 := by
  subst hW
  have e1 : ∀ o : Obj, (w.alloc o).heap.size = w.heap.size + 1 := fun o => by simp
  have e2 : ∀ o o' : Obj, ((w.alloc o).alloc o').heap.size = w.heap.size + 2 := fun o o' => by simp
  refine ⟨belowT (belowT below1 below1) below1, ?_, ?_, ?_, by simp⟩
  · exact blk_keep below1 (blk_keep below1 (heap_alloc_last w _))
  · have := blk_keep (below1 (o := .cells c u)) (heap_alloc_last (w.alloc (.cells a s)) (.cells b t))
    rwa [e1] at this
  · have := heap_alloc_last ((w.alloc (.cells a s)).alloc (.cells b t)) (.cells c u)
    rwa [e2] at this
theorem heap2 (w : World) (a b : Array Value) (s t : TypeId) (W : World) (hW : W = (w.alloc (.cells a s)).alloc (.cells b t)) : Below w.heap.size w W ∧ W.heap[w.heap.size]? = some (.cells a s (0, 0)) ∧ W.heap[w.heap.size + 1]? = some (.cells b t (0, 0)) ∧ W.heap.size = w.heap.size + 2 := by
  subst hW
  have e1 : ∀ o : Obj, (w.alloc o).heap.size = w.heap.size + 1 := fun o => by simp
  refine ⟨belowT below1 below1, ?_, ?_, by simp⟩
  · exact blk_keep below1 (heap_alloc_last w _)
  · have := heap_alloc_last (w.alloc (.cells a s)) (.cells b t)
    rwa [e1] at this
theorem wd_cell {w : World} {g o : Nat} {v : Value} (h : w.cell? ⟨g, o, none⟩ = some v) (p : Wd w.drew) : p.w.cell? ⟨g, o, none⟩ = some v := (p.h.cell (p := ⟨g, o, none⟩) (block_lt_of_cell (show w.drew.cell? ⟨g, o, none⟩ = some v from h))).trans h
theorem wd_ld {w : World} {v : Value} {n : Nat} {c : Array Value} (h : ldA w v n = some c) (hn : 0 < n := by decide) (p : Wd w.drew) : ldA p.w v n = some c := ldA_wd (show ldA w.drew v n = _ by rw [ldA_drew]; exact h) hn p
end Go.Proofs.Ytljehgohcchocaa
