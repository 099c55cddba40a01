/-
  Trees in memory.
-/
import Derived.Test.YtonfmddjlhgglaaTreeZ
import Derived.Test.YtonfmddjlhgglaaTr
import Derived.Test.YtonfmddjlhgglaaRes
namespace Go.Proofs.Ytonfmddjlhgglaa
open Go.RowKit

theorem below1 {w : World} {o : Obj} : Below w.heap.size w (w.alloc o) := (Below.refl _ _).alloc (Nat.le_refl _) _
theorem blk_keep {w w' : World} {b : Nat} {o : Obj} (g : Below w.heap.size w w') (h : w.heap[b]? = some o) : w'.heap[b]? = some o := (g.block _ (Array.getElem?_eq_some_iff.1 h).1).trans h
theorem heap3 (w : World) (a b c : Array Value) (s t u : TypeId) (W : World) (hW : W = ((w.alloc (.cells a s)).alloc (.cells b t)).alloc (.cells c u)) : Below w.heap.size w W ∧ W.heap[w.heap.size]? = some (.cells a s (0, 0)) ∧ W.heap[w.heap.size + 1]? = some (.cells b t (0, 0)) ∧ W.heap[w.heap.size + 2]? = some (.cells c u (0, 0)) ∧ W.heap.size = w.heap.size + 3 := by
  subst hW
  have e1 : ∀ o : Obj, (w.alloc o).heap.size = w.heap.size + 1 := fun o => by simp
  have e2 : ∀ o o' : Obj, ((w.alloc o).alloc o').heap.size = w.heap.size + 2 := fun o o' => by simp
  refine ⟨belowT (belowT below1 below1) below1, ?_, ?_, ?_, by simp⟩
  · exact blk_keep below1 (blk_keep below1 (heap_alloc_last w _))
  · have := blk_keep (below1 (o := .cells c u)) (heap_alloc_last (w.alloc (.cells a s)) (.cells b t))
    rwa [e1] at this
  · have := heap_alloc_last ((w.alloc (.cells a s)).alloc (.cells b t)) (.cells c u)
    rwa [e2] at this
theorem heap2 (w : World) (a b : Array Value) (s t : TypeId) (W : World) (hW : W = (w.alloc (.cells a s)).alloc (.cells b t)) : Below w.heap.size w W ∧ W.heap[w.heap.size]? = some (.cells a s (0, 0)) ∧ W.heap[w.heap.size + 1]? = some (.cells b t (0, 0)) ∧ W.heap.size = w.heap.size + 2 := by
  subst hW
  have e1 : ∀ o : Obj, (w.alloc o).heap.size = w.heap.size + 1 := fun o => by simp
  refine ⟨belowT below1 below1, ?_, ?_, by simp⟩
  · exact blk_keep below1 (heap_alloc_last w _)
  · have := heap_alloc_last (w.alloc (.cells a s)) (.cells b t)
    rwa [e1] at this
theorem sv_lenN {w : World} {s : SlV} {l : List Nd} (h : SlE Ene w (sv s) l) : l.length = s.len := by
  obtain ⟨p', cap', e, _⟩ := slE_shape h
  unfold sv at e; injection e with _ e; exact e.symm
/-- A node, and its parts, in a slice. -/
theorem nds_ld {w : World} {b off : Nat} {l : List Nd} (h : w.rangeAt b off (cellsE Ene l)) {i : Nat} (hi : i < l.length) : ldA w (.pointer (some ⟨b, off + i * 35, none⟩)) 35 = some (ne (nd l i)) := by
  have := ldA_at h hi
  rw [nd_in l hi]
  exact this.trans (by rw [show (Ene.enc l[i]).toArray = ne l[i] from Array.toList_inj.1 (by rw [ne_list]; rfl)])
theorem nds_root {w : World} {b off : Nat} {l : List Nd} (h : w.rangeAt b off (cellsE Ene l)) {i : Nat} (hi : i < l.length) : ldA w (.pointer (some ⟨b, off + i * 35, none⟩)) 32 = some (rc (nd l i).root) := by
  have := ne_rd_root (range_at h hi)
  rw [nd_in l hi]
  exact this
theorem nds_par {w : World} {b off : Nat} {l : List Nd} (h : w.rangeAt b off (cellsE Ene l)) {i : Nat} (hi : i < l.length) : w.cell? ⟨b, off + i * 35 + 32, none⟩ = some (.int .i64 (nd l i).parent) := by
  have := ne_rd_parent (range_at h hi)
  rw [nd_in l hi]
  exact this
theorem nds_slot {w : World} {b off : Nat} {l : List Nd} (h : w.rangeAt b off (cellsE Ene l)) {i : Nat} (hi : i < l.length) : w.cell? ⟨b, off + i * 35 + 33, none⟩ = some (.int .u64 ((nd l i).slot.toNat : Int)) := by
  have := ne_rd_slot (range_at h hi)
  rw [nd_in l hi]
  exact this
theorem ne_cells {w : World} {g : Nat} {x : Nd} (h : w.heap[g]? = some (.cells (ne x) 53 (0, 0))) : ldA w (.pointer (some ⟨g, 0, none⟩)) 32 = some (rc x.root) ∧ w.cell? ⟨g, 32, none⟩ = some (.int .i64 x.parent) ∧ w.cell? ⟨g, 33, none⟩ = some (.int .u64 (x.slot.toNat : Int)) ∧ w.cell? ⟨g, 34, none⟩ = some (.int .u64 (x.just.toNat : Int)) ∧ ldA w (.pointer (some ⟨g, 0, none⟩)) 35 = some (ne x) ∧ g < w.heap.size :=
  ⟨ne_rd0_root h, ne_rd0_parent h, ne_rd0_slot h, ne_rd0_just h, ldA_block h (ne_size x), (Array.getElem?_eq_some_iff.1 h).1⟩
theorem tr_cells {w : World} {g : Nat} {x : Tr} (h : w.heap[g]? = some (.cells (tr x) 24 (0, 0))) : w.cell? ⟨g, 0, none⟩ = some (sv x.n) ∧ ldA w (.pointer (some ⟨g, 0, none⟩)) 1 = some (tr x) ∧ g < w.heap.size :=
  ⟨tr_rd0_n h, ldA_block h (tr_size x), (Array.getElem?_eq_some_iff.1 h).1⟩

theorem nd_ext {l k : List Nd} (hl : l.length = k.length) (h : ∀ i, i < k.length → nd l i = nd k i) : l = k := by
  refine List.ext_getElem hl fun i h1 h2 => ?_
  have := h i h2
  rwa [nd_in l h1, nd_in k h2] at this
theorem above_stop {l : List Nd} (h : MayT l) {i m : Nat} (hm : m < l.length) (hi : ¬ i < m) : aboveT l i m = decide (m = i) := by
  by_cases h0 : m = 0
  · subst h0
    rw [above_zero, Bool.eq_iff_iff, decide_eq_true_iff, decide_eq_true_iff]
    omega
  · rw [above_up h i (Nat.pos_of_ne_zero h0) hm, if_neg hi]
theorem slE_ptr {w : World} {p : Option Addr} {n cp : Nat} {l : List Nd} (h : SlE Ene w (.slice p n cp) l) (h0 : 0 < l.length) : ∃ b o, p = some ⟨b, o, none⟩ ∧ b < w.heap.size ∧ w.rangeAt b o (cellsE Ene l) := by
  obtain ⟨b, o, c, e, _, q, x⟩ := slE_ne h h0
  injection e with e1 e2 e3
  exact ⟨b, o, e1, q, x⟩
/-- A variable's block, read behind calls. -/
theorem wd_tr {w : World} {g : Nat} {x : Tr} (h : w.heap[g]? = some (.cells (tr x) 24 (0, 0))) (p : Wd w.drew) : ldA p.w (.pointer (some ⟨g, 0, none⟩)) 1 = some (tr x) := ldA_wd (show ldA w.drew _ 1 = _ by rw [ldA_drew]; exact ldA_block h (tr_size _)) (by decide) p
theorem wd_cell {w : World} {g o : Nat} {v : Value} (h : w.cell? ⟨g, o, none⟩ = some v) (p : Wd w.drew) : p.w.cell? ⟨g, o, none⟩ = some v := (p.h.cell (p := ⟨g, o, none⟩) (block_lt_of_cell (show w.drew.cell? ⟨g, o, none⟩ = some v from h))).trans h
theorem wd_ld {w : World} {v : Value} {n : Nat} {c : Array Value} (h : ldA w v n = some c) (hn : 0 < n := by decide) (p : Wd w.drew) : ldA p.w v n = some c := ldA_wd (show ldA w.drew v n = _ by rw [ldA_drew]; exact h) hn p
end Go.Proofs.Ytonfmddjlhgglaa
