/-
  What the laws of layer 8 share.
-/
import Derived.Test.YtonfmddjlhgglaaW08
namespace Go.Proofs.Ytonfmddjlhgglaa
open Go.RowKit

/-- A tree in a variable. -/
structure Tw (w W : World) (T : Nat) (s : SlV) (l : List Nd) : Prop where
  box : W.heap[T]? = some (.cells (tr ⟨s⟩) 24 (0, 0))
  s : SlE Ene W (sv s) l
  g : Below w.heap.size w W
section
variable {w W W' : World} {T : Nat} {s : SlV} {l : List Nd}
theorem Tw.keep (h : Tw w W T s l) (g : Below W.heap.size W W') : Tw w W' T s l := ⟨blk_keep g h.box, slE_keep g h.s, belowT h.g g⟩
theorem Tw.z1 (h : Tw w W T s l) : ldA W (.pointer (some ⟨T, 0, none⟩)) 1 = some (tr ⟨s⟩) := (tr_cells h.box).2.1
theorem Tw.z0 (h : Tw w W T s l) : W.cell? ⟨T, 0, none⟩ = some (sv s) := (tr_cells h.box).1
theorem tw_one (h : SlE Ene w (sv s) l) : Tw w (w.alloc (.cells (tr ⟨s⟩) 24)) w.heap.size s l := ⟨heap_alloc_last w _, slE_keep below1 h, below1⟩
end
theorem subL_le (l : List Nd) (a : List UInt64) : (subL l a).length ≤ 12 := by
  cases h : subOk l a
  · rw [subL_no h]; simp
  · rw [subL_len h]; exact (subOk_iff.1 h).1.le
theorem passL_le (l : List Nd) (a b c : List UInt64) : (passL l a b c).length ≤ 12 := by
  cases h : passOk l a b c
  · rw [passL_no h]; simp
  · rw [passL_len h]; exact (subOk_iff.1 (passOk_iff.1 h).1).1.le
/-- A list of noughts, made. -/
theorem zeros_made {w : World} {base : Nat} {v : Value} {n : Nat} (h : w.ownsRow base 33 1 v n (madeCells (num 0).cells (n * 1)).toList) : SlE Enum w v (List.replicate n 0) := by
  have e : (madeCells (num 0).cells (n * 1)).toList = cellsE Enum (List.replicate n 0) := by
    refine List.ext_getElem? fun i => ?_
    have h1 : (cellsE Enum (List.replicate n 0)).length = n := by rw [cellsE_length, List.length_replicate]; show n * 1 = n; omega
    by_cases hi : i < n
    · have h2 := cellsE_get Enum (List.replicate n 0) i 0 (by simpa using hi) (by decide)
      rw [show i * Enum.n + 0 = i by show i * 1 + 0 = i; omega] at h2
      rw [h2, List.getElem_replicate, Array.getElem?_toList]
      have h3 : i < (madeCells (num 0).cells (n * 1)).size := by rw [size_madeCells]; omega
      rw [Array.getElem?_eq_getElem h3]
      simp [madeCells, num, Value.cells, Enum]
      rw [Nat.mod_one]
      rfl
    · rw [List.getElem?_eq_none (by rw [Array.length_toList, size_madeCells]; omega), List.getElem?_eq_none (by omega)]
  have h2 : OwnE Enum w base v (List.replicate n 0) := by
    unfold OwnE
    rw [List.length_replicate, ← e]
    exact h
  exact ownE_slE h2
end Go.Proofs.Ytonfmddjlhgglaa
