/-
  A tree that lies in a variable while a law asks of it (for seats of layer 9 and later; XLaw06, XLaw07, XLaw08 have their own).
-/
import Derived.Test.YtanoijcgkacnmaaGN
namespace Go.Proofs.Ytanoijcgkacnmaa
open Go.RowKit

/-- A tree in a variable. -/
structure Tw (w W : World) (T : Nat) (s : SlV) (l : List Nd) : Prop where
  box : W.heap[T]? = some (.cells (tr ⟨s⟩) 24 (0, 0))
  s : SlE Ene W (sv s) l
  g : Below w.heap.size w W
section
variable {w W W' : World} {T : Nat} {s : SlV} {l : List Nd}
theorem Tw.keep (h : Tw w W T s l) (g : Below W.heap.size W W') : Tw w W' T s l := ⟨blk_keep g h.box, slE_keep g h.s, belowT h.g g⟩
theorem Tw.z1 (h : Tw w W T s l) : ldA W (.pointer (some ⟨T, 0, none⟩)) 1 = some (tr ⟨s⟩) := (tr_cells h.box).2.1
theorem Tw.z0 (h : Tw w W T s l) : W.cell? ⟨T, 0, none⟩ = some (sv s) := (tr_cells h.box).1
theorem tw_one (h : SlE Ene w (sv s) l) : Tw w (w.alloc (.cells (tr ⟨s⟩) 24)) w.heap.size s l := ⟨heap_alloc_last w _, slE_keep below1 h, below1⟩
end
end Go.Proofs.Ytanoijcgkacnmaa
