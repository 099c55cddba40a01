/-
  A tree that lies in memory while a law asks of it; for the laws of layer 6.
-/
import Derived.Test.YtnehebipikhejaaAwake06
namespace Go.Proofs.Ytnehebipikhejaa
open Go.RowKit

/-- A tree in a variable, its nodes where they lie. -/
structure Tv (w W : World) (T b o n cp : Nat) (l : List Nd) : Prop where
  box : W.heap[T]? = some (.cells (tr ⟨⟨some ⟨b, o, none⟩, n, cp⟩⟩) 24 (0, 0))
  s : SlE Ene W (.slice (some ⟨b, o, none⟩) n cp) l
  x : W.rangeAt b o (cellsE Ene l)
  g : Below w.heap.size w W
section
variable {w W W' : World} {T b o n cp : Nat} {l : List Nd}
theorem Tv.keep (h : Tv w W T b o n cp l) (g : Below W.heap.size W W') : Tv w W' T b o n cp l := ⟨blk_keep g h.box, slE_keep g h.s, keepR g h.x, belowT h.g g⟩
theorem Tv.z0 (h : Tv w W T b o n cp l) : W.cell? ⟨T, 0, none⟩ = some (.slice (some ⟨b, o, none⟩) n cp) := by
  have := (tr_cells h.box).1
  dsimp only at this
  rwa [sv_mk] at this
theorem Tv.z1 (h : Tv w W T b o n cp l) : ldA W (.pointer (some ⟨T, 0, none⟩)) 1 = some (tr ⟨⟨some ⟨b, o, none⟩, n, cp⟩⟩) := (tr_cells h.box).2.1
end
end Go.Proofs.Ytnehebipikhejaa
