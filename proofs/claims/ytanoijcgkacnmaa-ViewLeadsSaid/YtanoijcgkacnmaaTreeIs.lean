/-
  What functions on trees answer.
-/
import Derived.Test.YtanoijcgkacnmaaGN
namespace Go.Proofs.Ytanoijcgkacnmaa
open Go.RowKit

/-- A tree is answered. -/
def TreeIs (L : List Nd) (w : World) (e : Ending) (w' : World) : Prop := ∃ s : SlV, e = .returned (.agg (tr ⟨s⟩)) ∧ SlE Ene w' (sv s) L ∧ Below w.heap.size w w'
/-- A tree, and whether. -/
def TreeOk (L : List Nd) (ok : Bool) (w : World) (e : Ending) (w' : World) : Prop := ∃ s : SlV, e = .returned (.tuple #[.agg (tr ⟨s⟩), .bool ok]) ∧ SlE Ene w' (sv s) L ∧ Below w.heap.size w w'
/-- A tree, and an error's number. -/
def TreeEr (L : List Nd) (n : Nat) (w : World) (e : Ending) (w' : World) : Prop := ∃ s : SlV, e = .returned (.tuple #[.agg (tr ⟨s⟩), .int .i64 (n : Int)]) ∧ SlE Ene w' (sv s) L ∧ Below w.heap.size w w'
/-- The tree of one block. -/
def newN (r : Rt) (q : UInt64) : Nd := ⟨r, -1, q, 0⟩
def newOk (q : UInt64) : Bool := decide (q.toNat ≤ 1099511627776)
def newL (r : Rt) (q : UInt64) : List Nd := if newOk q = true then [newN r q] else []
end Go.Proofs.Ytanoijcgkacnmaa
