/-
  Behind a range over a function; for every program.
-/
import Derived.Test.YtjjncaojicjfjaaRound
import Derived.RangeFuncNested
import Derived.RangeFuncBound
import Derived.RangeFuncCalls
import Derived.RangeFuncLeaves
import Derived.RangeFuncFrom
import Derived.RangeFuncWrites
import Derived.Shelf.Abstract
import Derived.Shelf.RegionOpen
import Derived.OwnWalkIn
import Derived.TacticsInMore
import Derived.LoopNIn
import Derived.LoopIn
namespace Go.Proofs.Ytjjncaojicjfjaa
open Go.RowKit Go.Shelf

theorem cell_of_box {W : World} {B : Nat} {v : Value} {t : TypeId} (h : W.heap[B]? = some (.cells #[v] t (0, 0))) : W.cell? ⟨B, 0, none⟩ = some v ∧ W.frozen? ⟨B, 0, none⟩ = false := by
  constructor <;> simp [World.cell?, World.frozen?, h]
/-- The way out behind a range over a function: its mark's block is shut; what is answered is read then. -/
theorem leave_M {F : Fence} {n : Nat} {P : Program} {fn : Func} {tmps : Array Value} {R : Ending → World → Prop} {W : World} {D : Nat} {v : Value} (hK : W.heap[D]? = some (.deferred (some [])))
    (h : (results fn tmps).run P (W.putObj D (.deferred none)) = .ok v (W.putObj D (.deferred none)) ∧ R (.returned v) (W.putObj D (.deferred none))) : LeavesInM F n P fn tmps R [{ target := .collected D, args := #[] }] .returning W :=
  ⟨by simp, .inl ⟨D, _, rfl, run_takeDeferred hK, ⟨v, h.1, h.2⟩⟩⟩
theorem cell_shut {W : World} {D : Nat} {a : Addr} {v : Value} (hK : W.heap[D]? = some (.deferred (some []))) (hc : W.cell? a = some v) : (W.putObj D (.deferred none)).cell? a = some v :=
  cell_kept hc (grownBy_putObj' W D (.deferred none)) (fun r e => by cases e; exact ⟨_, hK, rfl⟩)
theorem below_shut {B D : Nat} {w W : World} (hK : W.heap[D]? = some (.deferred (some []))) (h : Below B w W) (hB : B ≤ D) : Below B w (W.putObj D (.deferred none)) :=
  h.grown (grownBy_putObj' W D (.deferred none)) (by have := (Array.getElem?_eq_some_iff.1 hK).1; omega) (fun k e => by cases e; exact hB)
/-- Between two rounds nothing has turned that lay when the loop began. -/
theorem own_go {α : Type} {B : Nat} {W0 : World} (p : List α → Prop) (hB : W0.heap.size ≤ B) : OwnFrom B (fun pre W => p pre ∧ Below W0.heap.size W0 W) :=
  OwnFrom.and (fun _ _ _ _ h _ _ => h) (ownFrom_below (Nat.le_refl _) hB)
/-- A round has left: a cell holds what is answered. -/
theorem own_left {α : Type} {B : Nat} {w : World} (p : List α → Prop) (a : Addr) (v : List α → Value) (hB : w.heap.size ≤ B) : OwnFrom B (fun pre W => (p pre ∧ W.cell? a = some (v pre)) ∧ Below w.heap.size w W) :=
  OwnFrom.and (Own.from (fun _ _ _ _ hs hg hr => ⟨hs.1, cell_kept hs.2 hg hr⟩) _) (ownFrom_below (Nat.le_refl _) hB)
end Go.Proofs.Ytjjncaojicjfjaa
