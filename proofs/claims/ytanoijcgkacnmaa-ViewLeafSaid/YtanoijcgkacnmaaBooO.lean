/-
  A row of bools of the call's own: made, one put, one read; any program with []bool.
-/
import Derived.Test.YtanoijcgkacnmaaGJ
import Derived.Test.YtanoijcgkacnmaaEl
import Derived.Laws.OwnMore
import Derived.Deep.AppendLies
namespace Go.Proofs.Ytanoijcgkacnmaa
open Go.RowKit
theorem set_boos (b : List Bool) (x : Bool) (h : Nat) : cellsE Eboo (b.set h x) = (cellsE Eboo b).set h (.bool x) := by
  induction b generalizing h with
  | nil => rfl
  | cons y b ih => cases h with
    | zero => rfl
    | succ h => show Value.bool y :: cellsE Eboo (b.set h x) = _; rw [ih]; rfl
theorem ownB_put {w : World} {base g n cap : Nat} {b : List Bool} (h : OwnE Eboo w base (.slice (some ⟨g, 0, none⟩) n cap) b) (hn : b.length = n) (k : Nat) (x : Bool) : OwnE Eboo (w.setCell ⟨g, k, none⟩ (.bool x)) base (.slice (some ⟨g, 0, none⟩) n cap) (b.set k x) := by
  subst hn
  unfold OwnE at h ⊢
  rw [set_boos, List.length_set]
  exact (World.ownsRow.stored h k (.bool x)).1
theorem ownB_frozen {w : World} {base g n cap : Nat} {b : List Bool} (h : OwnE Eboo w base (.slice (some ⟨g, 0, none⟩) n cap) b) (hn : b.length = n) (k : Nat) : w.frozen? ⟨g, k, none⟩ = false := by
  subst hn; exact World.ownsRow.frozenAt h k
theorem ownB_cell {w : World} {base g n cap : Nat} {b : List Bool} (h : OwnE Eboo w base (.slice (some ⟨g, 0, none⟩) n cap) b) {k : Nat} (hk : k < b.length) : w.cell? ⟨g, k, none⟩ = some (.bool (bn b k)) := by
  obtain ⟨b1, o1, e, _, x⟩ := boos_ptr (ownE_slE h) (by omega)
  injection e with e
  injection e with e1 e2
  subst e1 e2
  have := boos_cell x hk
  rwa [Nat.zero_add] at this
theorem made_boos (n : Nat) : (madeCells (Value.bool false).cells (n * 1)).toList = cellsE Eboo (List.replicate n false) := by
  rw [Nat.mul_one]
  refine (toList_madeCells_one (.bool false) n).trans ?_
  induction n with
  | zero => rfl
  | succ n ih => rw [List.replicate_succ, List.replicate_succ, cellsE_cons, ← ih]; rfl
theorem ownB_made {w : World} {base n : Nat} {v : Value} (h : w.ownsRow base 4 1 v n (madeCells (Value.bool false).cells (n * 1)).toList) : OwnE Eboo w base v (List.replicate n false) := by
  rw [made_boos] at h
  unfold OwnE
  rw [List.length_replicate]
  exact h
end Go.Proofs.Ytanoijcgkacnmaa
