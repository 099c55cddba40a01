/-
  What is cut, told node by node; the new places in a map; plainly.
-/
import Derived.Test.YtnehebipikhejaaTreeZ
import Derived.Test.YtnehebipikhejaaPr
import Derived.Maps.OwnSet
namespace Go.Proofs.Ytnehebipikhejaa
open Go.RowKit Go.Maps

theorem keyed_int : Keyed Try.prog 3 := int_keyed Try.underlying3
def iK (a : Int) : Lit := .int .i64 a
def iV (a : Int) : DataW Unit := .lit (.int .i64 a)
theorem wf_small {a : Int} (h : -100000 ≤ a ∧ a ≤ 100000) : (Lit.int .i64 a).wf = true := WalkArith.wf_i64 (by omega)
theorem key_small {a : Int} (h : -100000 ≤ a ∧ a ≤ 100000) : keyOf Try.prog 3 (.int .i64 a) = some (iK a) := keyOf_int_mk Try.underlying3 (wf_small h)
theorem isKey_small {a : Int} (h : -100000 ≤ a ∧ a ≤ 100000) : WideAt.IsKeyLit (iK a) := keyed_int.key (key_small h)
theorem iK_ne {a b : Int} (h : a ≠ b) : iK a ≠ iK b := fun e => by unfold iK at e; injection e with _ e; exact h e

/-- The new place of a node, or none. -/
def movV (l : List Nd) (i k : Nat) : Int := if keptB l i k = true then (rankT l i k : Int) else -1
def movD (l : List Nd) (i : Nat) : Nat → DataW Unit
  | 0 => (DataW.map []).put (iK (-1)) (iV (-1))
  | j + 1 => (movD l i j).put (iK (j : Int)) (iV (movV l i j))
def cutUp (l : List Nd) (i j : Nat) : List Nd := ((List.range j).filter (keptB l i)).map (cutN l i)
section
variable {l : List Nd} {i : Nat}
theorem movD_map (l : List Nd) (i : Nat) : ∀ j, IsMap (movD l i j)
  | 0 => isMap_empty.put _ _
  | j + 1 => (movD_map l i j).put _ _
theorem movD_none (l : List Nd) (i : Nat) (z : DataW Unit) : ∀ j, (movD l i j).atKey (iK (-1)) z = iV (-1)
  | 0 => atKey_put_same isMap_empty (isKey_small (by omega)) _ _
  | j + 1 => by
    unfold movD
    rw [atKey_put_other (iK_ne (by omega))]
    exact movD_none l i z j
theorem movD_at (l : List Nd) (i : Nat) (z : DataW Unit) {k : Nat} : ∀ j, k < j → j ≤ 1000 → (movD l i j).atKey (iK (k : Int)) z = iV (movV l i k)
  | 0, h, _ => absurd h (Nat.not_lt_zero _)
  | j + 1, h, hj => by
    unfold movD
    by_cases e : k = j
    · subst e
      exact atKey_put_same (movD_map l i k) (isKey_small (by omega)) _ _
    · rw [atKey_put_other (iK_ne (by omega))]
      exact movD_at l i z j (by omega) (by omega)
theorem cutUp_zero (l : List Nd) (i : Nat) : cutUp l i 0 = [] := rfl
theorem cutUp_yes {j : Nat} (h : keptB l i j = true) : cutUp l i (j + 1) = cutUp l i j ++ [cutN l i j] := by
  unfold cutUp
  rw [List.range_succ, List.filter_append, List.map_append]
  simp [h]
theorem cutUp_no {j : Nat} (h : keptB l i j = false) : cutUp l i (j + 1) = cutUp l i j := by
  unfold cutUp
  rw [List.range_succ, List.filter_append, List.map_append]
  simp [h]
theorem cutUp_len (l : List Nd) (i j : Nat) : (cutUp l i j).length = rankT l i j := by
  unfold cutUp rankT rankP
  rw [List.length_map]
theorem cutUp_le (l : List Nd) (i j : Nat) : (cutUp l i j).length ≤ j := by
  unfold cutUp
  rw [List.length_map]
  have := List.length_filter_le (keptB l i) (List.range j)
  rwa [List.length_range] at this
theorem cutUp_all (l : List Nd) (i : Nat) : cutUp l i l.length = cutL l i := rfl
theorem movV_bd (l : List Nd) (i : Nat) {k : Nat} (hk : k ≤ 1000) : -1 ≤ movV l i k ∧ movV l i k ≤ 1000 := by
  unfold movV
  split
  · have := cutUp_le l i k
    rw [cutUp_len] at this
    omega
  · omega
/-- Where a kept node's parent goes. -/
theorem mov_parent (h : MayT l) (hi : i < l.length) {k : Nat} (hk : keptB l i k = true) (z : DataW Unit) (hn : l.length ≤ 1000) : (movD l i (k + 1)).atKey (iK (nd l k).parent) z = iV (cutN l i k).parent ∧ -100000 ≤ (nd l k).parent ∧ (nd l k).parent ≤ 100000 := by
  have hkl := (kept_iff.1 hk).1
  by_cases h0 : k = 0
  · subst h0
    have hz : i = 0 := by have := kept_le h hk; omega
    subst hz
    rw [h.first]
    exact ⟨by rw [movD_none]; rfl, by omega, by omega⟩
  · obtain ⟨hp, hu, _⟩ := h.par (Nat.pos_of_ne_zero h0) hkl
    rw [hp]
    refine ⟨?_, by omega, by omega⟩
    rw [movD_at l i z (k + 1) (by omega) (by omega)]
    by_cases e : k = i
    · subst e
      have hno : keptB l k (up l k) = false := by
        rw [← Bool.not_eq_true]
        intro hh
        have := kept_le h hh
        omega
      unfold movV cutN
      rw [hno, if_neg Bool.false_ne_true, if_pos rfl]
    · obtain ⟨_, hku, _⟩ := kept_up h hk e
      unfold movV cutN
      rw [hku, if_pos rfl, if_neg e]
end
end Go.Proofs.Ytnehebipikhejaa
