/-
  The places of a tree's nodes by their roots, plainly: what a map that is filled node by node holds.
-/
import Derived.Test.YtanoijcgkacnmaaKeyR
import Derived.Test.YtanoijcgkacnmaaGV
namespace Go.Proofs.Ytanoijcgkacnmaa
open Go.RowKit Go.Maps

def iL (i : Nat) : DataW Unit := .lit (.int .i64 (i : Int))
def plD (l : List Nd) : Nat → DataW Unit
  | 0 => .map []
  | k + 1 => (plD l k).put (rk (nd l k).root) (iL k)
section
variable {l : List Nd}
theorem plD_tidy (l : List Nd) : ∀ k, Tidy (plD l k)
  | 0 => tidy_empty
  | k + 1 => (plD_tidy l k).put (isKey_rk _) _
theorem plD_has (l : List Nd) (r : Rt) : ∀ k, Maps.has (plD l k) (rk r) = true ↔ ∃ i, i < k ∧ (nd l i).root = r
  | 0 => ⟨fun h => (by cases h), fun ⟨_, h, _⟩ => absurd h (Nat.not_lt_zero _)⟩
  | k + 1 => by
    unfold plD
    by_cases e : (nd l k).root = r
    · rw [e, has_put_same (plD_tidy l k).isMap (isKey_rk r)]
      exact ⟨fun _ => ⟨k, Nat.lt_succ_self k, e⟩, fun _ => rfl⟩
    · rw [has_put_other (fun h => e (rk_inj h).symm), plD_has l r k]
      constructor
      · rintro ⟨i, hi, h⟩; exact ⟨i, by omega, h⟩
      · rintro ⟨i, hi, h⟩
        rcases Nat.lt_succ_iff_lt_or_eq.1 hi with h1 | rfl
        · exact ⟨i, h1, h⟩
        · exact absurd h e
theorem plD_none {r : Rt} {k : Nat} (h : ∀ i, i < k → (nd l i).root ≠ r) : Maps.has (plD l k) (rk r) = false := by
  rw [← Bool.not_eq_true, plD_has]
  rintro ⟨i, hi, e⟩
  exact h i hi e
theorem plD_at {r : Rt} {i : Nat} (z : DataW Unit) (hr : (nd l i).root = r) : ∀ k, i < k → (∀ j, i < j → j < k → (nd l j).root ≠ r) → (plD l k).atKey (rk r) z = iL i
  | 0, h, _ => absurd h (Nat.not_lt_zero _)
  | k + 1, h, hj => by
    unfold plD
    by_cases e : i = k
    · subst e
      rw [hr]
      exact atKey_put_same (plD_tidy l i).isMap (isKey_rk r) _ _
    · rw [atKey_put_other (fun h2 => hj k (by omega) (Nat.lt_succ_self k) (rk_inj h2).symm)]
      exact plD_at z hr k (by omega) fun j h1 h2 => hj j h1 (by omega)
theorem plD_size_le (l : List Nd) : ∀ k, Maps.size (plD l k) ≤ k
  | 0 => Nat.le_refl _
  | k + 1 => by
    have ih := plD_size_le l k
    unfold plD
    rw [size_put (plD_tidy l k)]
    split <;> omega
/-- As many entries as nodes: just if no two are of one root. -/
theorem plD_size (l : List Nd) : ∀ k, Maps.size (plD l k) = k ↔ ∀ i, i < k → ∀ j, j < i → (nd l j).root ≠ (nd l i).root
  | 0 => ⟨fun _ i h => absurd h (Nat.not_lt_zero _), fun _ => rfl⟩
  | k + 1 => by
    have ih := plD_size l k
    have hle := plD_size_le l k
    unfold plD
    rw [size_put (plD_tidy l k)]
    by_cases hh : Maps.has (plD l k) (rk (nd l k).root) = true
    · rw [if_pos hh]
      obtain ⟨i, hi, e⟩ := (plD_has l _ k).1 hh
      exact ⟨fun h => by omega, fun h => absurd e (h k (Nat.lt_succ_self k) i hi)⟩
    · rw [if_neg hh]
      constructor
      · intro h i hi j hj
        rcases Nat.lt_succ_iff_lt_or_eq.1 hi with h1 | rfl
        · exact ih.1 (by omega) i h1 j hj
        · intro e
          exact hh ((plD_has l _ i).2 ⟨j, hj, e⟩)
      · intro h
        have := ih.2 fun i hi j hj => h i (by omega) j hj
        omega
/-- What is sought in a tree that may be. -/
theorem plD_find (h : MayT l) (r : Rt) : Maps.has (plD l l.length) (rk r) = decide (0 ≤ findT l r) ∧ (0 ≤ findT l r → (plD l l.length).atKey (rk r) (iL 0) = .lit (.int .i64 (findT l r))) := by
  rcases find_spec h r with ⟨i, hi, e, hr⟩ | ⟨e, hn⟩
  · rw [e]
    refine ⟨?_, fun _ => plD_at _ hr _ hi fun j h1 h2 e2 => ?_⟩
    · rw [(plD_has l r _).2 ⟨i, hi, hr⟩]
      exact (decide_eq_true (by omega)).symm
    · have := h.roots hi h2 (hr.trans e2.symm)
      omega
  · rw [e]
    exact ⟨by rw [plD_none hn]; rfl, fun h => by omega⟩
end
end Go.Proofs.Ytanoijcgkacnmaa
