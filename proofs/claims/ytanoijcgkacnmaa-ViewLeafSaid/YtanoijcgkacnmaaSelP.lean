/-
  The numbers below n of which something is so, rising; as ints; any program.
-/
import Derived.Below
namespace Go.Proofs.Ytanoijcgkacnmaa

def selN (p : Nat → Bool) (n : Nat) : List Nat := (List.range n).filter p
def selI (p : Nat → Bool) (n : Nat) : List Int := (selN p n).map fun k : Nat => (k : Int)
theorem selI_zero (p : Nat → Bool) : selI p 0 = [] := rfl
theorem selI_yes {p : Nat → Bool} {j : Nat} (h : p j = true) : selI p (j + 1) = selI p j ++ [(j : Int)] := by
  unfold selI selN
  rw [List.range_succ, List.filter_append, List.map_append]
  simp [h]
theorem selI_no {p : Nat → Bool} {j : Nat} (h : p j = false) : selI p (j + 1) = selI p j := by
  unfold selI selN
  rw [List.range_succ, List.filter_append, List.map_append]
  simp [h]
theorem selN_len (p : Nat → Bool) (n : Nat) : (selN p n).length ≤ n := by
  unfold selN
  have := List.length_filter_le p (List.range n)
  rwa [List.length_range] at this
theorem selI_len (p : Nat → Bool) (n : Nat) : (selI p n).length ≤ n := by
  unfold selI
  rw [List.length_map]
  exact selN_len p n
theorem mem_selN {p : Nat → Bool} {n k : Nat} : k ∈ selN p n ↔ k < n ∧ p k = true := by
  unfold selN
  rw [List.mem_filter, List.mem_range]
theorem mem_selI {p : Nat → Bool} {n : Nat} {x : Int} : x ∈ selI p n ↔ ∃ k : Nat, k < n ∧ p k = true ∧ x = k := by
  unfold selI
  rw [List.mem_map]
  constructor
  · rintro ⟨k, hk, rfl⟩
    exact ⟨k, (mem_selN.1 hk).1, (mem_selN.1 hk).2, rfl⟩
  · rintro ⟨k, h1, h2, rfl⟩
    exact ⟨k, mem_selN.2 ⟨h1, h2⟩, rfl⟩
end Go.Proofs.Ytanoijcgkacnmaa
