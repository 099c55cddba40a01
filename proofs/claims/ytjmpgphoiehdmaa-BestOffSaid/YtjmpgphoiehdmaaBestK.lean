/-
  Children and the best of them, plainly: what law BestKid wants.
-/
import Derived.Test.YtjmpgphoiehdmaaBestQ
import Derived.Test.YtjmpgphoiehdmaaGI
namespace Go.Proofs.Ytjmpgphoiehdmaa
open Go.RowKit
section
variable {l : List Nd} {a : List UInt64} {b : List Bool}
theorem kids_le (i : Nat) : (kidsT l i).length ≤ l.length := by
  have := List.length_filter_le (fun k => decide ((nd l k).parent = (i : Int))) (List.range l.length)
  rw [List.length_range] at this
  exact this
/-- The children of whatever number, and which of them is the best. -/
theorem law_kids (ht : toldB l a b = true) (i : Int) : ∃ K : List Nat, kidsI l i = K.map (fun k : Nat => (k : Int)) ∧ K.length ≤ l.length ∧ (∀ j, j < K.length → K.getD j 0 < l.length) ∧
    ((kidZ l a b i = -1 ∧ ∀ j, j < K.length → bn b (K.getD j 0) = false) ∨
     ∃ k : Nat, kidZ l a b i = (k : Int) ∧ k < l.length ∧ (nd l k).parent = i ∧ bn b k = true ∧ (∃ j, j < K.length ∧ K.getD j 0 = k) ∧
       ∀ j, j < K.length → bn b (K.getD j 0) = true → fn a (K.getD j 0) ≤ fn a k ∧ (fn a (K.getD j 0) = fn a k → lessR (nd l k).root (nd l (K.getD j 0)).root = false)) := by
  cases hp : placeB l a b i
  · refine ⟨[], ?_, Nat.zero_le _, fun j hj => absurd hj (Nat.not_lt_zero _), .inl ⟨kidZ_not hp, fun j hj => absurd hj (Nat.not_lt_zero _)⟩⟩
    refine kidsI_not ?_
    rw [← Bool.not_eq_true, isT_iff]
    rintro ⟨_, h1, h2⟩
    have : placeB l a b i = true := place_iff.2 ⟨ht, h1, h2⟩
    rw [hp] at this
    exact Bool.false_ne_true this
  · obtain ⟨_, h0, h1⟩ := place_iff.1 hp
    obtain ⟨i, rfl⟩ : ∃ i' : Nat, i = i' := ⟨i.toNat, by omega⟩
    have hi : i < l.length := by omega
    have hm := (told_iff.1 ht).1
    have hK : ∀ j, j < (kidsT l i).length → (kidsT l i).getD j 0 ∈ kidsT l i := fun j hj => by
      rw [List.getD_eq_getElem?_getD, List.getElem?_eq_getElem hj]
      exact List.getElem_mem hj
    refine ⟨kidsT l i, by unfold kidsI; rw [kidsZ_nat hm hi], kids_le i, fun j hj => (mem_kids.1 (hK j hj)).1, ?_⟩
    rw [kidZ_nat ht hi]
    rcases law_kid (l := l) (w := a) (b := b) (i := i) with ⟨e, h⟩ | ⟨k, e, h1, h2, h3, h4, h5⟩
    · exact .inl ⟨by rw [e, optZ_none], fun j hj => h _ (hK j hj)⟩
    · obtain ⟨j, hj, hjk⟩ := List.getElem_of_mem h4
      exact .inr ⟨k, by rw [e, optZ_some], h1, h2, h3, ⟨j, hj, by rw [List.getD_eq_getElem?_getD, List.getElem?_eq_getElem hj]; exact hjk⟩, fun j hj => h5 _ (hK j hj)⟩
end
end Go.Proofs.Ytjmpgphoiehdmaa
