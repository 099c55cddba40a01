/-
  What is cut, as the document's own loop keeps it: places in a row; plainly.
-/
import Derived.Test.YtnehebipikhejaaCutT
import Derived.Test.YtnehebipikhejaaIntS
namespace Go.Proofs.Ytnehebipikhejaa
open Go.RowKit Go.Maps

def plI (l : List Nd) (i j : Nat) : List Int := ((List.range j).filter (keptB l i)).map (fun k : Nat => (k : Int))
/-- The parent's place as the inner loop finds it. -/
def parW (ps : List Int) (x : Int) (b : Bool) : Nat → Int
  | 0 => -1
  | q + 1 => if ps.getD q 0 = x ∧ b = true then (q : Int) else parW ps x b q
section
variable {l : List Nd} {i : Nat}
theorem plI_zero (l : List Nd) (i : Nat) : plI l i 0 = [] := rfl
theorem plI_yes {j : Nat} (h : keptB l i j = true) : plI l i (j + 1) = plI l i j ++ [(j : Int)] := by
  unfold plI
  rw [List.range_succ, List.filter_append, List.map_append]
  simp [h]
theorem plI_no {j : Nat} (h : keptB l i j = false) : plI l i (j + 1) = plI l i j := by
  unfold plI
  rw [List.range_succ, List.filter_append, List.map_append]
  simp [h]
theorem plI_len (l : List Nd) (i j : Nat) : (plI l i j).length = (cutUp l i j).length := by
  unfold plI cutUp
  rw [List.length_map, List.length_map]
theorem parW_no (ps : List Int) (x : Int) : ∀ q, parW ps x false q = -1
  | 0 => rfl
  | q + 1 => by
    unfold parW
    rw [if_neg (fun h => by cases h.2)]
    exact parW_no ps x q
theorem parW_at {ps : List Int} {x : Int} {r : Nat} (h : ps.getD r 0 = x) (hu : ∀ q, q < ps.length → ps.getD q 0 = x → q = r) : ∀ q, r < q → q ≤ ps.length → parW ps x true q = r
  | 0, h0, _ => absurd h0 (Nat.not_lt_zero _)
  | q + 1, h0, hq => by
    unfold parW
    by_cases e : q = r
    · subst e
      rw [if_pos ⟨h, rfl⟩]
    · rw [if_neg (fun k => e (hu q (by omega) k.1))]
      exact parW_at h hu q (by omega) (by omega)
theorem parW_bd (ps : List Int) (x : Int) (b : Bool) : ∀ q, -1 ≤ parW ps x b q ∧ parW ps x b q ≤ q
  | 0 => by unfold parW; omega
  | q + 1 => by
    have := parW_bd ps x b q
    unfold parW
    split <;> omega
theorem plI_get {k q : Nat} (hq : q < (plI l i k).length) : ∃ a, a < k ∧ keptB l i a = true ∧ rankT l i a = q ∧ (plI l i k).getD q 0 = (a : Int) := by
  have hq' : q < ((List.range k).filter (keptB l i)).length := by unfold plI at hq; rwa [List.length_map] at hq
  obtain ⟨a, h1, h2, h3⟩ := rank_all (keptB l i) hq'
  refine ⟨a, h1, h2, h3, ?_⟩
  unfold plI
  rw [List.getD_eq_getElem?_getD, List.getElem?_map, ← h3, rank_get (keptB l i) h1 h2]
  rfl
theorem plI_rank {k a : Nat} (ha : a < k) (hk : keptB l i a = true) : rankT l i a < (plI l i k).length ∧ (plI l i k).getD (rankT l i a) 0 = (a : Int) := by
  constructor
  · unfold plI; rw [List.length_map]; exact rank_lt (keptB l i) ha hk
  · unfold plI
    rw [List.getD_eq_getElem?_getD, List.getElem?_map, show rankT l i a = rankP (keptB l i) a from rfl, rank_get (keptB l i) ha hk]
    rfl
/-- The inner loop finds where the parent went. -/
theorem parW_cut (h : MayT l) {k : Nat} (hk : keptB l i k = true) : parW (plI l i k) (nd l k).parent (decide (k ≠ i)) (plI l i k).length = (cutN l i k).parent := by
  have hkl := (kept_iff.1 hk).1
  unfold cutN
  by_cases e : k = i
  · subst e
    rw [decide_eq_false (fun h => h rfl), parW_no, if_pos rfl]
  · obtain ⟨h0, hku, hlt, _⟩ := kept_up h hk e
    obtain ⟨hp, _, _⟩ := h.par h0 hkl
    rw [decide_eq_true e, if_neg e, hp]
    obtain ⟨r1, r2⟩ := plI_rank hlt hku
    refine parW_at r2 (fun q hq hx => ?_) _ r1 (Nat.le_refl _)
    obtain ⟨a, h1, h2, h3, h4⟩ := plI_get hq
    rw [h4] at hx
    have : a = up l k := by omega
    subst this
    exact h3.symm
theorem aboveZ_kept (h : MayT l) {k : Nat} (hi : i < l.length) (hk : k < l.length) : aboveZ l (i : Int) (k : Int) = keptB l i k := by
  unfold aboveZ keptB
  rw [isT_nat h hi, isT_nat h hk, decide_eq_true hk, Int.toNat_natCast, Int.toNat_natCast]
  simp
/-- An element of a row of ints. -/
theorem int_at {w : World} {b off : Nat} {ps : List Int} (h : w.rangeAt b off (cellsE Eint ps)) {q : Nat} (hq : q < ps.length) : w.cell? ⟨b, off + q, none⟩ = some (.int .i64 (ps.getD q 0)) := by
  have h1 := cell_at h hq (j := 0) (v := .int .i64 ps[q]) rfl
  have h2 : ps.getD q 0 = ps[q] := by rw [List.getD_eq_getElem?_getD, List.getElem?_eq_getElem hq]; rfl
  rw [h2]
  simpa [Eint] using h1
end
end Go.Proofs.Ytnehebipikhejaa
