/-
  Numbers that are put into an empty ring, and taken again, plainly.
-/
import Derived.Test.YtmcnpefnebehfaaRingU
namespace Go.Proofs.Ytmcnpefnebehfaa
open Go.RowKit

theorem run_nonneg (c : Nat) : ∀ (l k : List Int), (∀ x ∈ l, 0 ≤ x) → k.length ≤ c → runL (c : Int) k l = (k ++ l).take c
  | [], k, _, hk => by
    show k = _
    rw [List.append_nil, List.take_of_length_le hk]
  | x :: l, k, h, hk => by
    show runL (c : Int) (stepL (c : Int) k x) l = _
    have hx : ¬ x < 0 := by have := h x (by simp); omega
    unfold stepL
    rw [if_neg hx]
    by_cases e : (k.length : Int) < (c : Int)
    · rw [if_pos e, run_nonneg c l (k ++ [x]) (fun y hy => h y (by simp [hy])) (by simp; omega)]
      simp
    · rw [if_neg e, run_nonneg c l k (fun y hy => h y (by simp [hy])) hk]
      have hc : c = k.length := by omega
      rw [hc, List.take_left, List.take_left]
theorem it_mem {l : List Int} {i : Nat} (h : i < l.length) : it l i ∈ l := by rw [it_in l h]; exact List.getElem_mem h
theorem it_take (l : List Int) (n i : Nat) (h : i < n) : it (l.take n) i = it l i := by
  unfold it; rw [List.getD_eq_getElem?_getD, List.getD_eq_getElem?_getD, List.getElem?_take, if_pos h]
theorem it_app_left (k l : List Int) (i : Nat) (h : i < k.length) : it (k ++ l) i = it k i := by
  unfold it; rw [List.getD_eq_getElem?_getD, List.getD_eq_getElem?_getD, List.getElem?_append_left h]
theorem it_app_right (k l : List Int) (i : Nat) : it (k ++ l) (k.length + i) = it l i := by
  unfold it; rw [List.getD_eq_getElem?_getD, List.getD_eq_getElem?_getD, List.getElem?_append_right (by omega), Nat.add_sub_cancel_left]
theorem told_nonneg (c : Nat) (l k : List Int) (h : ∀ x ∈ l, 0 ≤ x) (hk : k.length ≤ c) (i : Nat) (hi : i < l.length) : it (toldL (c : Int) k l) i = if k.length + i < c then 1 else 0 := by
  rw [toldL_get _ _ _ _ hi, run_nonneg c (l.take i) k (fun x hx => h x (List.mem_of_mem_take hx)) hk]
  have hx : ¬ it l i < 0 := by have := h _ (it_mem hi); omega
  have hl : ((k ++ l.take i).take c).length = min c (k.length + i) := by simp; omega
  unfold toldX
  rw [if_neg hx, hl]
  by_cases e : k.length + i < c
  · rw [if_pos e, if_pos (by omega)]
  · rw [if_neg e, if_neg (by omega)]
theorem run_neg (c : Int) : ∀ (m : Nat) (k : List Int), runL c k (List.replicate m (-1)) = k.drop m
  | 0, k => rfl
  | m + 1, k => by
    show runL c (stepL c k (-1)) (List.replicate m (-1)) = _
    unfold stepL
    rw [if_pos (by omega), run_neg c m, List.drop_drop, Nat.add_comm]
theorem told_neg (c : Int) (m : Nat) (k : List Int) (i : Nat) (hi : i < m) : it (toldL c k (List.replicate m (-1))) i = if i < k.length then it k i else -1 := by
  rw [toldL_get _ _ _ _ (by simpa using hi)]
  have e1 : it (List.replicate m (-1)) i = -1 := by rw [it_in _ (by simpa using hi)]; simp
  have e2 : (List.replicate m (-1 : Int)).take i = List.replicate i (-1) := by rw [List.take_replicate]; congr 1; omega
  rw [e1, e2, run_neg]
  unfold toldX
  rw [if_pos (by omega), List.length_drop, it_drop]
  by_cases e : i < k.length
  · rw [if_pos e, if_neg (by omega)]; rfl
  · rw [if_neg e, if_pos (by omega)]

/-- What is told of all of them. -/
theorem fills (c : Nat) (hc : c ≤ 8) (l : List Int) (h : ∀ x ∈ l, 0 ≤ x) :
    goL (c : Int) [] (l ++ List.replicate l.length (-1)) = [] ∧ (goT (c : Int) [] (l ++ List.replicate l.length (-1))).length = 2 * l.length ∧
    ∀ i, i < l.length → it (goT (c : Int) [] (l ++ List.replicate l.length (-1))) i = (if i < c then 1 else 0) ∧ it (goT (c : Int) [] (l ++ List.replicate l.length (-1))) (l.length + i) = if i < c then it l i else -1 := by
  have hm : mayB (c : Int) [] = true := by rw [mayB_iff]; simp; omega
  unfold goL goT
  rw [if_pos hm, if_pos hm, runL_append, toldL_append, run_nonneg c l [] h (Nat.zero_le _), run_neg, List.nil_append]
  refine ⟨?_, ?_, fun i hi => ⟨?_, ?_⟩⟩
  · rw [List.drop_eq_nil_iff, List.length_take]; omega
  · rw [List.length_append, toldL_length, toldL_length, List.length_replicate]; omega
  · rw [it_app_left _ _ _ (by rw [toldL_length]; exact hi), told_nonneg c l [] h (Nat.zero_le _) i hi]
    simp
  · have e : (toldL (c : Int) [] l).length = l.length := toldL_length _ _ _
    rw [← e, it_app_right, e, told_neg _ _ _ _ hi, List.length_take]
    by_cases e2 : i < c
    · rw [if_pos (by omega), if_pos e2, it_take _ _ _ e2]
    · rw [if_neg (by omega), if_neg e2]
end Go.Proofs.Ytmcnpefnebehfaa
