/-
  Children, told one by one.
-/
import Derived.Test.YtnehebipikhejaaTmem
import Derived.Test.YtnehebipikhejaaIntS
namespace Go.Proofs.Ytnehebipikhejaa
open Go.RowKit

def kidsUp (l : List Nd) (i j : Nat) : List Int := ((List.range j).filter fun k => decide ((nd l k).parent = (i : Int))).map fun k : Nat => (k : Int)
theorem kidsUp_zero (l : List Nd) (i : Nat) : kidsUp l i 0 = [] := rfl
theorem kidsUp_yes {l : List Nd} {i j : Nat} (h : (nd l j).parent = (i : Int)) : kidsUp l i (j + 1) = kidsUp l i j ++ [(j : Int)] := by
  unfold kidsUp
  rw [List.range_succ, List.filter_append, List.map_append]
  simp [h]
theorem kidsUp_no {l : List Nd} {i j : Nat} (h : (nd l j).parent ≠ (i : Int)) : kidsUp l i (j + 1) = kidsUp l i j := by
  unfold kidsUp
  rw [List.range_succ, List.filter_append, List.map_append]
  simp [h]
theorem kidsUp_len (l : List Nd) (i j : Nat) : (kidsUp l i j).length ≤ j := by
  unfold kidsUp
  rw [List.length_map]
  have := List.length_filter_le (fun k => decide ((nd l k).parent = (i : Int))) (List.range j)
  rwa [List.length_range] at this
def kidsI (l : List Nd) (i : Int) : List Int := (kidsZ l i).map fun k : Nat => (k : Int)
theorem kidsI_nat {l : List Nd} (h : MayT l) {i : Nat} (hi : i < l.length) : kidsI l (i : Int) = kidsUp l i l.length := by
  unfold kidsI
  rw [kidsZ_nat h hi]
  rfl
theorem kidsI_not {l : List Nd} {i : Int} (h : isT l i = false) : kidsI l i = [] := by
  unfold kidsI kidsZ
  rw [h]
  rfl
/-- Numbers are answered, in memory of the call's own. -/
def IntsIs (L : List Int) (w : World) (e : Ending) (w' : World) : Prop := ∃ v, e = .returned v ∧ OwnE Eint w' w.heap.size v L ∧ Below w.heap.size w w'
end Go.Proofs.Ytnehebipikhejaa
