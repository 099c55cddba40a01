/-
  Views, plainly: what the document's own functions of layer 10 want.
-/
import Derived.Test.YtanoijcgkacnmaaGV
import Derived.Test.YtanoijcgkacnmaaGJ
import Derived.Test.YtanoijcgkacnmaaTw
namespace Go.Proofs.Ytanoijcgkacnmaa
open Go.RowKit
theorem nds_just {w : World} {b off : Nat} {l : List Nd} (h : w.rangeAt b off (cellsE Ene l)) {i : Nat} (hi : i < l.length) : w.cell? ⟨b, off + i * 35 + 34, none⟩ = some (.int .u64 ((nd l i).just.toNat : Int)) := by
  have := ne_rd_just (range_at h hi)
  rw [nd_in l hi]
  exact this
section
variable {l : List Nd}
theorem leaf_not {just : Nat} {fin i : Int} (h : aboveZ l fin i = false) : leafT l just fin i = false := by unfold leafT; rw [h]; rfl
theorem leaf_nat (hm : MayT l) {just : Nat} {fin : Int} {i : Nat} (hi : i < l.length) (h : aboveZ l fin (i : Int) = true) : leafT l just fin (i : Int) = (decide (kidsT l i = []) && decide (just ≤ (nd l i).just.toNat)) := by
  unfold leafT
  rw [h, kidsZ_nat hm hi, Bool.true_and]
  rfl
/-- A bool of each of the first j. -/
def boosT (p : Nat → Bool) (j : Nat) : List Bool := (List.range j).map p
theorem boosT_zero (p : Nat → Bool) : boosT p 0 = [] := rfl
theorem boosT_succ (p : Nat → Bool) (j : Nat) : boosT p (j + 1) = boosT p j ++ [p j] := by unfold boosT; rw [List.range_succ, List.map_append]; rfl
theorem boosT_len (p : Nat → Bool) (j : Nat) : (boosT p j).length = j := by unfold boosT; simp
theorem leads_yes (h : MayT l) {just : Nat} {fin : Int} : leadsT l just fin = boosT (leadB l just fin) l.length := if_pos h
theorem leads_no (h : ¬ MayT l) {just : Nat} {fin : Int} : leadsT l just fin = [] := if_neg h
theorem boosT_at {p : Nat → Bool} {n i : Nat} (hi : i < n) : bn (boosT p n) i = p i := by
  rw [bn_at (by rw [boosT_len]; exact hi)]
  unfold boosT
  simp
/-- Does one of the first j lead i on? -/
def anyL (l : List Nd) (just : Nat) (fin : Int) (i j : Nat) : Bool := anyB (fun k => aboveT l i k && leafT l just fin (k : Int)) j
theorem anyL_zero {just : Nat} {fin : Int} {i : Nat} : anyL l just fin i 0 = false := rfl
theorem anyL_succ {just : Nat} {fin : Int} {i j : Nat} : anyL l just fin i (j + 1) = (anyL l just fin i j || (aboveT l i j && leafT l just fin (j : Int))) := rfl
theorem anyL_all {just : Nat} {fin : Int} {i : Nat} : anyL l just fin i l.length = leadB l just fin i := rfl
end
end Go.Proofs.Ytanoijcgkacnmaa
