/-
  Those of some bits, one by one, plainly: what two laws of layer 11 want.
-/
import Derived.Test.YtjjncaojicjfjaaStakeQ
namespace Go.Proofs.Ytjjncaojicjfjaa
section
variable {K : List Nat}
def bitK (K : List Nat) (q : Nat) : Nat := ((K.take q).map fun v => 2 ^ v).sum
theorem take_one {q : Nat} (h : q < K.length) : K.take (q + 1) = K.take q ++ [K.getD q 0] := by
  rw [List.take_succ_eq_append_getElem h, List.getD_eq_getElem?_getD, List.getElem?_eq_getElem h]
  rfl
theorem bitK_zero : bitK K 0 = 0 := rfl
theorem bitK_succ {q : Nat} (h : q < K.length) : bitK K (q + 1) = bitK K q + 2 ^ (K.getD q 0) := by
  unfold bitK
  rw [take_one h]
  simp
theorem bitK_all : bitK K K.length = (K.map fun v => 2 ^ v).sum := by unfold bitK; rw [List.take_length]
theorem bitK_mono {q r : Nat} (h : q ≤ r) (hr : r ≤ K.length) : bitK K q ≤ bitK K r := by
  induction r with
  | zero => obtain rfl : q = 0 := by omega
            exact Nat.le_refl _
  | succ r ih =>
    by_cases e : q = r + 1
    · subst e; exact Nat.le_refl _
    · rw [bitK_succ (by omega)]; exact Nat.le_trans (ih (by omega) (by omega)) (Nat.le_add_right _ _)
def ofK (f : Nat → Nat) (n : Nat) (K : List Nat) (q : Nat) : Nat := (((K.take q).filter fun v => decide (v < n)).map f).sum
theorem ofK_zero {f : Nat → Nat} {n : Nat} : ofK f n K 0 = 0 := rfl
theorem ofK_yes {f : Nat → Nat} {n q : Nat} (h : q < K.length) (hn : K.getD q 0 < n) : ofK f n K (q + 1) = ofK f n K q + f (K.getD q 0) := by
  unfold ofK
  rw [take_one h, List.filter_append, List.map_append, List.sum_append]
  simp [hn, -List.getD_eq_getElem?_getD]
theorem ofK_no {f : Nat → Nat} {n q : Nat} (h : q < K.length) (hn : ¬ K.getD q 0 < n) : ofK f n K (q + 1) = ofK f n K q := by
  unfold ofK
  rw [take_one h, List.filter_append, List.map_append, List.sum_append]
  simp [hn, -List.getD_eq_getElem?_getD]
theorem ofK_all {f : Nat → Nat} {n : Nat} : ofK f n K K.length = ((K.filter fun v => decide (v < n)).map f).sum := by unfold ofK; rw [List.take_length]
theorem ofK_mono {f : Nat → Nat} {n q r : Nat} (h : q ≤ r) (hr : r ≤ K.length) : ofK f n K q ≤ ofK f n K r := by
  induction r with
  | zero => obtain rfl : q = 0 := by omega
            exact Nat.le_refl _
  | succ r ih =>
    by_cases e : q = r + 1
    · subst e; exact Nat.le_refl _
    · have := ih (by omega) (by omega)
      by_cases hn : K.getD r 0 < n
      · rw [ofK_yes (by omega) hn]; omega
      · rw [ofK_no (by omega) hn]; exact this
end
theorem whoT_lt {m : UInt64} {q : Nat} (h : q < (whoT m).length) : (whoT m).getD q 0 < 64 := by
  rw [List.getD_eq_getElem?_getD, List.getElem?_eq_getElem h]
  exact (mem_who.1 (List.getElem_mem h)).1
theorem whoT_up {m : UInt64} {q : Nat} (h : q + 1 < (whoT m).length) : (whoT m).getD q 0 < (whoT m).getD (q + 1) 0 := by
  rw [List.getD_eq_getElem?_getD, List.getElem?_eq_getElem (by omega), List.getD_eq_getElem?_getD, List.getElem?_eq_getElem h]
  have hp : (whoT m).Pairwise (· < ·) := List.Pairwise.filter _ List.pairwise_lt_range
  exact List.pairwise_iff_getElem.1 hp q (q + 1) (by omega) h (by omega)
theorem whoI_at {m : UInt64} {q : Nat} (h : q < (whoT m).length) : (whoI m).getD q 0 = ((whoT m).getD q 0 : Int) := by
  unfold whoI
  simp [List.getD_eq_getElem?_getD, List.getElem?_eq_getElem h]
theorem whoI_len (m : UInt64) : (whoI m).length = (whoT m).length := by unfold whoI; rw [List.length_map]
theorem bitK_who (m : UInt64) : bitK (whoT m) (whoT m).length = m.toNat := by rw [bitK_all]; exact who_sum m
theorem ofK_who {l : List UInt64} (h : mayB l = true) (m : UInt64) : ofK (fn l) l.length (whoT m) (whoT m).length = ofS l m := by
  rw [ofK_all, ofS_yes h]
  exact who_of (fn l) m (by have := (mayB_iff.1 h).2.1; omega)
end Go.Proofs.Ytjjncaojicjfjaa
