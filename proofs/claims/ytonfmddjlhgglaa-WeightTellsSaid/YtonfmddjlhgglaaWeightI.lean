/-
  What comes and goes, node by node from the last one on, plainly; no word of the program.
-/
import Derived.Test.YtonfmddjlhgglaaR08One
import Derived.Test.YtonfmddjlhgglaaWeightH
namespace Go.Proofs.Ytonfmddjlhgglaa

theorem one_rise {a b c : Nat} (h : c ≤ b) : addOk a (b - c) = oneOk a b c ∧ addV a (b - c) = oneV a b c := by
  constructor
  · unfold addOk oneOk; congr 1; rw [eq_iff_iff]; omega
  · unfold addV oneV oneOk
    by_cases h2 : a + (b - c) < 18446744073709551616
    · rw [if_pos h2, if_pos (decide_eq_true (by omega))]; omega
    · rw [if_neg h2, if_neg (by rw [decide_eq_true_iff]; omega)]
theorem one_fall {a b c : Nat} (h : ¬ c ≤ b) (ha : a < 18446744073709551616) : lessOk a (c - b) = oneOk a b c ∧ lessV a (c - b) = oneV a b c := by
  constructor
  · unfold lessOk oneOk; congr 1; rw [eq_iff_iff]; omega
  · unfold lessV oneV oneOk
    by_cases h2 : c - b ≤ a
    · rw [if_pos h2, if_pos (decide_eq_true (by omega))]; omega
    · rw [if_neg h2, if_neg (by rw [decide_eq_true_iff]; omega)]
theorem oneV_lt (a b c : Nat) : oneV a b c < 18446744073709551616 := by
  unfold oneV oneOk
  by_cases h : c ≤ a + b ∧ a + b - c < 18446744073709551616
  · rw [if_pos (decide_eq_true h)]; exact h.2
  · rw [if_neg (by rw [decide_eq_true_iff]; exact h)]; omega
/-- The numbers when all from m on have passed. -/
def PassI (n : Nat) (a p q : List UInt64) (m : Nat) (c : List UInt64) : Prop := c.length = n ∧ (∀ i, m ≤ i → i < n → oneOk (fn a i) (fn p i) (fn q i) = true ∧ fn c i = oneV (fn a i) (fn p i) (fn q i)) ∧ ∀ i, i < m → i < n → fn c i = fn a i
section
variable {n : Nat} {a p q c : List UInt64}
theorem passI_start (h : a.length = n) : PassI n a p q n a := ⟨h, fun i h1 h2 => by omega, fun _ _ _ => rfl⟩
theorem passI_step {m : Nat} (hm : m < n) (h : PassI n a p q (m + 1) c) (ok : oneOk (fn c m) (fn p m) (fn q m) = true) : PassI n a p q m (c.set m (UInt64.ofNat (oneV (fn c m) (fn p m) (fn q m)))) := by
  have e := h.2.2 m (by omega) hm
  have hv := oneV_lt (fn c m) (fn p m) (fn q m)
  refine ⟨by rw [List.length_set, h.1], fun i h1 h2 => ?_, fun i h1 h2 => ?_⟩
  · rw [fn_setN (by rw [h.1]; exact hm) hv]
    by_cases e2 : i = m
    · subst e2
      rw [if_pos rfl]
      rw [e] at ok ⊢
      exact ⟨ok, rfl⟩
    · rw [if_neg e2]
      exact h.2.1 i (by omega) h2
  · rw [fn_setN (by rw [h.1]; exact hm) hv, if_neg (by omega)]
    exact h.2.2 i (by omega) h2
theorem passI_not {m : Nat} (hm : m < n) (h : PassI n a p q (m + 1) c) (ok : oneOk (fn c m) (fn p m) (fn q m) = false) : oneOk (fn a m) (fn p m) (fn q m) = false := by
  rw [← h.2.2 m (by omega) hm]; exact ok
end
section
variable {l : List Nd} {w pl mi c : List UInt64}
theorem pass_sum (hp : subOk l pl = true) (hq : subOk l mi = true) (hw : w.length = l.length) (h : ∀ i, i < l.length → oneOk (fn w i) (fn (subL l pl) i) (fn (subL l mi) i) = true) : passOk l w pl mi = true :=
  passOk_iff.2 ⟨hp, hq, hw, fun i hi => by
    have := h i hi
    rw [subL_fn hp hi, subL_fn hq hi] at this
    exact of_decide_eq_true this⟩
theorem pass_not (hp : subOk l pl = true) (hq : subOk l mi = true) {i : Nat} (hi : i < l.length) (h : oneOk (fn w i) (fn (subL l pl) i) (fn (subL l mi) i) = false) : passOk l w pl mi = false := by
  rw [← Bool.not_eq_true]
  intro e
  have := (passOk_iff.1 e).2.2.2 i hi
  rw [subL_fn hp hi, subL_fn hq hi] at h
  exact of_decide_eq_false h this
theorem passI_end (hp : subOk l pl = true) (hq : subOk l mi = true) (hw : w.length = l.length) (h : PassI l.length w (subL l pl) (subL l mi) 0 c) : passOk l w pl mi = true ∧ c = passL l w pl mi := by
  have ok : passOk l w pl mi = true := pass_sum hp hq hw fun i hi => (h.2.1 i (Nat.zero_le _) hi).1
  refine ⟨ok, fn_ext (by rw [h.1, passL_len ok]) fun i hi => ?_⟩
  rw [passL_len ok] at hi
  obtain ⟨h1, h2⟩ := h.2.1 i (Nat.zero_le _) hi
  rw [h2, passL_fn ok hi]
  unfold oneV passF
  rw [if_pos h1, subL_fn hp hi, subL_fn hq hi]
end
end Go.Proofs.Ytonfmddjlhgglaa
