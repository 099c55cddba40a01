/-
  Lists of numbers of 64 bits, plainly; no word of the program.
  What blocks weigh, as lists of numbers of 64 bits: sums that fit, what comes and goes; what the laws of layer 8 want of them; no word of the program.
-/
import Derived.Below
import Derived.Test.YtccihllcohnnnaaQ05
namespace Go.Proofs.Ytccihllcohnnnaa
set_option maxRecDepth 100000

/-- Number k of a list; 0 behind its end. -/
def fn (a : List UInt64) (k : Nat) : Nat := (a.getD k 0).toNat
theorem fn_lt (a : List UInt64) (k : Nat) : fn a k < 18446744073709551616 := (a.getD k 0).toNat_lt
theorem fn_at {a : List UInt64} {k : Nat} (h : k < a.length) : fn a k = a[k].toNat := by unfold fn; simp [h]
theorem fn_ext {a b : List UInt64} (hl : a.length = b.length) (h : ∀ k, k < b.length → fn a k = fn b k) : a = b := by
  refine List.ext_getElem hl fun k h1 h2 => UInt64.toNat_inj.1 ?_
  have := h k h2
  rwa [fn_at h1, fn_at h2] at this
/-- A list of so many numbers. -/
def numsT (f : Nat → Nat) (n : Nat) : List UInt64 := (List.range n).map fun i => UInt64.ofNat (f i)
theorem nums_len (f : Nat → Nat) (n : Nat) : (numsT f n).length = n := by simp [numsT]
theorem nums_succ (f : Nat → Nat) (n : Nat) : numsT f (n + 1) = numsT f n ++ [UInt64.ofNat (f n)] := by simp [numsT, List.range_succ]
theorem fn_nums {f : Nat → Nat} {n k : Nat} (hk : k < n) (hf : f k < 18446744073709551616) : fn (numsT f n) k = f k := by
  unfold fn numsT
  rw [List.getD_eq_getElem?_getD, List.getElem?_map, List.getElem?_range hk]
  simp only [Option.map_some, Option.getD_some, UInt64.toNat_ofNat']
  omega
theorem fn_zeros (n k : Nat) : fn (List.replicate n 0) k = 0 := by
  unfold fn
  rw [List.getD_eq_getElem?_getD, List.getElem?_replicate]
  split <;> rfl
end Go.Proofs.Ytccihllcohnnnaa
namespace Go.Proofs.Ytccihllcohnnnaa
set_option maxRecDepth 100000

/-! ### sums -/
def FitW (l : List Nd) (a : List UInt64) : Prop := a.length = l.length ∧ ∀ i, i < l.length → subT l (fn a) i < 18446744073709551616
instance (l : List Nd) (a : List UInt64) : Decidable (FitW l a) := by unfold FitW; exact inferInstance
def subOk (l : List Nd) (a : List UInt64) : Bool := decide (MayT l ∧ FitW l a)
def subL (l : List Nd) (a : List UInt64) : List UInt64 := if subOk l a = true then numsT (subT l (fn a)) l.length else []
section
variable {l : List Nd} {a : List UInt64}
theorem subOk_iff : subOk l a = true ↔ MayT l ∧ a.length = l.length ∧ ∀ i, i < l.length → subT l (fn a) i < 18446744073709551616 := by
  unfold subOk FitW
  rw [decide_eq_true_iff]
theorem subL_yes (h : subOk l a = true) : subL l a = numsT (subT l (fn a)) l.length := by unfold subL; rw [if_pos h]
theorem subL_no (h : subOk l a = false) : subL l a = [] := by unfold subL; rw [if_neg (by rw [h]; exact Bool.false_ne_true)]
theorem subL_len (h : subOk l a = true) : (subL l a).length = l.length := by rw [subL_yes h, nums_len]
theorem subL_fn (h : subOk l a = true) {i : Nat} (hi : i < l.length) : fn (subL l a) i = subT l (fn a) i := by
  rw [subL_yes h]
  exact fn_nums hi ((subOk_iff.1 h).2.2 i hi)
/-- The sum of the first so many that a node is above. -/
def partW (l : List Nd) (a : List UInt64) (i k : Nat) : Nat := sumF (fun k => if aboveT l i k = true then fn a k else 0) k
theorem partW_zero (l : List Nd) (a : List UInt64) (i : Nat) : partW l a i 0 = 0 := rfl
theorem partW_yes {i k : Nat} (h : aboveT l i k = true) : partW l a i (k + 1) = partW l a i k + fn a k := by
  show sumF _ k + (if aboveT l i k = true then fn a k else 0) = _
  rw [if_pos h]; rfl
theorem partW_no {i k : Nat} (h : aboveT l i k = false) : partW l a i (k + 1) = partW l a i k := by
  show sumF _ k + (if aboveT l i k = true then fn a k else 0) = _
  rw [if_neg (by rw [h]; exact Bool.false_ne_true)]; rfl
theorem partW_all (l : List Nd) (a : List UInt64) (i : Nat) : partW l a i l.length = subT l (fn a) i := rfl
theorem partW_le {i k : Nat} (hk : k ≤ l.length) : partW l a i k ≤ subT l (fn a) i := sumF_part _ hk

/-! ### what comes and goes -/
def oneOk (a b c : Nat) : Bool := decide (c ≤ a + b ∧ a + b - c < 18446744073709551616)
def passOk (l : List Nd) (w p m : List UInt64) : Bool := (subOk l p && subOk l m) && (decide (w.length = l.length) && decide (∀ i, i < l.length → oneOk (fn w i) (subT l (fn p) i) (subT l (fn m) i) = true))
def passF (l : List Nd) (w p m : List UInt64) (i : Nat) : Nat := fn w i + subT l (fn p) i - subT l (fn m) i
def passL (l : List Nd) (w p m : List UInt64) : List UInt64 := if passOk l w p m = true then numsT (passF l w p m) l.length else []
variable {w p m : List UInt64}
theorem passOk_iff : passOk l w p m = true ↔ subOk l p = true ∧ subOk l m = true ∧ w.length = l.length ∧ ∀ i, i < l.length → subT l (fn m) i ≤ fn w i + subT l (fn p) i ∧ fn w i + subT l (fn p) i - subT l (fn m) i < 18446744073709551616 := by
  unfold passOk oneOk
  simp only [Bool.and_eq_true, decide_eq_true_iff, and_assoc]
theorem passL_yes (h : passOk l w p m = true) : passL l w p m = numsT (passF l w p m) l.length := by unfold passL; rw [if_pos h]
theorem passL_no (h : passOk l w p m = false) : passL l w p m = [] := by unfold passL; rw [if_neg (by rw [h]; exact Bool.false_ne_true)]
theorem passL_len (h : passOk l w p m = true) : (passL l w p m).length = l.length := by rw [passL_yes h, nums_len]
theorem passL_fn (h : passOk l w p m = true) {i : Nat} (hi : i < l.length) : fn (passL l w p m) i = passF l w p m i := by
  rw [passL_yes h]
  exact fn_nums hi ((passOk_iff.1 h).2.2.2 i hi).2

/-! ### the laws -/
theorem subOk_small (h : MayT l) (hl : a.length = l.length) {b : Nat} (hb : b * 12 < 18446744073709551616) (ha : ∀ k, k < l.length → fn a k ≤ b) : subOk l a = true := by
  refine subOk_iff.2 ⟨h, hl, fun i _ => ?_⟩
  have h1 := sub_bound (l := l) (fn a) i b ha
  have h2 : l.length * b ≤ 12 * b := Nat.mul_le_mul_right _ h.le
  omega
theorem subT_lin {f g k : Nat → Nat} (i : Nat) (h : ∀ j, j < l.length → k j = f j + g j) : subT l k i = subT l f i + subT l g i := by
  rw [← sub_add]
  exact sub_congr i h
/-- WeightAdds. -/
theorem law_adds (h : MayT l) {b c x : List UInt64} (ha : a.length = l.length) (hb : b.length = l.length) (hc : c.length = l.length) (h1 : ∀ k, k < l.length → fn a k < 1125899906842624 ∧ fn b k < 1125899906842624 ∧ fn c k = fn a k + fn b k)
    (hx : x.length = l.length) (hs : ∀ k, k < l.length → fn x k = (fn (subL l a) k + fn (subL l b) k) % 18446744073709551616) : subOk l a = true ∧ subOk l b = true ∧ subOk l c = true ∧ x = subL l c := by
  have sa := subOk_small (a := a) h ha (b := 1125899906842624) (by omega) (fun k hk => by have := h1 k hk; omega)
  have sb := subOk_small (a := b) h hb (b := 1125899906842624) (by omega) (fun k hk => by have := h1 k hk; omega)
  have sc := subOk_small (a := c) h hc (b := 2251799813685248) (by omega) (fun k hk => by have := h1 k hk; omega)
  refine ⟨sa, sb, sc, fn_ext (by rw [hx, subL_len sc]) fun k hk => ?_⟩
  rw [subL_len sc] at hk
  rw [hs k hk, subL_fn sa hk, subL_fn sb hk, subL_fn sc hk, subT_lin k (fun j hj => (h1 j hj).2.2)]
  have := (subOk_iff.1 sc).2.2 k hk
  rw [subT_lin k (fun j hj => (h1 j hj).2.2)] at this
  exact Nat.mod_eq_of_lt this
/-- WeightPass. -/
theorem law_pass (h : MayT l) {own is : List UInt64} (ho : own.length = l.length) (hp : p.length = l.length) (hm : m.length = l.length) (hi : is.length = l.length)
    (h1 : ∀ k, k < l.length → fn own k < 1125899906842624 ∧ fn p k < 1125899906842624 ∧ fn m k ≤ fn own k + fn p k ∧ fn is k = fn own k + fn p k - fn m k) : subOk l own = true ∧ subOk l is = true ∧ passOk l (subL l own) p m = true ∧ passL l (subL l own) p m = subL l is := by
  have so := subOk_small (a := own) h ho (b := 1125899906842624) (by omega) (fun k hk => by have := h1 k hk; omega)
  have sp := subOk_small (a := p) h hp (b := 1125899906842624) (by omega) (fun k hk => by have := h1 k hk; omega)
  have sm := subOk_small (a := m) h hm (b := 2251799813685248) (by omega) (fun k hk => by have := h1 k hk; omega)
  have si := subOk_small (a := is) h hi (b := 2251799813685248) (by omega) (fun k hk => by have := h1 k hk; omega)
  have e : ∀ i, subT l (fn own) i + subT l (fn p) i = subT l (fn is) i + subT l (fn m) i := fun i => by
    rw [← sub_add, ← sub_add]
    exact sub_congr i fun k hk => by have := h1 k hk; omega
  have hp' : passOk l (subL l own) p m = true := by
    refine passOk_iff.2 ⟨sp, sm, subL_len so, fun i hi => ?_⟩
    rw [subL_fn so hi, e i]
    have := (subOk_iff.1 si).2.2 i hi
    omega
  refine ⟨so, si, hp', fn_ext (by rw [passL_len hp', subL_len si]) fun k hk => ?_⟩
  rw [subL_len si] at hk
  rw [passL_fn hp' hk, subL_fn si hk]
  unfold passF
  rw [subL_fn so hk, e k]
  omega
theorem sub_zero (n i : Nat) : subT l (fn (List.replicate n 0)) i = 0 := by
  have : subT l (fn (List.replicate n 0)) i = sumF (fun _ => 0) l.length := by
    unfold subT
    refine sumF_congr _ fun k _ => ?_
    rw [fn_zeros]
    split <;> rfl
  rw [this, sumF_zero]
theorem zero_ok (h : MayT l) : subOk l (List.replicate l.length 0) = true := subOk_iff.2 ⟨h, by simp, fun i _ => by rw [sub_zero]; omega⟩
theorem zero_not (h : ¬ MayT l) : subOk l a = false := by
  rw [← Bool.not_eq_true]
  exact fun e => h (subOk_iff.1 e).1
/-- WeightBack: nothing comes, nothing goes. -/
theorem law_still : passOk l w (List.replicate l.length 0) (List.replicate l.length 0) = (decide (MayT l) && decide (w.length = l.length)) ∧ (passOk l w (List.replicate l.length 0) (List.replicate l.length 0) = true → passL l w (List.replicate l.length 0) (List.replicate l.length 0) = w) := by
  constructor
  · rw [Bool.eq_iff_iff, passOk_iff, Bool.and_eq_true, decide_eq_true_iff, decide_eq_true_iff]
    constructor
    · rintro ⟨h1, _, h2, _⟩
      exact ⟨(subOk_iff.1 h1).1, h2⟩
    · rintro ⟨h1, h2⟩
      refine ⟨zero_ok h1, zero_ok h1, h2, fun i _ => ?_⟩
      rw [sub_zero]
      have := fn_lt w i
      omega
  · intro h
    refine fn_ext (by rw [passL_len h, (passOk_iff.1 h).2.2.1]) fun k hk => ?_
    rw [(passOk_iff.1 h).2.2.1] at hk
    rw [passL_fn h hk]
    unfold passF
    rw [sub_zero]
    omega
/-- WeightBack: what came goes again. -/
theorem law_back (h : passOk l w p (List.replicate l.length 0) = true) : passOk l (passL l w p (List.replicate l.length 0)) (List.replicate l.length 0) p = true ∧ passL l (passL l w p (List.replicate l.length 0)) (List.replicate l.length 0) p = w := by
  obtain ⟨h1, h2, h3, h4⟩ := passOk_iff.1 h
  have e : ∀ i, i < l.length → fn (passL l w p (List.replicate l.length 0)) i = fn w i + subT l (fn p) i := fun i hi => by
    rw [passL_fn h hi]; unfold passF; rw [sub_zero]; omega
  have hb : passOk l (passL l w p (List.replicate l.length 0)) (List.replicate l.length 0) p = true := by
    refine passOk_iff.2 ⟨h2, h1, passL_len h, fun i hi => ?_⟩
    rw [e i hi, sub_zero]
    have := fn_lt w i
    omega
  refine ⟨hb, fn_ext (by rw [passL_len hb, h3]) fun k hk => ?_⟩
  rw [h3] at hk
  rw [passL_fn hb hk]
  unfold passF
  rw [e k hk, sub_zero]
  omega
/-- WeightSteps. -/
theorem law_steps (h : passOk l w p (List.replicate l.length 0) = true) : passOk l (passL l w p (List.replicate l.length 0)) (List.replicate l.length 0) m = passOk l w p m ∧ (passOk l w p m = true → passL l (passL l w p (List.replicate l.length 0)) (List.replicate l.length 0) m = passL l w p m) := by
  obtain ⟨h1, h2, h3, h4⟩ := passOk_iff.1 h
  have e : ∀ i, i < l.length → fn (passL l w p (List.replicate l.length 0)) i = fn w i + subT l (fn p) i := fun i hi => by
    rw [passL_fn h hi]; unfold passF; rw [sub_zero]; omega
  have hb : passOk l (passL l w p (List.replicate l.length 0)) (List.replicate l.length 0) m = passOk l w p m := by
    rw [Bool.eq_iff_iff, passOk_iff, passOk_iff]
    constructor
    · rintro ⟨_, k2, _, k4⟩
      refine ⟨h1, k2, h3, fun i hi => ?_⟩
      have := k4 i hi
      rw [e i hi, sub_zero] at this
      omega
    · rintro ⟨_, k2, _, k4⟩
      refine ⟨h2, k2, passL_len h, fun i hi => ?_⟩
      have := k4 i hi
      rw [e i hi, sub_zero]
      omega
  refine ⟨hb, fun hc => ?_⟩
  have hb' := hb.trans hc
  refine fn_ext (by rw [passL_len hb', passL_len hc]) fun k hk => ?_
  rw [passL_len hc] at hk
  rw [passL_fn hb' hk, passL_fn hc hk]
  unfold passF
  rw [e k hk, sub_zero]
  rfl
end
end Go.Proofs.Ytccihllcohnnnaa
