/-
  Balances, plainly: what some have together, by bits; two thirds, one third; what the laws of layer 11 want of them.
  Lists of numbers of 64 bits, plainly; no word of the program.
-/
import Derived.Test.YtkbifcfgcokmlaaQ08
import Derived.Test.YtkbifcfgcokmlaaQ07
import Derived.Below
namespace Go.Proofs.Ytkbifcfgcokmlaa
set_option maxRecDepth 100000

def hasB (mask : UInt64) (v : Nat) : Bool := mask.toNat.testBit v
/-- What the first n that have a bit have together. -/
def ofN (f : Nat → Nat) (n : Nat) (mask : UInt64) : Nat := sumF (fun v => if hasB mask v = true then f v else 0) n
def allM : UInt64 := 18446744073709551615
theorem has_all {v : Nat} (h : v < 64) : hasB allM v = true := by
  unfold hasB allM
  rw [show (18446744073709551615 : UInt64).toNat = 2 ^ 64 - 1 from rfl, Nat.testBit_two_pow_sub_one]
  exact decide_eq_true h
theorem has_rest (a : UInt64) {v : Nat} (h : v < 64) : hasB (allM - a) v = !hasB a v := by
  unfold hasB
  have ha : a.toNat < 2 ^ 64 := a.toNat_lt
  have e : (allM - a).toNat = 2 ^ 64 - (a.toNat + 1) := by
    have h1 : a ≤ allM := by
      rw [UInt64.le_iff_toNat_le]
      show a.toNat ≤ 18446744073709551615
      omega
    rw [UInt64.toNat_sub_of_le _ _ h1]
    show 18446744073709551615 - a.toNat = _
    omega
  rw [e, Nat.testBit_two_pow_sub_succ ha, decide_eq_true h, Bool.true_and]
theorem has_div (mask : UInt64) (v : Nat) : hasB mask v = decide (mask.toNat / 2 ^ v % 2 = 1) := Nat.testBit_eq_decide_div_mod_eq
section
variable (f : Nat → Nat) {n : Nat}
theorem of_congr {a b : UInt64} (h : ∀ v, v < n → hasB a v = hasB b v) : ofN f n a = ofN f n b := sumF_congr _ fun v hv => by rw [h v hv]
theorem of_parts (hn : n ≤ 64) (a : UInt64) : ofN f n a + ofN f n (allM - a) = ofN f n allM := by
  unfold ofN
  rw [← sumF_add]
  refine sumF_congr _ fun v hv => ?_
  rw [has_rest a (by omega), has_all (by omega)]
  cases hasB a v <;> simp
theorem of_both (a b : UInt64) : ofN f n (a &&& b) + ofN f n (a ||| b) = ofN f n a + ofN f n b := by
  unfold ofN
  rw [← sumF_add, ← sumF_add]
  refine sumF_congr _ fun v _ => ?_
  have h1 : hasB (a &&& b) v = (hasB a v && hasB b v) := bit_and a b v
  have h2 : hasB (a ||| b) v = (hasB a v || hasB b v) := bit_or a b v
  rw [h1, h2]
  cases hasB a v <;> cases hasB b v <;> simp
theorem of_mono {a b : UInt64} (h : subM a b) : ofN f n a ≤ ofN f n b := sumF_le _ fun v _ => by
  by_cases e : hasB a v = true
  · have hb : hasB b v = true := subM_iff.1 h v e
    rw [if_pos e, if_pos hb]; exact Nat.le_refl _
  · rw [if_neg e]; exact Nat.zero_le _
theorem of_le_all (hn : n ≤ 64) (a : UInt64) : ofN f n a ≤ ofN f n allM := by have := of_parts f hn a; omega
theorem of_zero : ofN f n 0 = 0 := by
  unfold ofN
  rw [sumF_congr (g := fun _ => 0) _ (fun v _ => by rw [if_neg]; unfold hasB; simp), sumF_zero]
theorem of_bound {B : Nat} (hf : ∀ v, v < n → f v ≤ B) (a : UInt64) : ofN f n a ≤ n * B := by
  unfold ofN
  have : ∀ m, m ≤ n → sumF (fun v => if hasB a v = true then f v else 0) m ≤ m * B := by
    intro m
    induction m with
    | zero => intro _; simp [sumF]
    | succ m ih =>
      intro hm
      simp only [sumF]
      have h1 := ih (by omega)
      have h2 : (if hasB a m = true then f m else 0) ≤ B := by
        split
        · exact hf m (by omega)
        · omega
      rw [Nat.add_mul, Nat.one_mul]
      omega
  exact this n (Nat.le_refl _)
end

/-! ### two thirds, one third -/
def mostN (p w : Nat) : Bool := decide (2 * w ≤ 3 * p)
def someN (p w : Nat) : Bool := decide (w ≤ 3 * p)
theorem most_some {p w : Nat} (h : mostN p w = true) : someN p w = true := by
  unfold mostN someN at *; rw [decide_eq_true_iff] at *; omega
section
variable (f : Nat → Nat) {n : Nat}
def mostM (f : Nat → Nat) (n : Nat) (a : UInt64) : Bool := mostN (ofN f n a) (ofN f n allM)
def someM (f : Nat → Nat) (n : Nat) (a : UInt64) : Bool := someN (ofN f n a) (ofN f n allM)
/-- P11.4. -/
theorem most_common (hn : n ≤ 64) {a b : UInt64} (ha : mostM f n a = true) (hb : mostM f n b = true) : someM f n (a &&& b) = true := by
  unfold mostM someM mostN someN at *
  rw [decide_eq_true_iff] at *
  have h1 := of_both f (n := n) a b
  have h2 := of_le_all f hn (a ||| b)
  omega
theorem some_mono {a b : UInt64} (h : subM a b) (ha : someM f n a = true) : someM f n b = true := by
  unfold someM someN at *
  rw [decide_eq_true_iff] at *
  have := of_mono f (n := n) h
  omega
theorem most_mono {a b : UInt64} (h : subM a b) (ha : mostM f n a = true) : mostM f n b = true := by
  unfold mostM mostN at *
  rw [decide_eq_true_iff] at *
  have := of_mono f (n := n) h
  omega
theorem most_none : mostM f n 0 = decide (ofN f n allM = 0) ∧ someM f n 0 = decide (ofN f n allM = 0) := by
  unfold mostM someM mostN someN
  rw [of_zero]
  constructor <;> (rw [Bool.eq_iff_iff, decide_eq_true_iff, decide_eq_true_iff]; omega)
theorem most_all : mostM f n allM = true := by unfold mostM mostN; rw [decide_eq_true_iff]; omega
theorem some_or_rest (hn : n ≤ 64) (a : UInt64) : someM f n a = true ∨ mostM f n (allM - a) = true := by
  unfold mostM someM mostN someN
  rw [decide_eq_true_iff, decide_eq_true_iff]
  have := of_parts f hn a
  omega
end

/-! ### who has a bit -/
def whoT (mask : UInt64) : List Nat := (List.range 64).filter (hasB mask)
theorem mem_who {mask : UInt64} {v : Nat} : v ∈ whoT mask ↔ v < 64 ∧ hasB mask v = true := by unfold whoT; rw [List.mem_filter, List.mem_range]
theorem bits_sum (x : Nat) : ∀ n, sumF (fun v => if x.testBit v = true then 2 ^ v else 0) n = x % 2 ^ n
  | 0 => by simp [sumF, Nat.mod_one]
  | n + 1 => by
    simp only [sumF]
    rw [bits_sum x n, Nat.mod_pow_succ, Nat.testBit_eq_decide_div_mod_eq]
    rcases Nat.mod_two_eq_zero_or_one (x / 2 ^ n) with e | e
    · rw [e]; simp
    · rw [e]; simp
theorem who_sum (mask : UInt64) : ((whoT mask).map fun v => 2 ^ v).sum = mask.toNat := by
  unfold whoT
  rw [sum_filter]
  have := bits_sum mask.toNat 64
  rw [Nat.mod_eq_of_lt mask.toNat_lt] at this
  exact this
theorem who_of (f : Nat → Nat) (mask : UInt64) {n : Nat} (hn : n ≤ 64) : (((whoT mask).filter fun v => decide (v < n)).map f).sum = ofN f n mask := by
  unfold whoT
  rw [List.filter_filter, sum_filter]
  unfold ofN
  have h : ∀ m, m ≤ n → sumF (fun v => if (decide (v < n) && hasB mask v) = true then f v else 0) m = sumF (fun v => if hasB mask v = true then f v else 0) m := fun m hm => sumF_congr _ fun v hv => by
    rw [decide_eq_true (show v < n by omega), Bool.true_and]
  have tail : ∀ d, n + d ≤ 64 → sumF (fun v => if (decide (v < n) && hasB mask v) = true then f v else 0) (n + d) = sumF (fun v => if (decide (v < n) && hasB mask v) = true then f v else 0) n := by
    intro d
    induction d with
    | zero => intro _; rfl
    | succ d ih =>
      intro hd
      rw [show n + (d + 1) = (n + d) + 1 by omega]
      simp only [sumF]
      rw [ih (by omega), decide_eq_false (show ¬ n + d < n by omega)]
      simp
  have := tail (64 - n) (by omega)
  rw [show n + (64 - n) = 64 by omega] at this
  rw [this, h n (Nat.le_refl _)]
end Go.Proofs.Ytkbifcfgcokmlaa
namespace Go.Proofs.Ytkbifcfgcokmlaa
set_option maxRecDepth 100000

/-- Number k of a list; 0 behind its end. -/
def fn (a : List UInt64) (k : Nat) : Nat := (a.getD k 0).toNat
theorem fn_lt (a : List UInt64) (k : Nat) : fn a k < 18446744073709551616 := (a.getD k 0).toNat_lt
theorem fn_at {a : List UInt64} {k : Nat} (h : k < a.length) : fn a k = a[k].toNat := by unfold fn; simp [h]
theorem fn_ext {a b : List UInt64} (hl : a.length = b.length) (h : ∀ k, k < b.length → fn a k = fn b k) : a = b := by
  refine List.ext_getElem hl fun k h1 h2 => UInt64.toNat_inj.1 ?_
  have := h k h2
  rwa [fn_at h1, fn_at h2] at this
/-- A list of so many numbers. -/
def numsT (f : Nat → Nat) (n : Nat) : List UInt64 := (List.range n).map fun i => UInt64.ofNat (f i)
theorem nums_len (f : Nat → Nat) (n : Nat) : (numsT f n).length = n := by simp [numsT]
theorem nums_succ (f : Nat → Nat) (n : Nat) : numsT f (n + 1) = numsT f n ++ [UInt64.ofNat (f n)] := by simp [numsT, List.range_succ]
theorem fn_nums {f : Nat → Nat} {n k : Nat} (hk : k < n) (hf : f k < 18446744073709551616) : fn (numsT f n) k = f k := by
  unfold fn numsT
  rw [List.getD_eq_getElem?_getD, List.getElem?_map, List.getElem?_range hk]
  simp only [Option.map_some, Option.getD_some, UInt64.toNat_ofNat']
  omega
theorem fn_zeros (n k : Nat) : fn (List.replicate n 0) k = 0 := by
  unfold fn
  rw [List.getD_eq_getElem?_getD, List.getElem?_replicate]
  split <;> rfl
end Go.Proofs.Ytkbifcfgcokmlaa
