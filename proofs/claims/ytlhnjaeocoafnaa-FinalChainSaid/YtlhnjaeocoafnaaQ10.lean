/-
  Sums, plainly; no word of the program.
  Balances, plainly: what some have together, by bits; two thirds, one third; what the laws of layer 11 want of them.
  Lists of numbers of 64 bits, plainly; no word of the program.
  Balances, as lists of numbers: what the document's functions of layer 11 answer; no word of the program.
-/
import Derived.Below
import Derived.Test.YtlhnjaeocoafnaaQ08
namespace Go.Proofs.Ytlhnjaeocoafnaa
set_option maxRecDepth 100000

/-- The sum of the first n. -/
def sumF (f : Nat → Nat) : Nat → Nat
  | 0 => 0
  | n + 1 => sumF f n + f n
theorem sumF_add (f g : Nat → Nat) : ∀ n, sumF (fun k => f k + g k) n = sumF f n + sumF g n
  | 0 => rfl
  | n + 1 => by simp only [sumF]; rw [sumF_add f g n]; omega
theorem sumF_congr {f g : Nat → Nat} : ∀ n, (∀ k, k < n → f k = g k) → sumF f n = sumF g n
  | 0, _ => rfl
  | n + 1, h => by simp only [sumF]; rw [sumF_congr n (fun k hk => h k (by omega)), h n (by omega)]
theorem sumF_zero : ∀ n, sumF (fun _ => 0) n = 0
  | 0 => rfl
  | n + 1 => by simp only [sumF]; rw [sumF_zero n]
theorem sumF_swap (f : Nat → Nat → Nat) (m : Nat) : ∀ n, sumF (fun k => sumF (f k) m) n = sumF (fun j => sumF (fun k => f k j) n) m
  | 0 => by simp only [sumF]; rw [sumF_zero]
  | n + 1 => by
    simp only [sumF]
    rw [sumF_swap f m n, ← sumF_add]
theorem sumF_le {f g : Nat → Nat} : ∀ n, (∀ k, k < n → f k ≤ g k) → sumF f n ≤ sumF g n
  | 0, _ => Nat.le_refl _
  | n + 1, h => by simp only [sumF]; have := sumF_le n (fun k hk => h k (by omega)); have := h n (by omega); omega
theorem sumF_part (f : Nat → Nat) {m n : Nat} (h : m ≤ n) : sumF f m ≤ sumF f n := by
  induction n with
  | zero => obtain rfl : m = 0 := by omega
            exact Nat.le_refl _
  | succ n ih =>
    by_cases e : m = n + 1
    · subst e; exact Nat.le_refl _
    · have := ih (by omega); simp only [sumF]; omega
theorem sumF_one (f : Nat → Nat) {n i : Nat} (h : i < n) (hz : ∀ k, k < n → k ≠ i → f k = 0) : sumF f n = f i := by
  induction n with
  | zero => omega
  | succ n ih =>
    simp only [sumF]
    by_cases e : i = n
    · subst e
      rw [sumF_congr (g := fun _ => 0) i (fun k hk => hz k (by omega) (by omega)), sumF_zero, Nat.zero_add]
    · rw [ih (by omega) (fun k hk hn => hz k (by omega) hn), hz n (by omega) (fun e2 => e e2.symm), Nat.add_zero]

theorem sum_filter (p : Nat → Bool) (g : Nat → Nat) : ∀ n, (((List.range n).filter p).map g).sum = sumF (fun c => if p c = true then g c else 0) n
  | 0 => rfl
  | n + 1 => by
    rw [List.range_succ, List.filter_append, List.map_append, List.sum_append, sum_filter p g n]
    simp only [sumF]
    congr 1
    by_cases h : p n = true <;> simp [h]
end Go.Proofs.Ytlhnjaeocoafnaa
namespace Go.Proofs.Ytlhnjaeocoafnaa
set_option maxRecDepth 100000

def hasB (mask : UInt64) (v : Nat) : Bool := mask.toNat.testBit v
/-- What the first n that have a bit have together. -/
def ofN (f : Nat → Nat) (n : Nat) (mask : UInt64) : Nat := sumF (fun v => if hasB mask v = true then f v else 0) n
def allM : UInt64 := 18446744073709551615
theorem has_all {v : Nat} (h : v < 64) : hasB allM v = true := by
  unfold hasB allM
  rw [show (18446744073709551615 : UInt64).toNat = 2 ^ 64 - 1 from rfl, Nat.testBit_two_pow_sub_one]
  exact decide_eq_true h
theorem has_rest (a : UInt64) {v : Nat} (h : v < 64) : hasB (allM - a) v = !hasB a v := by
  unfold hasB
  have ha : a.toNat < 2 ^ 64 := a.toNat_lt
  have e : (allM - a).toNat = 2 ^ 64 - (a.toNat + 1) := by
    have h1 : a ≤ allM := by
      rw [UInt64.le_iff_toNat_le]
      show a.toNat ≤ 18446744073709551615
      omega
    rw [UInt64.toNat_sub_of_le _ _ h1]
    show 18446744073709551615 - a.toNat = _
    omega
  rw [e, Nat.testBit_two_pow_sub_succ ha, decide_eq_true h, Bool.true_and]
theorem has_div (mask : UInt64) (v : Nat) : hasB mask v = decide (mask.toNat / 2 ^ v % 2 = 1) := Nat.testBit_eq_decide_div_mod_eq
section
variable (f : Nat → Nat) {n : Nat}
theorem of_congr {a b : UInt64} (h : ∀ v, v < n → hasB a v = hasB b v) : ofN f n a = ofN f n b := sumF_congr _ fun v hv => by rw [h v hv]
theorem of_parts (hn : n ≤ 64) (a : UInt64) : ofN f n a + ofN f n (allM - a) = ofN f n allM := by
  unfold ofN
  rw [← sumF_add]
  refine sumF_congr _ fun v hv => ?_
  rw [has_rest a (by omega), has_all (by omega)]
  cases hasB a v <;> simp
theorem of_both (a b : UInt64) : ofN f n (a &&& b) + ofN f n (a ||| b) = ofN f n a + ofN f n b := by
  unfold ofN
  rw [← sumF_add, ← sumF_add]
  refine sumF_congr _ fun v _ => ?_
  have h1 : hasB (a &&& b) v = (hasB a v && hasB b v) := bit_and a b v
  have h2 : hasB (a ||| b) v = (hasB a v || hasB b v) := bit_or a b v
  rw [h1, h2]
  cases hasB a v <;> cases hasB b v <;> simp
theorem of_mono {a b : UInt64} (h : subM a b) : ofN f n a ≤ ofN f n b := sumF_le _ fun v _ => by
  by_cases e : hasB a v = true
  · have hb : hasB b v = true := subM_iff.1 h v e
    rw [if_pos e, if_pos hb]; exact Nat.le_refl _
  · rw [if_neg e]; exact Nat.zero_le _
theorem of_le_all (hn : n ≤ 64) (a : UInt64) : ofN f n a ≤ ofN f n allM := by have := of_parts f hn a; omega
theorem of_zero : ofN f n 0 = 0 := by
  unfold ofN
  rw [sumF_congr (g := fun _ => 0) _ (fun v _ => by rw [if_neg]; unfold hasB; simp), sumF_zero]
theorem of_bound {B : Nat} (hf : ∀ v, v < n → f v ≤ B) (a : UInt64) : ofN f n a ≤ n * B := by
  unfold ofN
  have : ∀ m, m ≤ n → sumF (fun v => if hasB a v = true then f v else 0) m ≤ m * B := by
    intro m
    induction m with
    | zero => intro _; simp [sumF]
    | succ m ih =>
      intro hm
      simp only [sumF]
      have h1 := ih (by omega)
      have h2 : (if hasB a m = true then f m else 0) ≤ B := by
        split
        · exact hf m (by omega)
        · omega
      rw [Nat.add_mul, Nat.one_mul]
      omega
  exact this n (Nat.le_refl _)
end

/-! ### two thirds, one third -/
def mostN (p w : Nat) : Bool := decide (2 * w ≤ 3 * p)
def someN (p w : Nat) : Bool := decide (w ≤ 3 * p)
theorem most_some {p w : Nat} (h : mostN p w = true) : someN p w = true := by
  unfold mostN someN at *; rw [decide_eq_true_iff] at *; omega
section
variable (f : Nat → Nat) {n : Nat}
def mostM (f : Nat → Nat) (n : Nat) (a : UInt64) : Bool := mostN (ofN f n a) (ofN f n allM)
def someM (f : Nat → Nat) (n : Nat) (a : UInt64) : Bool := someN (ofN f n a) (ofN f n allM)
/-- P11.4. -/
theorem most_common (hn : n ≤ 64) {a b : UInt64} (ha : mostM f n a = true) (hb : mostM f n b = true) : someM f n (a &&& b) = true := by
  unfold mostM someM mostN someN at *
  rw [decide_eq_true_iff] at *
  have h1 := of_both f (n := n) a b
  have h2 := of_le_all f hn (a ||| b)
  omega
theorem some_mono {a b : UInt64} (h : subM a b) (ha : someM f n a = true) : someM f n b = true := by
  unfold someM someN at *
  rw [decide_eq_true_iff] at *
  have := of_mono f (n := n) h
  omega
theorem most_mono {a b : UInt64} (h : subM a b) (ha : mostM f n a = true) : mostM f n b = true := by
  unfold mostM mostN at *
  rw [decide_eq_true_iff] at *
  have := of_mono f (n := n) h
  omega
theorem most_none : mostM f n 0 = decide (ofN f n allM = 0) ∧ someM f n 0 = decide (ofN f n allM = 0) := by
  unfold mostM someM mostN someN
  rw [of_zero]
  constructor <;> (rw [Bool.eq_iff_iff, decide_eq_true_iff, decide_eq_true_iff]; omega)
theorem most_all : mostM f n allM = true := by unfold mostM mostN; rw [decide_eq_true_iff]; omega
theorem some_or_rest (hn : n ≤ 64) (a : UInt64) : someM f n a = true ∨ mostM f n (allM - a) = true := by
  unfold mostM someM mostN someN
  rw [decide_eq_true_iff, decide_eq_true_iff]
  have := of_parts f hn a
  omega
end

/-! ### who has a bit -/
def whoT (mask : UInt64) : List Nat := (List.range 64).filter (hasB mask)
theorem mem_who {mask : UInt64} {v : Nat} : v ∈ whoT mask ↔ v < 64 ∧ hasB mask v = true := by unfold whoT; rw [List.mem_filter, List.mem_range]
theorem bits_sum (x : Nat) : ∀ n, sumF (fun v => if x.testBit v = true then 2 ^ v else 0) n = x % 2 ^ n
  | 0 => by simp [sumF, Nat.mod_one]
  | n + 1 => by
    simp only [sumF]
    rw [bits_sum x n, Nat.mod_pow_succ, Nat.testBit_eq_decide_div_mod_eq]
    rcases Nat.mod_two_eq_zero_or_one (x / 2 ^ n) with e | e
    · rw [e]; simp
    · rw [e]; simp
theorem who_sum (mask : UInt64) : ((whoT mask).map fun v => 2 ^ v).sum = mask.toNat := by
  unfold whoT
  rw [sum_filter]
  have := bits_sum mask.toNat 64
  rw [Nat.mod_eq_of_lt mask.toNat_lt] at this
  exact this
theorem who_of (f : Nat → Nat) (mask : UInt64) {n : Nat} (hn : n ≤ 64) : (((whoT mask).filter fun v => decide (v < n)).map f).sum = ofN f n mask := by
  unfold whoT
  rw [List.filter_filter, sum_filter]
  unfold ofN
  have h : ∀ m, m ≤ n → sumF (fun v => if (decide (v < n) && hasB mask v) = true then f v else 0) m = sumF (fun v => if hasB mask v = true then f v else 0) m := fun m hm => sumF_congr _ fun v hv => by
    rw [decide_eq_true (show v < n by omega), Bool.true_and]
  have tail : ∀ d, n + d ≤ 64 → sumF (fun v => if (decide (v < n) && hasB mask v) = true then f v else 0) (n + d) = sumF (fun v => if (decide (v < n) && hasB mask v) = true then f v else 0) n := by
    intro d
    induction d with
    | zero => intro _; rfl
    | succ d ih =>
      intro hd
      rw [show n + (d + 1) = (n + d) + 1 by omega]
      simp only [sumF]
      rw [ih (by omega), decide_eq_false (show ¬ n + d < n by omega)]
      simp
  have := tail (64 - n) (by omega)
  rw [show n + (64 - n) = 64 by omega] at this
  rw [this, h n (Nat.le_refl _)]
end Go.Proofs.Ytlhnjaeocoafnaa
namespace Go.Proofs.Ytlhnjaeocoafnaa
set_option maxRecDepth 100000

/-- Number k of a list; 0 behind its end. -/
def fn (a : List UInt64) (k : Nat) : Nat := (a.getD k 0).toNat
theorem fn_lt (a : List UInt64) (k : Nat) : fn a k < 18446744073709551616 := (a.getD k 0).toNat_lt
theorem fn_at {a : List UInt64} {k : Nat} (h : k < a.length) : fn a k = a[k].toNat := by unfold fn; simp [h]
theorem fn_ext {a b : List UInt64} (hl : a.length = b.length) (h : ∀ k, k < b.length → fn a k = fn b k) : a = b := by
  refine List.ext_getElem hl fun k h1 h2 => UInt64.toNat_inj.1 ?_
  have := h k h2
  rwa [fn_at h1, fn_at h2] at this
/-- A list of so many numbers. -/
def numsT (f : Nat → Nat) (n : Nat) : List UInt64 := (List.range n).map fun i => UInt64.ofNat (f i)
theorem nums_len (f : Nat → Nat) (n : Nat) : (numsT f n).length = n := by simp [numsT]
theorem nums_succ (f : Nat → Nat) (n : Nat) : numsT f (n + 1) = numsT f n ++ [UInt64.ofNat (f n)] := by simp [numsT, List.range_succ]
theorem fn_nums {f : Nat → Nat} {n k : Nat} (hk : k < n) (hf : f k < 18446744073709551616) : fn (numsT f n) k = f k := by
  unfold fn numsT
  rw [List.getD_eq_getElem?_getD, List.getElem?_map, List.getElem?_range hk]
  simp only [Option.map_some, Option.getD_some, UInt64.toNat_ofNat']
  omega
theorem fn_zeros (n k : Nat) : fn (List.replicate n 0) k = 0 := by
  unfold fn
  rw [List.getD_eq_getElem?_getD, List.getElem?_replicate]
  split <;> rfl
end Go.Proofs.Ytlhnjaeocoafnaa
namespace Go.Proofs.Ytlhnjaeocoafnaa
set_option maxRecDepth 100000

def MayS (bal : List UInt64) : Prop := 1 ≤ bal.length ∧ bal.length ≤ 8 ∧ ∀ i, i < bal.length → fn bal i ≤ 1099511627776
instance (bal : List UInt64) : Decidable (MayS bal) := by unfold MayS; exact inferInstance
def mayB (bal : List UInt64) : Bool := decide (MayS bal)
def bitN (v : Int) : Nat := if 0 ≤ v ∧ v ≤ 63 then 2 ^ v.toNat else 0
def hasZ (mask : UInt64) (v : Int) : Bool := decide (0 ≤ v ∧ v ≤ 63) && hasB mask v.toNat
def ofS (bal : List UInt64) (mask : UInt64) : Nat := if mayB bal = true then ofN (fn bal) bal.length mask else 0
def totS (bal : List UInt64) : Nat := ofS bal allM
def mostS (bal : List UInt64) (mask : UInt64) : Bool := mayB bal && mostN (ofS bal mask) (totS bal)
def someS (bal : List UInt64) (mask : UInt64) : Bool := mayB bal && someN (ofS bal mask) (totS bal)
def whoUp (mask : UInt64) (n : Nat) : List Int := ((List.range n).filter (hasB mask)).map fun v : Nat => (v : Int)
def whoI (mask : UInt64) : List Int := (whoT mask).map fun v : Nat => (v : Int)
theorem whoUp_zero (mask : UInt64) : whoUp mask 0 = [] := rfl
theorem whoUp_yes {mask : UInt64} {n : Nat} (h : hasB mask n = true) : whoUp mask (n + 1) = whoUp mask n ++ [(n : Int)] := by unfold whoUp; rw [List.range_succ, List.filter_append, List.map_append]; simp [h]
theorem whoUp_no {mask : UInt64} {n : Nat} (h : hasB mask n = false) : whoUp mask (n + 1) = whoUp mask n := by unfold whoUp; rw [List.range_succ, List.filter_append, List.map_append]; simp [h]
theorem whoUp_all (mask : UInt64) : whoUp mask 64 = whoI mask := rfl
theorem whoUp_len (mask : UInt64) (n : Nat) : (whoUp mask n).length ≤ n := by
  unfold whoUp
  rw [List.length_map]
  have := List.length_filter_le (hasB mask) (List.range n)
  rwa [List.length_range] at this
theorem who_len (mask : UInt64) : (whoI mask).length ≤ 64 := whoUp_len mask 64
section
variable {bal : List UInt64} {mask : UInt64}
theorem mayB_iff : mayB bal = true ↔ 1 ≤ bal.length ∧ bal.length ≤ 8 ∧ ∀ i, i < bal.length → fn bal i ≤ 1099511627776 := by unfold mayB; rw [decide_eq_true_iff]; rfl
theorem ofS_no (h : mayB bal = false) : ofS bal mask = 0 := by unfold ofS; rw [if_neg (by rw [h]; exact Bool.false_ne_true)]
theorem ofS_yes (h : mayB bal = true) : ofS bal mask = ofN (fn bal) bal.length mask := by unfold ofS; rw [if_pos h]
theorem of_part (h : mayB bal = true) {k : Nat} (hk : k ≤ bal.length) : ofN (fn bal) k mask ≤ 8796093022208 := by
  obtain ⟨_, h2, h3⟩ := mayB_iff.1 h
  have := of_bound (fn bal) (n := k) (B := 1099511627776) (fun v hv => h3 v (by omega)) mask
  omega
theorem ofS_lt : ofS bal mask ≤ 8796093022208 := by
  cases h : mayB bal
  · rw [ofS_no h]; omega
  · rw [ofS_yes h]; exact of_part h (Nat.le_refl _)
theorem of_succ_yes (f : Nat → Nat) {k : Nat} (h : hasB mask k = true) : ofN f (k + 1) mask = ofN f k mask + f k := by
  show ofN f k mask + (if hasB mask k = true then f k else 0) = _
  rw [if_pos h]
theorem of_succ_no (f : Nat → Nat) {k : Nat} (h : hasB mask k = false) : ofN f (k + 1) mask = ofN f k mask := by
  show ofN f k mask + (if hasB mask k = true then f k else 0) = _
  rw [if_neg (by rw [h]; exact Bool.false_ne_true), Nat.add_zero]
theorem bitN_nat {v : Nat} (h : v < 64) : bitN (v : Int) = 2 ^ v := by unfold bitN; rw [if_pos (by omega)]; rfl
theorem bitN_lt (v : Int) : bitN v < 18446744073709551616 := by
  unfold bitN
  split
  · rename_i h
    have : 2 ^ v.toNat ≤ 2 ^ 63 := Nat.pow_le_pow_right (by omega) (by omega)
    omega
  · omega
theorem hasZ_nat {v : Nat} (h : v < 64) : hasZ mask (v : Int) = hasB mask v := by unfold hasZ; rw [decide_eq_true (by omega)]; rfl
/-- Most and Some, in one number of 64 bits. -/
theorem most_need (p w : Nat) : decide (2 * (w / 3) + w % 3 ≤ p) = mostN p w := by
  unfold mostN
  rw [Bool.eq_iff_iff, decide_eq_true_iff, decide_eq_true_iff]
  omega
end
end Go.Proofs.Ytlhnjaeocoafnaa
