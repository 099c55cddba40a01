/-
  Balances, as lists of numbers: what the document's functions of layer 11 answer; no word of the program.
-/
import Derived.Test.YtjjncaojicjfjaaStakeP
import Derived.Test.YtjjncaojicjfjaaFnP
namespace Go.Proofs.Ytjjncaojicjfjaa

def MayS (bal : List UInt64) : Prop := 1 ≤ bal.length ∧ bal.length ≤ 8 ∧ ∀ i, i < bal.length → fn bal i ≤ 1099511627776
instance (bal : List UInt64) : Decidable (MayS bal) := by unfold MayS; exact inferInstance
def mayB (bal : List UInt64) : Bool := decide (MayS bal)
def bitN (v : Int) : Nat := if 0 ≤ v ∧ v ≤ 63 then 2 ^ v.toNat else 0
def hasZ (mask : UInt64) (v : Int) : Bool := decide (0 ≤ v ∧ v ≤ 63) && hasB mask v.toNat
def ofS (bal : List UInt64) (mask : UInt64) : Nat := if mayB bal = true then ofN (fn bal) bal.length mask else 0
def totS (bal : List UInt64) : Nat := ofS bal allM
def mostS (bal : List UInt64) (mask : UInt64) : Bool := mayB bal && mostN (ofS bal mask) (totS bal)
def someS (bal : List UInt64) (mask : UInt64) : Bool := mayB bal && someN (ofS bal mask) (totS bal)
def whoUp (mask : UInt64) (n : Nat) : List Int := ((List.range n).filter (hasB mask)).map fun v : Nat => (v : Int)
def whoI (mask : UInt64) : List Int := (whoT mask).map fun v : Nat => (v : Int)
theorem whoUp_zero (mask : UInt64) : whoUp mask 0 = [] := rfl
theorem whoUp_yes {mask : UInt64} {n : Nat} (h : hasB mask n = true) : whoUp mask (n + 1) = whoUp mask n ++ [(n : Int)] := by unfold whoUp; rw [List.range_succ, List.filter_append, List.map_append]; simp [h]
theorem whoUp_no {mask : UInt64} {n : Nat} (h : hasB mask n = false) : whoUp mask (n + 1) = whoUp mask n := by unfold whoUp; rw [List.range_succ, List.filter_append, List.map_append]; simp [h]
theorem whoUp_all (mask : UInt64) : whoUp mask 64 = whoI mask := rfl
theorem whoUp_len (mask : UInt64) (n : Nat) : (whoUp mask n).length ≤ n := by
  unfold whoUp
  rw [List.length_map]
  have := List.length_filter_le (hasB mask) (List.range n)
  rwa [List.length_range] at this
theorem who_len (mask : UInt64) : (whoI mask).length ≤ 64 := whoUp_len mask 64
section
variable {bal : List UInt64} {mask : UInt64}
theorem mayB_iff : mayB bal = true ↔ 1 ≤ bal.length ∧ bal.length ≤ 8 ∧ ∀ i, i < bal.length → fn bal i ≤ 1099511627776 := by unfold mayB; rw [decide_eq_true_iff]; rfl
theorem ofS_no (h : mayB bal = false) : ofS bal mask = 0 := by unfold ofS; rw [if_neg (by rw [h]; exact Bool.false_ne_true)]
theorem ofS_yes (h : mayB bal = true) : ofS bal mask = ofN (fn bal) bal.length mask := by unfold ofS; rw [if_pos h]
theorem of_part (h : mayB bal = true) {k : Nat} (hk : k ≤ bal.length) : ofN (fn bal) k mask ≤ 8796093022208 := by
  obtain ⟨_, h2, h3⟩ := mayB_iff.1 h
  have := of_bound (fn bal) (n := k) (B := 1099511627776) (fun v hv => h3 v (by omega)) mask
  omega
theorem ofS_lt : ofS bal mask ≤ 8796093022208 := by
  cases h : mayB bal
  · rw [ofS_no h]; omega
  · rw [ofS_yes h]; exact of_part h (Nat.le_refl _)
theorem of_succ_yes (f : Nat → Nat) {k : Nat} (h : hasB mask k = true) : ofN f (k + 1) mask = ofN f k mask + f k := by
  show ofN f k mask + (if hasB mask k = true then f k else 0) = _
  rw [if_pos h]
theorem of_succ_no (f : Nat → Nat) {k : Nat} (h : hasB mask k = false) : ofN f (k + 1) mask = ofN f k mask := by
  show ofN f k mask + (if hasB mask k = true then f k else 0) = _
  rw [if_neg (by rw [h]; exact Bool.false_ne_true), Nat.add_zero]
theorem bitN_nat {v : Nat} (h : v < 64) : bitN (v : Int) = 2 ^ v := by unfold bitN; rw [if_pos (by omega)]; rfl
theorem bitN_lt (v : Int) : bitN v < 18446744073709551616 := by
  unfold bitN
  split
  · rename_i h
    have : 2 ^ v.toNat ≤ 2 ^ 63 := Nat.pow_le_pow_right (by omega) (by omega)
    omega
  · omega
theorem hasZ_nat {v : Nat} (h : v < 64) : hasZ mask (v : Int) = hasB mask v := by unfold hasZ; rw [decide_eq_true (by omega)]; rfl
/-- Most and Some, in one number of 64 bits. -/
theorem most_need (p w : Nat) : decide (2 * (w / 3) + w % 3 ≤ p) = mostN p w := by
  unfold mostN
  rw [Bool.eq_iff_iff, decide_eq_true_iff, decide_eq_true_iff]
  omega
end
end Go.Proofs.Ytjjncaojicjfjaa
