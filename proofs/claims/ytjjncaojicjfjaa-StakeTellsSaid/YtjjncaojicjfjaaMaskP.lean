/-
  Masks of 64 bits, plainly; no word of the program.
-/
import Derived.Below
namespace Go.Proofs.Ytjjncaojicjfjaa

def subM (a b : UInt64) : Prop := a &&& b = a
theorem u64_ext {a b : UInt64} (h : ∀ i, a.toNat.testBit i = b.toNat.testBit i) : a = b := UInt64.toNat_inj.1 (Nat.eq_of_testBit_eq h)
theorem bit_and (a b : UInt64) (i : Nat) : (a &&& b).toNat.testBit i = (a.toNat.testBit i && b.toNat.testBit i) := by rw [UInt64.toNat_and, Nat.testBit_and]
theorem bit_or (a b : UInt64) (i : Nat) : (a ||| b).toNat.testBit i = (a.toNat.testBit i || b.toNat.testBit i) := by rw [UInt64.toNat_or, Nat.testBit_or]
theorem subM_iff {a b : UInt64} : subM a b ↔ ∀ i, a.toNat.testBit i = true → b.toNat.testBit i = true := by
  unfold subM
  constructor
  · intro e i hi
    rw [← e, bit_and, Bool.and_eq_true] at hi
    exact hi.2
  · intro h
    refine u64_ext fun i => ?_
    rw [bit_and]
    cases e : a.toNat.testBit i with
    | false => rfl
    | true => rw [h i e]; rfl
theorem subM_refl (a : UInt64) : subM a a := subM_iff.2 fun _ h => h
theorem subM_trans {a b c : UInt64} (h : subM a b) (k : subM b c) : subM a c := subM_iff.2 fun i hi => subM_iff.1 k i (subM_iff.1 h i hi)
theorem subM_left (a b : UInt64) : subM a (a ||| b) := subM_iff.2 fun i hi => by rw [bit_or, hi]; rfl
theorem subM_right (a b : UInt64) : subM b (a ||| b) := subM_iff.2 fun i hi => by rw [bit_or, hi, Bool.or_true]
end Go.Proofs.Ytjjncaojicjfjaa
