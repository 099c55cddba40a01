/-
  What is asked of stake.Bit.
  Package stake: Bit, walked.
  Bits of numbers of 64 bits, one at a time, plainly: what &, &^ and | of one bit come to.
-/
import Derived.Test.YtfmbgpjpkahmnaaGM
import Derived.Test.YtfmbgpjpkahmnaaNumU
import Derived.Laws.ShiftsVarLaws
import Derived.Laws.Bits64b
import Derived.Laws.BitsAllLaws
namespace Go.Proofs.Ytfmbgpjpkahmnaa
open Go.RowKit

def StBitC : Prop := ∀ (v : Int) (w : World), Calls Try.prog 23 #[.int .i64 v] w fun e w' => e = .returned (.int .u64 (bitN v : Int)) ∧ Below w.heap.size w w'
end Go.Proofs.Ytfmbgpjpkahmnaa
namespace Go.Proofs.Ytfmbgpjpkahmnaa
open Go.RowKit

set_option maxRecDepth 100000 in
set_option maxHeartbeats 1000000 in
theorem stakeBit : StBitC := fun v w => by
  by_cases h0 : v < 0
  · have t0 : decide (v < 0) = true := decide_eq_true h0
    rw [show bitN v = 0 from if_neg (by omega)]
    clear h0
    go_enter Try.func23, Try.ntmps23
    go_wp2_with fail
    go_ret
    exact ⟨rfl, Below.refl _ _⟩
  · have t0 : decide (v < 0) = false := decide_eq_false h0
    by_cases h1 : 64 ≤ v
    · have t1 : decide (64 ≤ v) = true := decide_eq_true h1
      rw [show bitN v = 0 from if_neg (by omega)]
      clear h0 h1
      go_enter Try.func23, Try.ntmps23
      go_wp2_with fail
      go_ret
      exact ⟨rfl, Below.refl _ _⟩
    · have t1 : decide (64 ≤ v) = false := decide_eq_false h1
      obtain ⟨n, rfl⟩ : ∃ n : Nat, v = n := ⟨v.toNat, by omega⟩
      have hn : n < 64 := by omega
      rw [bitN_nat hn]
      have HX : Hid (IntKind.u64.wrap (1 * 2 ^ min ((n : Int)).toNat 64) = ((2 ^ n : Nat) : Int)) := by
        show _ = _
        have e : min ((n : Int)).toNat 64 = n := by omega
        have : 2 ^ n ≤ 2 ^ 63 := Nat.pow_le_pow_right (by omega) (by omega)
        rw [e, Int.one_mul, show ((2 : Int) ^ n) = ((2 ^ n : Nat) : Int) by simp, IntKind.wrap_u64]
        generalize 2 ^ n = x at *
        omega
      have h2 : (0 : Int) ≤ (n : Int) := by omega
      clear h0 h1 hn
      go_enter Try.func23, Try.ntmps23
      go_wp2_with fail
      go_ret
      exact ⟨by have := HX.out; simpa using this, Below.refl _ _⟩
theorem enters_stakeBit : ∀ args w, (callFunc 23 args).run Try.prog w = .ok (.enter 23 args) w := entersE Try.func23 (by kernel_rfl) (by kernel_rfl)
end Go.Proofs.Ytfmbgpjpkahmnaa
namespace Go.Proofs.Ytfmbgpjpkahmnaa
open Go.RowKit

theorem and_bit (mask : UInt64) {j : Nat} (h : j < 64) : bits .and .u64 (mask.toNat : Int) (bitN (j : Int) : Int) = ((mask.toNat &&& 2 ^ j : Nat) : Int) := by
  have : 2 ^ j ≤ 2 ^ 63 := Nat.pow_le_pow_right (by omega) (by omega)
  rw [bitN_nat h, bits_and_u64_nat _ _ mask.toNat_lt (by omega)]
theorem and_pow (x j : Nat) : x &&& 2 ^ j = if x.testBit j = true then 2 ^ j else 0 := by
  refine Nat.eq_of_testBit_eq fun i => ?_
  rw [Nat.testBit_and, Nat.testBit_two_pow]
  by_cases e : j = i
  · subst e
    cases h : x.testBit j <;> simp
  · rw [decide_eq_false e, Bool.and_false]
    split
    · rw [Nat.testBit_two_pow, decide_eq_false e]
    · simp
theorem and_has (mask : UInt64) (j : Nat) : (((mask.toNat &&& 2 ^ j : Nat) : Int) != 0) = hasB mask j := by
  unfold hasB
  rw [and_pow]
  have hp := Nat.two_pow_pos j
  by_cases h : mask.toNat.testBit j = true
  · rw [if_pos h, h, bne_iff_ne]
    generalize 2 ^ j = x at *
    omega
  · rw [if_neg h, eq_false_of_ne_true h]
    rfl
/-- The number without its j lowest bits. -/
def clrU (x j : Nat) : Nat := x >>> j <<< j
theorem clr_bit (x j i : Nat) : (clrU x j).testBit i = (decide (j ≤ i) && x.testBit i) := by
  unfold clrU
  rw [Nat.testBit_shiftLeft, Nat.testBit_shiftRight]
  by_cases h : j ≤ i
  · simp only [ge_iff_le, decide_eq_true h]; rw [show j + (i - j) = i by omega]
  · simp only [ge_iff_le, decide_eq_false h, Bool.false_and]
theorem clr_zero (x : Nat) : clrU x 0 = x := Nat.eq_of_testBit_eq fun i => by rw [clr_bit, decide_eq_true (Nat.zero_le _), Bool.true_and]
theorem clr_le (x j : Nat) : clrU x j ≤ x := by
  unfold clrU
  rw [Nat.shiftRight_eq_div_pow, Nat.shiftLeft_eq]
  exact Nat.div_mul_le_self _ _
theorem clr_next {x j : Nat} (hx : x < 18446744073709551616) (h : j < 64) : bits .andNot .u64 (clrU x j : Int) (bitN (j : Int) : Int) = (clrU x (j + 1) : Int) := by
  have h2 : 2 ^ j ≤ 2 ^ 63 := Nat.pow_le_pow_right (by omega) (by omega)
  have h3 := clr_le x j
  rw [bitN_nat h, u64_andNot_nat _ _ (by omega) (by omega)]
  congr 1
  refine Nat.eq_of_testBit_eq fun i => ?_
  rw [Nat.testBit_and, clr_bit, clr_bit, show 18446744073709551615 - 2 ^ j = 2 ^ 64 - (2 ^ j + 1) by omega, Nat.testBit_two_pow_sub_succ (by omega), Nat.testBit_two_pow]
  by_cases h4 : i < 64
  · rw [decide_eq_true h4, Bool.true_and]
    by_cases e : j = i
    · subst e; rw [decide_eq_false (show ¬ j + 1 ≤ j by omega)]; simp
    · rw [decide_eq_false e]
      by_cases e2 : j ≤ i
      · rw [decide_eq_true e2, decide_eq_true (show j + 1 ≤ i by omega)]; simp
      · rw [decide_eq_false e2, decide_eq_false (show ¬ j + 1 ≤ i by omega)]; simp
  · have : x.testBit i = false := Nat.testBit_lt_two_pow (Nat.lt_of_lt_of_le hx (show 18446744073709551616 ≤ 2 ^ i by rw [show 18446744073709551616 = 2 ^ 64 from rfl]; exact Nat.pow_le_pow_right (by omega) (by omega)))
    rw [this]; simp
theorem clr_none {x n : Nat} : clrU x n = 0 ↔ ∀ i, n ≤ i → x.testBit i = false := by
  constructor
  · intro e i hi
    have := clr_bit x n i
    rw [e, Nat.zero_testBit, decide_eq_true hi, Bool.true_and] at this
    exact this.symm
  · intro h
    refine Nat.eq_of_testBit_eq fun i => ?_
    rw [clr_bit, Nat.zero_testBit]
    by_cases hi : n ≤ i
    · rw [h i hi, Bool.and_false]
    · rw [decide_eq_false hi, Bool.false_and]
end Go.Proofs.Ytfmbgpjpkahmnaa
