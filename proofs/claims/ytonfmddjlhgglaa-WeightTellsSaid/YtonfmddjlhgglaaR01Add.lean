/-
  The document's own sums and differences of two numbers.
-/
import Derived.Test.YtonfmddjlhgglaaNumT
namespace Go.Proofs.Ytonfmddjlhgglaa
open Go.RowKit

def addOk (a b : Nat) : Bool := decide (a + b < 18446744073709551616)
def addV (a b : Nat) : Nat := if a + b < 18446744073709551616 then a + b else 0
def lessOk (a b : Nat) : Bool := decide (b ≤ a)
def lessV (a b : Nat) : Nat := if b ≤ a then a - b else 0

set_option maxHeartbeats 1000000 in
theorem ref01Add (a b : Nat) (ha : a < 18446744073709551616) (hb : b < 18446744073709551616) (w : World) :
    Calls Try.prog 24 #[.int .u64 (a : Int), .int .u64 (b : Int)] w fun e w' => e = .returned (.tuple #[.int .u64 (addV a b : Int), .bool (addOk a b)]) ∧ Below w.heap.size w w' := by
  have hb1 : (0 : Int) ≤ 18446744073709551615 - (b : Int) := by omega
  have ua : (a : Int) < 18446744073709551616 := by omega
  have ub : (b : Int) < 18446744073709551616 := by omega
  by_cases h : a + b < 18446744073709551616
  · rw [show addV a b = a + b from if_pos h, show addOk a b = true from decide_eq_true h]
    have t1 : decide (18446744073709551615 - (b : Int) < (a : Int)) = false := decide_eq_false (by omega)
    have u1 : (a : Int) + (b : Int) < 18446744073709551616 := by omega
    clear h ha hb
    go_enter Try.func24, Try.ntmps24
    go_wp2_with fail
    go_ret2
    exact ⟨by first | done | rfl, Below.refl _ _⟩
  · rw [show addV a b = 0 from if_neg h, show addOk a b = false from decide_eq_false h]
    have t1 : decide (18446744073709551615 - (b : Int) < (a : Int)) = true := decide_eq_true (by omega)
    clear h ha hb
    go_enter Try.func24, Try.ntmps24
    go_wp2_with fail
    go_ret2
    exact ⟨by first | done | rfl, Below.refl _ _⟩

set_option maxHeartbeats 1000000 in
theorem ref01Sub (a b : Nat) (ha : a < 18446744073709551616) (w : World) :
    Calls Try.prog 35 #[.int .u64 (a : Int), .int .u64 (b : Int)] w fun e w' => e = .returned (.tuple #[.int .u64 (lessV a b : Int), .bool (lessOk a b)]) ∧ Below w.heap.size w w' := by
  have ua : (a : Int) < 18446744073709551616 := by omega
  by_cases h : b ≤ a
  · rw [show lessV a b = a - b from if_pos h, show lessOk a b = true from decide_eq_true h]
    have t1 : decide ((a : Int) < (b : Int)) = false := decide_eq_false (by omega)
    have t1' : decide (a < b) = false := decide_eq_false (by omega)
    have u1 : (0 : Int) ≤ (a : Int) - (b : Int) := by omega
    have e1 : ((a - b : Nat) : Int) = (a : Int) - (b : Int) := by omega
    rw [e1]
    clear h ha e1
    go_enter Try.func35, Try.ntmps35
    go_wp2_with fail
    go_ret2
    exact ⟨by first | done | rfl, Below.refl _ _⟩
  · rw [show lessV a b = 0 from if_neg h, show lessOk a b = false from decide_eq_false h]
    have t1 : decide ((a : Int) < (b : Int)) = true := decide_eq_true (by omega)
    have t1' : decide (a < b) = true := decide_eq_true (by omega)
    clear h ha
    go_enter Try.func35, Try.ntmps35
    go_wp2_with fail
    go_ret2
    exact ⟨by first | done | rfl, Below.refl _ _⟩
end Go.Proofs.Ytonfmddjlhgglaa
