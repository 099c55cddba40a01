/-
  The document's own thirds: need, Most, Some, over natural numbers.
-/
import Derived.Test.YtjjncaojicjfjaaStakeQ
import Derived.Test.YtjjncaojicjfjaaNumU
namespace Go.Proofs.Ytjjncaojicjfjaa
open Go.RowKit

def needN (b : Nat) : Nat := 2 * (b / 3) + b % 3
theorem needN_most (a b : Nat) : decide (needN b ≤ a) = mostN a b := most_need a b
theorem needN_lt {b : Nat} (h : b < 18446744073709551616) : needN b < 18446744073709551616 := by unfold needN; omega

set_option maxHeartbeats 400000 in
theorem ref01Need (b : Nat) (hb1 : b < 18446744073709551616) (w : World) :
    Calls Try.prog 33 #[.int .u64 (b : Int)] w fun e w' => e = .returned (.int .u64 (needN b : Int)) ∧ Below w.heap.size w w' := by
  have hb0 : (0 : Int) ≤ (b : Int) := by omega
  have hb2 : (b : Int) < 18446744073709551616 := by omega
  rcases (by omega : b % 3 = 0 ∨ b % 3 = 1 ∨ b % 3 = 2) with h | h | h
  · rw [show (needN b : Int) = 2 * ((b : Int) / 3) by unfold needN; omega]
    have h1 : ((b : Int) % 3 == 1) = false := beq_eq_false_iff_ne.2 (by omega)
    have h2 : ((b : Int) % 3 == 2) = false := beq_eq_false_iff_ne.2 (by omega)
    clear h hb1
    go_enter Try.func33, Try.ntmps33
    go_wp2
    go_ret
    exact ⟨rfl, Below.refl _ _⟩
  · rw [show (needN b : Int) = 2 * ((b : Int) / 3) + 1 by unfold needN; omega]
    have h1 : ((b : Int) % 3 == 1) = true := beq_iff_eq.2 (by omega)
    clear h hb1
    go_enter Try.func33, Try.ntmps33
    go_wp2
    go_ret
    exact ⟨rfl, Below.refl _ _⟩
  · rw [show (needN b : Int) = 2 * ((b : Int) / 3) + 2 by unfold needN; omega]
    have h1 : ((b : Int) % 3 == 1) = false := beq_eq_false_iff_ne.2 (by omega)
    have h2 : ((b : Int) % 3 == 2) = true := beq_iff_eq.2 (by omega)
    clear h hb1
    go_enter Try.func33, Try.ntmps33
    go_wp2
    go_ret
    exact ⟨rfl, Below.refl _ _⟩

set_option maxHeartbeats 400000 in
theorem ref01Most (a b : Nat) (hb : b < 18446744073709551616) (w : World) :
    Calls Try.prog 27 #[.int .u64 (a : Int), .int .u64 (b : Int)] w fun e w' => e = .returned (.bool (mostN a b)) ∧ Below w.heap.size w w' := by
  rw [← needN_most a b]
  have c := Lib.hid (fun W => ref01Need b hb W)
  obtain ⟨m, hm⟩ : ∃ m, m = needN b := ⟨_, rfl⟩
  rw [← hm] at c
  rw [← hm]
  obtain ⟨r, hr⟩ : ∃ r, r = decide (m ≤ a) := ⟨_, rfl⟩
  have d0 : decide ((m : Int) ≤ (a : Int)) = r := by rw [hr]; congr 1; rw [eq_iff_iff]; omega
  have d0' : decide (m ≤ a) = r := hr.symm
  rw [← hr]
  clear hm hb hr
  go_enter Try.func27, Try.ntmps27
  go_wp2_with fail
  refine (c.out _).mono ?_
  rintro e w1 ⟨rfl, g⟩
  go_wp2_with fail
  go_ret
  exact ⟨rfl, g⟩
theorem enters_ref01Most : ∀ args w, (callFunc 27 args).run Try.prog w = .ok (.enter 27 args) w := entersE Try.func27 (by kernel_rfl) (by kernel_rfl)

set_option maxHeartbeats 400000 in
theorem ref01Some (a b : Nat) (hb1 : b < 18446744073709551616) (w : World) :
    Calls Try.prog 28 #[.int .u64 (a : Int), .int .u64 (b : Int)] w fun e w' => e = .returned (.bool (someN a b)) ∧ Below w.heap.size w w' := by
  have hb0 : (0 : Int) ≤ (b : Int) := by omega
  have hb2 : (b : Int) < 18446744073709551616 := by omega
  by_cases h : b % 3 = 0
  · rw [show someN a b = decide ((b : Int) / 3 ≤ (a : Int)) by
      unfold someN
      rw [Bool.eq_iff_iff, decide_eq_true_iff, decide_eq_true_iff]
      omega]
    have h1 : ((b : Int) % 3 != 0) = false := by rw [bne_eq_false_iff_eq]; omega
    clear h hb1
    go_enter Try.func28, Try.ntmps28
    go_wp2
    go_ret
    exact ⟨rfl, Below.refl _ _⟩
  · rw [show someN a b = decide ((b : Int) / 3 + 1 ≤ (a : Int)) by
      unfold someN
      rw [Bool.eq_iff_iff, decide_eq_true_iff, decide_eq_true_iff]
      omega]
    have h1 : ((b : Int) % 3 != 0) = true := by rw [bne_iff_ne]; omega
    clear h hb1
    go_enter Try.func28, Try.ntmps28
    go_wp2
    go_ret
    exact ⟨rfl, Below.refl _ _⟩
theorem enters_ref01Some : ∀ args w, (callFunc 28 args).run Try.prog w = .ok (.enter 28 args) w := entersE Try.func28 (by kernel_rfl) (by kernel_rfl)
end Go.Proofs.Ytjjncaojicjfjaa
