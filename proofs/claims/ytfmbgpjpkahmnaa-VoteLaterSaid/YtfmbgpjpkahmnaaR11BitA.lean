/-
  The document's bits: Bit, walked.
-/
import Derived.Test.YtfmbgpjpkahmnaaGM
import Derived.Test.YtfmbgpjpkahmnaaPn
namespace Go.Proofs.Ytfmbgpjpkahmnaa
open Go.RowKit

set_option maxRecDepth 100000 in
set_option maxHeartbeats 1000000 in
theorem ref11Bit (v : Int) (w : World) :
    Calls Try.prog 26 #[.int .i64 v] w fun e w' => e = .returned (.int .u64 (bitN v : Int)) ∧ Below w.heap.size w w' := by
  by_cases h0 : v < 0
  · have t0 : decide (v < 0) = true := decide_eq_true h0
    rw [show bitN v = 0 from if_neg (by omega)]
    clear h0
    go_enter Try.func26, Try.ntmps26
    go_wp2_with fail
    go_ret
    exact ⟨rfl, Below.refl _ _⟩
  · have t0 : decide (v < 0) = false := decide_eq_false h0
    by_cases h1 : 63 < v
    · have t1 : decide (63 < v) = true := decide_eq_true h1
      rw [show bitN v = 0 from if_neg (by omega)]
      clear h0 h1
      go_enter Try.func26, Try.ntmps26
      go_wp2_with fail
      go_ret
      exact ⟨rfl, Below.refl _ _⟩
    · have t1 : decide (63 < v) = false := decide_eq_false h1
      obtain ⟨n, rfl⟩ : ∃ n : Nat, v = n := ⟨v.toNat, by omega⟩
      have hn : n < 64 := by omega
      rw [bitN_nat hn]
      have HN := Lib.hid hn
      obtain ⟨P, hP⟩ : ∃ P : Nat → Nat, P = fun j => 2 ^ j := ⟨_, rfl⟩
      rw [show 2 ^ n = P n by rw [hP]]
      have HP0 : Hid (P 0 = 1) := by show P 0 = 1; rw [hP]
      have HPs : Hid (∀ j, P (j + 1) = 2 * P j) := fun j => by rw [hP]; show 2 ^ (j + 1) = 2 * 2 ^ j; rw [Nat.pow_succ, Nat.mul_comm]
      have HPl : Hid (∀ j, j < 64 → P j < 18446744073709551616) := fun j hj => by rw [hP]; have : 2 ^ j ≤ 2 ^ 63 := Nat.pow_le_pow_right (by omega) (by omega); show 2 ^ j < _; omega
      clear h0 h1 hn hP
      go_enter Try.func26, Try.ntmps26
      go_wp2_with fail
      go_loopw [3, 4] (fun o i wr => ∃ j : Nat, j ≤ n ∧ i = .int .i64 (j : Int) ∧ o = .int .u64 (P j : Int) ∧ wr = w) (fun _ i _ => n - (intOf i).toNat)
      case atStart => exact ⟨0, Nat.zero_le _, rfl, by rw [HP0.out]; rfl, rfl⟩
      case round =>
        obtain ⟨j, hj, rfl, rfl, rfl⟩ := hrel
        by_cases hlt : j < n
        · have d0 : decide ((j : Int) < (n : Int)) = true := decide_eq_true (by omega)
          have d0' : decide (j < n) = true := decide_eq_true hlt
          have u1 : (j : Int) + 1 < 10000 := by have := HN.out; omega
          have hs := HPs.out j
          have hl := HPl.out (j + 1) (by have := HN.out; omega)
          obtain ⟨x, hx⟩ : ∃ x, x = P j := ⟨_, rfl⟩
          rw [← hx] at hs
          rw [← hx]
          have u2 : 2 * (x : Int) < 18446744073709551616 := by omega
          have u3 : 0 ≤ 2 * (x : Int) := by omega
          have HS : Hid ((P (j + 1) : Int) = 2 * (x : Int)) := by show _ = _; omega
          have HLT := Lib.hid hlt
          clear hlt hs hl hx
          go_wp2_with fail
          go_roundw
          case rel => exact ⟨j + 1, HLT.out, by go_num, by rw [HS.out], by first | rfl | trivial⟩
          case measure => simp [intOf]; have := HLT.out; omega
        · obtain rfl : j = n := by omega
          clear hlt
          go_wp2_with fail
          go_ret
          exact ⟨rfl, Below.refl _ _⟩
theorem enters_ref11Bit : ∀ args w, (callFunc 26 args).run Try.prog w = .ok (.enter 26 args) w := entersE Try.func26 (by kernel_rfl) (by kernel_rfl)

end Go.Proofs.Ytfmbgpjpkahmnaa
