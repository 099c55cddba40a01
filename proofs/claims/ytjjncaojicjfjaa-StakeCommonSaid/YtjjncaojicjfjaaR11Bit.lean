/-
  The document's bits: Bit, Has, walked.
-/
import Derived.Test.YtjjncaojicjfjaaStakeQ
import Derived.Test.YtjjncaojicjfjaaNumU
namespace Go.Proofs.Ytjjncaojicjfjaa
open Go.RowKit

set_option maxRecDepth 100000 in
set_option maxHeartbeats 1000000 in
theorem ref11Bit (v : Int) (w : World) :
    Calls Try.prog 24 #[.int .i64 v] w fun e w' => e = .returned (.int .u64 (bitN v : Int)) ∧ Below w.heap.size w w' := by
  by_cases h0 : v < 0
  · have t0 : decide (v < 0) = true := decide_eq_true h0
    rw [show bitN v = 0 from if_neg (by omega)]
    clear h0
    go_enter Try.func24, Try.ntmps24
    go_wp2_with fail
    go_ret
    exact ⟨rfl, Below.refl _ _⟩
  · have t0 : decide (v < 0) = false := decide_eq_false h0
    by_cases h1 : 63 < v
    · have t1 : decide (63 < v) = true := decide_eq_true h1
      rw [show bitN v = 0 from if_neg (by omega)]
      clear h0 h1
      go_enter Try.func24, Try.ntmps24
      go_wp2_with fail
      go_ret
      exact ⟨rfl, Below.refl _ _⟩
    · have t1 : decide (63 < v) = false := decide_eq_false h1
      obtain ⟨n, rfl⟩ : ∃ n : Nat, v = n := ⟨v.toNat, by omega⟩
      have hn : n < 64 := by omega
      rw [bitN_nat hn]
      have HN := Lib.hid hn
      obtain ⟨P, hP⟩ : ∃ P : Nat → Nat, P = fun j => 2 ^ j := ⟨_, rfl⟩
      rw [show 2 ^ n = P n by rw [hP]]
      have HP0 : Hid (P 0 = 1) := by show P 0 = 1; rw [hP]
      have HPs : Hid (∀ j, P (j + 1) = 2 * P j) := fun j => by rw [hP]; show 2 ^ (j + 1) = 2 * 2 ^ j; rw [Nat.pow_succ, Nat.mul_comm]
      have HPl : Hid (∀ j, j < 64 → P j < 18446744073709551616) := fun j hj => by rw [hP]; have : 2 ^ j ≤ 2 ^ 63 := Nat.pow_le_pow_right (by omega) (by omega); show 2 ^ j < _; omega
      clear h0 h1 hn hP
      go_enter Try.func24, Try.ntmps24
      go_wp2_with fail
      go_loopw [3, 4] (fun o i wr => ∃ j : Nat, j ≤ n ∧ i = .int .i64 (j : Int) ∧ o = .int .u64 (P j : Int) ∧ wr = w) (fun _ i _ => n - (intOf i).toNat)
      case atStart => exact ⟨0, Nat.zero_le _, rfl, by rw [HP0.out]; rfl, rfl⟩
      case round =>
        obtain ⟨j, hj, rfl, rfl, rfl⟩ := hrel
        by_cases hlt : j < n
        · have d0 : decide ((j : Int) < (n : Int)) = true := decide_eq_true (by omega)
          have d0' : decide (j < n) = true := decide_eq_true hlt
          have u1 : (j : Int) + 1 < 10000 := by have := HN.out; omega
          have hs := HPs.out j
          have hl := HPl.out (j + 1) (by have := HN.out; omega)
          obtain ⟨x, hx⟩ : ∃ x, x = P j := ⟨_, rfl⟩
          rw [← hx] at hs
          rw [← hx]
          have u2 : 2 * (x : Int) < 18446744073709551616 := by omega
          have u3 : 0 ≤ 2 * (x : Int) := by omega
          have HS : Hid ((P (j + 1) : Int) = 2 * (x : Int)) := by show _ = _; omega
          have HLT := Lib.hid hlt
          clear hlt hs hl hx
          go_wp2_with fail
          go_roundw
          case rel => exact ⟨j + 1, HLT.out, by go_num, by rw [HS.out], by first | rfl | trivial⟩
          case measure => simp [intOf]; have := HLT.out; omega
        · obtain rfl : j = n := by omega
          clear hlt
          go_wp2_with fail
          go_ret
          exact ⟨rfl, Below.refl _ _⟩
theorem enters_ref11Bit : ∀ args w, (callFunc 24 args).run Try.prog w = .ok (.enter 24 args) w := entersE Try.func24 (by kernel_rfl) (by kernel_rfl)

set_option maxRecDepth 100000 in
set_option maxHeartbeats 1000000 in
theorem ref11Has (mask : UInt64) (v : Int) (w : World) :
    Calls Try.prog 26 #[.int .u64 (mask.toNat : Int), .int .i64 v] w fun e w' => e = .returned (.bool (hasZ mask v)) ∧ Below w.heap.size w w' := by
  have HB := Lib.hid (fun W => ref11Bit v W)
  by_cases h : 0 ≤ v ∧ v ≤ 63
  · obtain ⟨n, rfl⟩ : ∃ n : Nat, v = n := ⟨v.toNat, by omega⟩
    have hn : n < 64 := by omega
    rw [bitN_nat hn] at HB
    rw [hasZ_nat hn, has_div]
    have hp : 0 < 2 ^ n := Nat.two_pow_pos n
    obtain ⟨m, hm⟩ : ∃ m, m = mask.toNat := ⟨_, rfl⟩
    have hml : m < 18446744073709551616 := by rw [hm]; exact mask.toNat_lt
    rw [← hm]
    obtain ⟨b, hb⟩ : ∃ b, b = 2 ^ n := ⟨_, rfl⟩
    rw [← hb] at hp HB
    rw [← hb]
    have t0 : decide ((0 : Int) < (b : Int)) = true := decide_eq_true (by omega)
    have t0' : decide (0 < b) = true := decide_eq_true hp
    obtain ⟨q, hq⟩ : ∃ q, q = m / b := ⟨_, rfl⟩
    have hql : q < 18446744073709551616 := by rw [hq]; exact Nat.lt_of_le_of_lt (Nat.div_le_self _ _) hml
    rw [← hq]
    have eq : (m : Int) / (b : Int) = (q : Int) := by rw [hq]; exact (Int.natCast_ediv m b).symm
    have b0 : ¬ (b : Int) = 0 := by omega
    have b0' : ¬ b = 0 := by omega
    have b1 : ((b : Int) == 0) = false := by rw [beq_eq_false_iff_ne]; omega
    have b1' : (b == 0) = false := by rw [beq_eq_false_iff_ne]; omega
    have eq' : Int.tdiv (m : Int) (b : Int) = (q : Int) := by rw [Int.tdiv_eq_ediv_of_nonneg (by omega)]; exact eq
    have HQ2 : Hid (((q : Int) % 2 == 1) = decide (q % 2 = 1)) := by show _ = _; rw [Bool.eq_iff_iff, beq_iff_eq, decide_eq_true_iff]; omega
    clear h hn hm hb hp hq eq
    go_enter Try.func26, Try.ntmps26
    go_wp2_with fail
    refine (HB.out _).mono ?_
    rintro e w1 ⟨rfl, g⟩
    go_wp2_with fail
    go_ret
    exact ⟨by show Ending.returned (.bool ((q : Int) % 2 == 1)) = _; rw [HQ2.out], g⟩
  · rw [show bitN v = 0 from if_neg h] at HB
    rw [show hasZ mask v = false by unfold hasZ; rw [decide_eq_false h]; rfl]
    clear h
    go_enter Try.func26, Try.ntmps26
    go_wp2_with fail
    refine (HB.out _).mono ?_
    rintro e w1 ⟨rfl, g⟩
    go_wp2_with fail
    go_ret
    exact ⟨rfl, g⟩
theorem ref11HasN (mask : UInt64) {v : Nat} (hv : v < 64) (w : World) :
    Calls Try.prog 26 #[.int .u64 (mask.toNat : Int), .int .i64 (v : Int)] w fun e w' => e = .returned (.bool (hasB mask v)) ∧ Below w.heap.size w w' := by
  have := ref11Has mask (v : Int) w
  rwa [hasZ_nat hv] at this
end Go.Proofs.Ytjjncaojicjfjaa
