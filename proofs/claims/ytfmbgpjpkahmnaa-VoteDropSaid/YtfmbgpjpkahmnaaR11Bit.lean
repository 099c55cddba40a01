/-
  The document's bits: Has, walked.
-/
import Derived.Test.YtfmbgpjpkahmnaaR11BitA
import Derived.Test.YtfmbgpjpkahmnaaNumU
namespace Go.Proofs.Ytfmbgpjpkahmnaa
open Go.RowKit

set_option maxRecDepth 100000 in
set_option maxHeartbeats 1000000 in
theorem ref11Has (mask : UInt64) (v : Int) (w : World) :
    Calls Try.prog 24 #[.int .u64 (mask.toNat : Int), .int .i64 v] w fun e w' => e = .returned (.bool (hasZ mask v)) ∧ Below w.heap.size w w' := by
  have HB := Lib.hid (fun W => ref11Bit v W)
  by_cases h : 0 ≤ v ∧ v ≤ 63
  · obtain ⟨n, rfl⟩ : ∃ n : Nat, v = n := ⟨v.toNat, by omega⟩
    have hn : n < 64 := by omega
    rw [bitN_nat hn] at HB
    rw [hasZ_nat hn, has_div]
    have hp : 0 < 2 ^ n := Nat.two_pow_pos n
    obtain ⟨m, hm⟩ : ∃ m, m = mask.toNat := ⟨_, rfl⟩
    have hml : m < 18446744073709551616 := by rw [hm]; exact mask.toNat_lt
    rw [← hm]
    obtain ⟨b, hb⟩ : ∃ b, b = 2 ^ n := ⟨_, rfl⟩
    rw [← hb] at hp HB
    rw [← hb]
    have t0 : decide ((0 : Int) < (b : Int)) = true := decide_eq_true (by omega)
    have t0' : decide (0 < b) = true := decide_eq_true hp
    obtain ⟨q, hq⟩ : ∃ q, q = m / b := ⟨_, rfl⟩
    have hql : q < 18446744073709551616 := by rw [hq]; exact Nat.lt_of_le_of_lt (Nat.div_le_self _ _) hml
    rw [← hq]
    have eq : (m : Int) / (b : Int) = (q : Int) := by rw [hq]; exact (Int.natCast_ediv m b).symm
    have b0 : ¬ (b : Int) = 0 := by omega
    have b0' : ¬ b = 0 := by omega
    have b1 : ((b : Int) == 0) = false := by rw [beq_eq_false_iff_ne]; omega
    have b1' : (b == 0) = false := by rw [beq_eq_false_iff_ne]; omega
    have eq' : Int.tdiv (m : Int) (b : Int) = (q : Int) := by rw [Int.tdiv_eq_ediv_of_nonneg (by omega)]; exact eq
    have HQ2 : Hid (((q : Int) % 2 == 1) = decide (q % 2 = 1)) := by show _ = _; rw [Bool.eq_iff_iff, beq_iff_eq, decide_eq_true_iff]; omega
    clear h hn hm hb hp hq eq
    go_enter Try.func24, Try.ntmps24
    go_wp2_with fail
    refine (HB.out _).mono ?_
    rintro e w1 ⟨rfl, g⟩
    go_wp2_with fail
    go_ret
    exact ⟨by show Ending.returned (.bool ((q : Int) % 2 == 1)) = _; rw [HQ2.out], g⟩
  · rw [show bitN v = 0 from if_neg h] at HB
    rw [show hasZ mask v = false by unfold hasZ; rw [decide_eq_false h]; rfl]
    clear h
    go_enter Try.func24, Try.ntmps24
    go_wp2_with fail
    refine (HB.out _).mono ?_
    rintro e w1 ⟨rfl, g⟩
    go_wp2_with fail
    go_ret
    exact ⟨rfl, g⟩
theorem ref11HasN (mask : UInt64) {v : Nat} (hv : v < 64) (w : World) :
    Calls Try.prog 24 #[.int .u64 (mask.toNat : Int), .int .i64 (v : Int)] w fun e w' => e = .returned (.bool (hasB mask v)) ∧ Below w.heap.size w w' := by
  have := ref11Has mask (v : Int) w
  rwa [hasZ_nat hv] at this
end Go.Proofs.Ytfmbgpjpkahmnaa
