/-
  A uint64 that comes in, as a number of that kind.
-/
import Derived.Test.YtljehgohcchocaaPn
namespace Go.Proofs.Ytljehgohcchocaa
set_option maxRecDepth 100000
theorem u64_of {n : Int} (h : (Lit.int .u64 n).wf = true) : ∃ q : UInt64, n = (q.toNat : Int) := by
  have hb : (decide (IntKind.u64.min ≤ n) && decide (n ≤ IntKind.u64.max)) = true := h
  rw [Bool.and_eq_true, decide_eq_true_eq, decide_eq_true_eq, show IntKind.u64.min = 0 from rfl, show IntKind.u64.max = 18446744073709551615 from rfl] at hb
  refine ⟨UInt64.ofNat n.toNat, ?_⟩
  rw [UInt64.toNat_ofNat', Nat.mod_eq_of_lt (by simp; omega)]
  omega
end Go.Proofs.Ytljehgohcchocaa
