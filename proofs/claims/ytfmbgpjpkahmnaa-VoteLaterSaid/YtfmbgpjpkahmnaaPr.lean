/-
  Roots as parts of structs: ==, parts; in any translation that has them (integers, numbers, bools: XPn).
-/
import Derived.Test.YtfmbgpjpkahmnaaPn
import Derived.Test.YtfmbgpjpkahmnaaRt
namespace Go.Proofs.Ytfmbgpjpkahmnaa
open Go.RowKit

theorem rc_len (r : Rt) : (rc r).toList.length = 32 := by rw [Array.length_toList, rc_size]
theorem eqRtN (n : Nat) (a b : Rt) (w : World) : (Op.equalIn (n + 2) 27 (.agg (rc a)) (.agg (rc b))).run Try.prog w = .ok (decide (a = b)) w := eqRootN n a b w
theorem partR (c : Array Value) (o : Nat) (r : Rt) (h : c.extract o (o + 32) = rc r) (w : World) : (part 27 c o).run Try.prog w = .ok (.agg (rc r)) w := by
  rw [part_agg (P := Try.prog) Try.isAgg27 Try.sizeOf27, h]
theorem cellsOf_root : Try.prog.cellsOf 27 = 32 := by kernel_rfl
def Ert : Lie Rt := ⟨27, 32, fun r => (rc r).toList, by decide, rc_len, rc_ones⟩
end Go.Proofs.Ytfmbgpjpkahmnaa
