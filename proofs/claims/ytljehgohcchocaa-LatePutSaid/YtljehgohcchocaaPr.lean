/-
  Roots as parts of structs: ==, parts; in any translation that has them (integers, numbers, bools: XPn).
-/
import Derived.Test.YtljehgohcchocaaPn
import Derived.Test.YtljehgohcchocaaRt
namespace Go.Proofs.Ytljehgohcchocaa
open Go.RowKit
set_option maxRecDepth 100000

theorem rc_len (r : Rt) : (rc r).toList.length = 32 := by rw [Array.length_toList, rc_size]
theorem eqRtN (n : Nat) (a b : Rt) (w : World) : (Op.equalIn (n + 2) 25 (.agg (rc a)) (.agg (rc b))).run Try.prog w = .ok (decide (a = b)) w := eqRootN n a b w
theorem partR (c : Array Value) (o : Nat) (r : Rt) (h : c.extract o (o + 32) = rc r) (w : World) : (part 25 c o).run Try.prog w = .ok (.agg (rc r)) w := by
  rw [part_agg (P := Try.prog) Try.isAgg25 Try.sizeOf25, h]
theorem cellsOf_root : Try.prog.cellsOf 25 = 32 := by kernel_rfl
def Ert : Lie Rt := ⟨25, 32, fun r => (rc r).toList, by decide, rc_len, rc_ones⟩
end Go.Proofs.Ytljehgohcchocaa
