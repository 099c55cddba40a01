/-
  Package tree: New, walked.
-/
import Derived.Test.YtnehebipikhejaaTreeIs
namespace Go.Proofs.Ytnehebipikhejaa
open Go.RowKit

set_option maxRecDepth 100000 in
set_option maxHeartbeats 4000000 in
theorem treeNew (r : Rt) (q : UInt64) (w : World) :
    Calls Try.prog 14 #[.agg (rc r), .int .u64 (q.toNat : Int)] w (TreeOk (newL r q) (newOk q) w) := by
  by_cases hq : q.toNat ≤ 1099511627776
  · have e : newOk q = true := decide_eq_true hq
    have HL : Hid (newL r q = [newN r q]) := by unfold newL; rw [e, if_pos rfl]; exact Lib.hid rfl
    rw [e]
    have t1 : decide ((1099511627776 : Int) < (q.toNat : Int)) = false := by rw [decide_eq_false_iff_not]; omega
    have t1' : decide (1099511627776 < q.toNat) = false := by rw [decide_eq_false_iff_not]; omega
    clear hq e
    go_enter Try.func14, Try.ntmps14
    go_wp2_with fail
    exact bodyPost_ret (v := .tuple #[.agg (tr ⟨⟨some ⟨w.heap.size + 1 + 1, 0, none⟩, 1, 1⟩⟩), .bool true]) (results_agg2 Try.isAgg24 Try.sizeOf24 _ 4 5 rfl _ _ _ _ _ rfl rfl (by go_simp)) rfl ⟨⟨some ⟨w.heap.size + 1 + 1, 0, none⟩, 1, 1⟩, rfl, by rw [HL.out]; exact slE_lit _ [newN r q] 1 _ _ _ rfl (by simp) (by simp [cellsE, Ene, ne_list, newN, zne]), belowT (belowT below1 below1) below1⟩
  · have e : newOk q = false := decide_eq_false hq
    have HL : Hid (newL r q = []) := by unfold newL; rw [e, if_neg Bool.false_ne_true]; exact Lib.hid rfl
    rw [e]
    have t1 : decide ((1099511627776 : Int) < (q.toNat : Int)) = true := by rw [decide_eq_true_iff]; omega
    have t1' : decide (1099511627776 < q.toNat) = true := by rw [decide_eq_true_iff]; omega
    clear hq e
    go_enter Try.func14, Try.ntmps14
    go_wp2_with fail
    exact bodyPost_ret (v := .tuple #[.agg (tr ⟨⟨none, 0, 0⟩⟩), .bool false]) (results_agg2 Try.isAgg24 Try.sizeOf24 _ 4 5 rfl _ _ _ _ _ rfl rfl (by go_simp; rfl)) rfl ⟨⟨none, 0, 0⟩, rfl, by rw [HL.out]; exact slE_nil _ _ _ _, belowT below1 below1⟩
end Go.Proofs.Ytnehebipikhejaa
