/-
  The document's votes: New, walked.
-/
import Derived.Test.YtfmbgpjpkahmnaaVoteM
import Derived.Test.YtfmbgpjpkahmnaaRes
import Derived.Deep.Cut
namespace Go.Proofs.Ytfmbgpjpkahmnaa
open Go.RowKit

theorem made_lts : ∀ n, n ≤ 8 → (madeCells (Value.agg (lt zlt)).cells (n * 34)).toList = cellsE Elt (List.replicate n zlt) := by
  intro n hn
  have : n = 0 ∨ n = 1 ∨ n = 2 ∨ n = 3 ∨ n = 4 ∨ n = 5 ∨ n = 6 ∨ n = 7 ∨ n = 8 := by omega
  rcases this with rfl | rfl | rfl | rfl | rfl | rfl | rfl | rfl | rfl <;> (refine Eq.symm ?_; kernel_rfl)

set_option maxRecDepth 100000 in
set_option maxHeartbeats 4000000 in
theorem ref12New (n : Int) (w : World) :
    Calls Try.prog 16 #[.int .i64 n] w (VoOk (newV n) (newOkV n) w) := by
  by_cases hn : 1 ≤ n ∧ n ≤ 8
  · obtain ⟨n, rfl⟩ : ∃ n' : Nat, n = n' := ⟨n.toNat, by omega⟩
    have e : newOkV (n : Int) = true := decide_eq_true hn
    have HV : Hid (newV (n : Int) = ⟨List.replicate n zlt, 0⟩) := by unfold newV; rw [e, if_pos rfl]; exact Lib.hid rfl
    rw [e]
    have t0 : decide ((n : Int) < 1) = false := by rw [decide_eq_false_iff_not]; omega
    have t1 : decide ((8 : Int) < (n : Int)) = false := by rw [decide_eq_false_iff_not]; omega
    have t1' : decide (8 < n) = false := by rw [decide_eq_false_iff_not]; omega
    have t0' : decide (n < 1) = false := by rw [decide_eq_false_iff_not]; omega
    have t0'' : decide (n = 0) = false := by rw [decide_eq_false_iff_not]; omega
    have HN : Hid (n ≤ 8) := by show n ≤ 8; omega
    have n0 : (0 : Int) ≤ (n : Int) := by omega
    obtain ⟨W0, hW0⟩ : ∃ W0, W0 = w.alloc (.cells (vo zvo) 25) := ⟨_, rfl⟩
    have HB : Hid (Below w.heap.size w W0) := by rw [hW0]; exact below1
    have M0 : Hid (W0.heap[w.heap.size]? = some (.cells (vo zvo) 25 (0, 0))) := by rw [hW0]; exact heap_alloc_last w _
    have HW := Lib.hid hW0
    obtain ⟨i, hi, hz0, hz1, hz2⟩ := info_parts info_lt
    clear hn e hW0
    go_enter Try.func16, Try.ntmps16
    go_upto_region 1 with fail
    rw [← HW.out]
    go_wp2_with (at_make; refine wpList_make_full _ rfl _ _ 22 rfl W0.heap.size 41 i _ 34 Try.underlying22 hi hz0 hz1 .i64 .i64 _ _ n rfl rfl rfl rfl (by rw [hz2]; have := HN.out; omega) (by unfold maxLen; have := HN.out; omega) (Nat.le_refl _) ?_; intro wz hown hgrow; have BZ : Hid (Below W0.heap.size W0 wz) := (Below.refl _ _).grown hgrow (Nat.le_refl _) (fun k hk => by cases hk); have OZ := Lib.hid hown; have MZ := Lib.hid (blk_keep BZ.out M0.out); have y1 := wrA_block MZ.out (vo_size _); clear hown hgrow)
    have hS : SlE Elt wz (.slice (some ⟨W0.heap.size, 0, none⟩) n n) (List.replicate n zlt) := by
      have h := OZ.out
      rw [made_lts n HN.out] at h
      have : OwnE Elt wz W0.heap.size (.slice (some ⟨W0.heap.size, 0, none⟩) n n) (List.replicate n zlt) := by
        unfold OwnE
        rw [List.length_replicate]
        exact h
      exact ownE_slE this
    have hF := heap_putV MZ.out (r := vo ⟨⟨some ⟨W0.heap.size, 0, none⟩, n, n⟩, 0⟩) (by rw [vo_size, vo_size])
    have hne : w.heap.size ≠ W0.heap.size := by have := (Array.getElem?_eq_some_iff.1 M0.out).1; omega
    refine bodyPost_ret (v := .tuple #[.agg (vo ⟨⟨some ⟨W0.heap.size, 0, none⟩, n, n⟩, 0⟩), .bool true]) (results_agg2 Try.isAgg25 Try.sizeOf25 _ 2 3 rfl _ _ _ _ _ rfl rfl (ldA_block hF (vo_size _))) rfl ⟨⟨some ⟨W0.heap.size, 0, none⟩, n, n⟩, by rw [HV.out], by rw [HV.out]; exact slE_block hS (by rw [size_stA]; exact Nat.le_refl _) (fun b _ hb => heap_stA (by have hb' : W0.heap.size = b := Option.some.inj hb; omega)), below_stA (belowT HB.out BZ.out) (Nat.le_refl _)⟩
  · have e : newOkV n = false := decide_eq_false hn
    have HV : Hid (newV n = ⟨[], 0⟩) := by unfold newV; rw [e, if_neg Bool.false_ne_true]; exact Lib.hid rfl
    rw [e]
    by_cases h0 : n < 1
    · have t0 : decide (n < 1) = true := decide_eq_true h0
      clear hn e h0
      go_enter Try.func16, Try.ntmps16
      go_wp2_with fail
      exact bodyPost_ret (v := .tuple #[.agg (vo zvo), .bool false]) (results_agg2 Try.isAgg25 Try.sizeOf25 _ 2 3 rfl _ _ _ _ _ rfl rfl (by go_simp)) rfl ⟨⟨none, 0, 0⟩, by rw [HV.out]; rfl, by rw [HV.out]; exact slE_nil _ _ _ _, below1⟩
    · have t0 : decide (n < 1) = false := decide_eq_false h0
      have t1 : decide (8 < n) = true := decide_eq_true (by omega)
      clear hn e h0
      go_enter Try.func16, Try.ntmps16
      go_wp2_with fail
      exact bodyPost_ret (v := .tuple #[.agg (vo zvo), .bool false]) (results_agg2 Try.isAgg25 Try.sizeOf25 _ 2 3 rfl _ _ _ _ _ rfl rfl (by go_simp)) rfl ⟨⟨none, 0, 0⟩, by rw [HV.out]; rfl, by rw [HV.out]; exact slE_nil _ _ _ _, below1⟩
theorem enters_ref12New : ∀ args w, (callFunc 16 args).run Try.prog w = .ok (.enter 16 args) w := entersE Try.func16 (by kernel_rfl) (by kernel_rfl)
end Go.Proofs.Ytfmbgpjpkahmnaa
