/-
  Package ring: ringOf, New, walked.
-/
import Derived.Test.YtmcnpefnebehfaaRingD
namespace Go.Proofs.Ytmcnpefnebehfaa
open Go.RowKit

set_option maxRecDepth 100000 in
set_option maxHeartbeats 1000000 in
theorem ringOf_any (pl : List Int) (f : Nat) (l : List Int) (c : Nat) (w : World) (h1 : pl.length = 8) (h2 : f < 8) (h3 : l.length ≤ c) (h4 : c ≤ 8) (h6 : ∀ i, i < l.length → it pl ((f + i) % 8) = it l i) :
    Calls Try.prog 25 #[.agg (qc pl f l.length c)] w (RgIs (c : Int) l w) := by
  obtain ⟨W0, hW0⟩ : ∃ W0, W0 = (w.alloc (.cells (qc pl f l.length c) 44)).alloc (.cells #[.int .i64 0, .slice none 0 0] 24) := ⟨_, rfl⟩
  have HB : Hid (Below w.heap.size w W0) := by rw [hW0]; exact ((Below.refl w.heap.size w).alloc (Nat.le_refl _) _).alloc (by simp) _
  have M0 : Hid (W0.heap[w.heap.size]? = some (.cells (qc pl f l.length c) 44 (0, 0))) := by rw [hW0]; exact heap_alloc2_old w _ _
  have N0 : Hid (W0.heap[w.heap.size + 1]? = some (.cells #[.int .i64 0, .slice none 0 0] 24 (0, 0))) := by rw [hW0]; exact heap_alloc2_new w _ _
  have x0 : W0.cell? ⟨w.heap.size, 10, none⟩ = some (.int .i64 (c : Int)) := by rw [cell_of_row _ _ _ _ _ _ M0.out, qc_c h1]
  have HQ : Hid (Que W0.drew w.heap.size l c) := ⟨pl, f, h1, h2, h3, h4, M0.out, h6⟩
  have HC := Lib.hid (list_any w.heap.size l c W0.drew HQ.out)
  have HW := Lib.hid hW0
  clear hW0 h1 h2 h3 h4 h6
  go_enter Try.func25, Try.ntmps25
  go_wp2_with fail
  rw [← HW.out]
  go_region_law (
      refine step_callI _ rfl rfl enters_list #[.pointer (some ⟨w.heap.size, 0, none⟩)] rfl ?_; refine HC.out.mono ?_; rintro e w1 ⟨v1, rfl, hs1, g1⟩; refine ⟨_, rfl, ?_⟩
      have y0 : w1.cell? ⟨w.heap.size, 10, none⟩ = some (.int .i64 (c : Int)) := (g1.cell (p := ⟨w.heap.size, 10, none⟩) (block_lt_of_cell (show W0.cell? ⟨w.heap.size, 10, none⟩ = _ from x0))).trans x0
      have z0 : w1.cell? ⟨w.heap.size + 1, 0, none⟩ = some (.int .i64 0) := by rw [cell_of_row _ _ _ _ _ _ ((g1.block _ (Array.getElem?_eq_some_iff.1 N0.out).1).trans N0.out)]; rfl
      have z1 : w1.cell? ⟨w.heap.size + 1, 1, none⟩ = some (.slice none 0 0) := by rw [cell_of_row _ _ _ _ _ _ ((g1.block _ (Array.getElem?_eq_some_iff.1 N0.out).1).trans N0.out)]; rfl
      have q0 : w1.frozen? ⟨w.heap.size + 1, 0, none⟩ = false := frozen_of_row _ _ _ _ _ ((g1.block _ (Array.getElem?_eq_some_iff.1 N0.out).1).trans N0.out)
      have q1 : w1.frozen? ⟨w.heap.size + 1, 1, none⟩ = false := frozen_of_row _ _ _ _ _ ((g1.block _ (Array.getElem?_eq_some_iff.1 N0.out).1).trans N0.out)
      obtain ⟨p1, cap1, rfl⟩ := ownI_shape hs1
      have HS1 := Lib.hid hs1
      have G1 := Lib.hid g1
      clear hs1 g1)
  all_goals
    go_wp2_with fail
    have HR := (G1.out.block _ (Array.getElem?_eq_some_iff.1 N0.out).1).trans N0.out
    have hz : w.heap.size + 1 < W0.heap.size := (Array.getElem?_eq_some_iff.1 N0.out).1
    exact bodyPost_ret (results_aggI1 Try.isAgg24 Try.sizeOf24 _ 2 rfl _ _ _ _ rfl (ring_put HR _ _)) rfl ⟨_, rfl, ownI_base (ownI_set (ownI_set HS1.out hz _) hz _) (by show w.heap.size ≤ W0.heap.size; omega), ((belowT (belowD HB.out 1) G1.out).setCell (by show w.heap.size ≤ w.heap.size + 1; omega) _).setCell (by show w.heap.size ≤ w.heap.size + 1; omega) _⟩
/-- The same of a queue's block. -/
theorem ringOf_que {W : World} {b : Nat} {l : List Int} {c : Nat} (h : Que W b l c) : ∃ Q : Array Value, Q.size = 11 ∧ W.heap[b]? = some (.cells Q 44 (0, 0)) ∧ ∀ w : World, Calls Try.prog 25 #[.agg Q] w (RgIs (c : Int) l w) := by
  obtain ⟨pl, f, h1, h2, h3, h4, h5, h6⟩ := h
  exact ⟨_, qc_size h1 _ _ _, h5, fun w => ringOf_any pl f l c w h1 h2 h3 h4 h6⟩

/-- What New answers, the program's and the document's. -/
def NewIs (n : Int) (w : World) (e : Ending) (w' : World) : Prop := e = .returned (.tuple #[.agg #[.int .i64 (if roomB n = true then n else 0), .slice none 0 0], .bool (roomB n)]) ∧ Below w.heap.size w w'
set_option maxRecDepth 100000 in
set_option maxHeartbeats 1000000 in
theorem new_any (n : Int) (w : World) : Calls Try.prog 16 #[.int .i64 n] w (NewIs n w) := by
  have c1 := fun W => isRoom_any n W
  unfold NewIs
  cases hr : roomB n with
  | true =>
    rw [hr] at c1
    rw [if_pos rfl]
    have HC := Lib.hid c1
    clear c1 hr
    go_enter Try.func16, Try.ntmps16
    go_wp2_with fail
    refine (HC.out _).mono ?_
    rintro e w1 ⟨rfl, rfl⟩
    go_wp2_with fail
    exact bodyPost_ret (v := .tuple #[.agg #[.int .i64 n, .slice none 0 0], .bool true]) (by simp [results, Try.results16, go_sem]) rfl ⟨rfl, (Below.refl _ _).alloc (Nat.le_refl _) _⟩
  | false =>
    rw [hr] at c1
    rw [if_neg (by simp)]
    have HC := Lib.hid c1
    clear c1 hr
    go_enter Try.func16, Try.ntmps16
    go_wp2_with fail
    refine (HC.out _).mono ?_
    rintro e w1 ⟨rfl, rfl⟩
    go_wp2_with fail
    exact bodyPost_ret (v := .tuple #[.agg #[.int .i64 0, .slice none 0 0], .bool false]) (by simp [results, Try.results16, go_sem]) rfl ⟨rfl, (Below.refl _ _).alloc (Nat.le_refl _) _⟩
end Go.Proofs.Ytmcnpefnebehfaa
