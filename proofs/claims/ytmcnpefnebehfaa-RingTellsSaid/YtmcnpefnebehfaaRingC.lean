/-
  Package ring: Clone, same, walked.
-/
import Derived.Test.YtmcnpefnebehfaaRingB
import Derived.Laws.Cover3
namespace Go.Proofs.Ytmcnpefnebehfaa
open Go.RowKit

theorem eq_nilI (p : Option Addr) (n cap : Nat) (w : World) : (binOp .eql 22 (.slice p n cap) (.slice none 0 0)).run Try.prog w = .ok (.bool p.isNone) w := by
  have h := run_equalIn_slice_nil (P := Try.prog) w 9999 22 3 p n cap Try.underlying22
  simp [binOp, Op.equal, Op.maxDepth, h]
/-- A slice of numbers is answered. -/
def SlIs (l : List Int) (w : World) (e : Ending) (w' : World) : Prop := ∃ v, e = .returned v ∧ OwnI w' w.heap.size v l ∧ Below w.heap.size w w'
/-- A result's block of two cells, both written. -/
theorem ring_put {w : World} {R : Nat} {a b : Value} {T : TypeId} (h : w.heap[R]? = some (.cells #[a, b] T (0, 0))) (x y : Value) : ldA ((w.setCell ⟨R, 0, none⟩ x).setCell ⟨R, 1, none⟩ y) (.pointer (some ⟨R, 0, none⟩)) 2 = some #[x, y] :=
  ldA_block (heap_setI (heap_setI h 0 x) 1 y) rfl
theorem ownI_set {w : World} {base R o : Nat} {v : Value} {l : List Int} (h : OwnI w base v l) (hR : R < base) (x : Value) : OwnI (w.setCell ⟨R, o, none⟩ x) base v l :=
  ownI_block h fun b _ hb => by
    have := (World.ownsRow.lt h b hb).1
    rw [Below.heap_setCell _ _ _ _ (show b ≠ R by omega)]
theorem ownI_shape {w : World} {base : Nat} {v : Value} {l : List Int} (h : OwnI w base v l) : ∃ p cap, v = .slice p l.length cap := by
  obtain ⟨p, cap, e, _⟩ := slI_shape (ownI_slI h)
  exact ⟨p, cap, e⟩
/-- A ring is answered. -/
def RgIs (c : Int) (l : List Int) (w : World) (e : Ending) (w' : World) : Prop := ∃ v, e = .returned (.agg #[.int .i64 c, v]) ∧ OwnI w' w.heap.size v l ∧ Below w.heap.size w w'

set_option maxRecDepth 100000 in
set_option maxHeartbeats 1000000 in
theorem clone_any (v : Value) (l : List Int) (w : World) (h : SlI w v l) (hl : l.length ≤ 1000) :
    Calls Try.prog 30 #[v] w (SlIs l w) := by
  have HS := Lib.hid h
  obtain ⟨p, cap, rfl, _, h⟩ := h
  cases p with
  | none =>
    have hn : l = [] := h.resolve_right (fun ⟨_, _, e, _⟩ => by cases e)
    subst hn
    clear HS h
    show Calls Try.prog 30 #[.slice none 0 cap] w (SlIs [] w)
    have he : ∀ w, (binOp .eql 22 (.slice none 0 cap) (.slice none 0 0)).run Try.prog w = .ok (.bool true) w := fun w => eq_nilI none 0 cap w
    go_enter Try.func30, Try.ntmps30
    go_wp2_with fail
    go_ret
    exact ⟨_, rfl, ownI_nil _ _, Below.refl _ _⟩
  | some a =>
    have HO : Hid (OwnI (w.alloc (.cells #[] 3)) w.heap.size (.slice (some ⟨w.heap.size, 0, none⟩) 0 0) []) := ownI_lit w [] (by simp [maxLen]) _ rfl _ rfl
    have HB : Hid (Below w.heap.size w (w.alloc (.cells #[] 3))) := (Below.refl w.heap.size w).alloc (Nat.le_refl _) _
    clear h
    have he : ∀ w, (binOp .eql 22 (.slice (some a) l.length cap) (.slice none 0 0)).run Try.prog w = .ok (.bool false) w := fun w => eq_nilI (some a) l.length cap w
    go_enter Try.func30, Try.ntmps30
    go_wp2_with (at_builtin; refine wpList_append_ints _ rfl (.tmp 5) (.tmp 6) rfl w.heap.size _ [] rfl HO.out _ l rfl (slI_keep HB.out HS.out) (by simp; omega) (by simp) ?_; intro v2 w2 ho2 hg2)
    go_ret
    exact ⟨_, rfl, by simpa using ho2, HB.out.trans (hg2.own HO.out (by simp))⟩
theorem enters_clone : ∀ args w, (callFunc 30 args).run Try.prog w = .ok (.enter 30 args) w := entersI Try.func30 (by kernel_rfl) (by kernel_rfl)

set_option maxRecDepth 100000 in
set_option maxHeartbeats 1000000 in
theorem same_any (c : Int) (v : Value) (l : List Int) (w : World) (h : SlI w v l) (hl : l.length ≤ 1000) :
    Calls Try.prog 24 #[.agg #[.int .i64 c, v]] w (RgIs c l w) := by
  have HS := Lib.hid h
  obtain ⟨p, cap, rfl, _, _⟩ := h
  obtain ⟨V, hV⟩ : ∃ V : Value, V = .slice p l.length cap := ⟨_, rfl⟩
  have o1 : V.oneCell' = true := by rw [hV]; rfl
  obtain ⟨W0, hW0⟩ : ∃ W0, W0 = (w.alloc (.cells #[.int .i64 c, .slice p l.length cap] 24)).alloc (.cells #[.int .i64 0, .slice none 0 0] 24) := ⟨_, rfl⟩
  have HB : Hid (Below w.heap.size w W0) := by rw [hW0]; exact ((Below.refl w.heap.size w).alloc (Nat.le_refl _) _).alloc (by simp) _
  have M0 : Hid (W0.heap[w.heap.size]? = some (.cells #[.int .i64 c, .slice p l.length cap] 24 (0, 0))) := by rw [hW0]; exact heap_alloc2_old w _ _
  have N0 : Hid (W0.heap[w.heap.size + 1]? = some (.cells #[.int .i64 0, .slice none 0 0] 24 (0, 0))) := by rw [hW0]; exact heap_alloc2_new w _ _
  have x0 : W0.cell? ⟨w.heap.size, 0, none⟩ = some (.int .i64 c) := by rw [cell_of_row _ _ _ _ _ _ M0.out]; rfl
  have x1 : W0.cell? ⟨w.heap.size, 1, none⟩ = some (.slice p l.length cap) := by rw [cell_of_row _ _ _ _ _ _ M0.out]; rfl
  have HC := Lib.hid (fun W hW => clone_any (.slice p l.length cap) l W hW hl)
  have HW := Lib.hid hW0
  clear hW0 hV o1
  go_enter Try.func24, Try.ntmps24
  go_wp2_with fail
  rw [← HW.out]
  go_region_law (
      refine step_callI _ rfl rfl enters_clone #[.slice p l.length cap] rfl ?_; refine (HC.out W0.drew (slI_keep (belowD HB.out 1) HS.out)).mono ?_; rintro e w1 ⟨v1, rfl, hs1, g1⟩; refine ⟨_, rfl, ?_⟩
      have y0 : w1.cell? ⟨w.heap.size, 0, none⟩ = some (.int .i64 c) := (g1.cell (p := ⟨w.heap.size, 0, none⟩) (block_lt_of_cell (show W0.cell? ⟨w.heap.size, 0, none⟩ = _ from x0))).trans x0
      have z0 : w1.cell? ⟨w.heap.size + 1, 0, none⟩ = some (.int .i64 0) := by rw [cell_of_row _ _ _ _ _ _ ((g1.block _ (Array.getElem?_eq_some_iff.1 N0.out).1).trans N0.out)]; rfl
      have z1 : w1.cell? ⟨w.heap.size + 1, 1, none⟩ = some (.slice none 0 0) := by rw [cell_of_row _ _ _ _ _ _ ((g1.block _ (Array.getElem?_eq_some_iff.1 N0.out).1).trans N0.out)]; rfl
      have q0 : w1.frozen? ⟨w.heap.size + 1, 0, none⟩ = false := frozen_of_row _ _ _ _ _ ((g1.block _ (Array.getElem?_eq_some_iff.1 N0.out).1).trans N0.out)
      have q1 : w1.frozen? ⟨w.heap.size + 1, 1, none⟩ = false := frozen_of_row _ _ _ _ _ ((g1.block _ (Array.getElem?_eq_some_iff.1 N0.out).1).trans N0.out)
      obtain ⟨p1, cap1, rfl⟩ := ownI_shape hs1
      have HS1 := Lib.hid hs1
      have G1 := Lib.hid g1
      clear hs1 g1)
  all_goals
    go_wp2_with fail
    have HR := (G1.out.block _ (Array.getElem?_eq_some_iff.1 N0.out).1).trans N0.out
    have hz : w.heap.size + 1 < W0.heap.size := (Array.getElem?_eq_some_iff.1 N0.out).1
    exact bodyPost_ret (results_aggI1 Try.isAgg24 Try.sizeOf24 _ 2 rfl _ _ _ _ rfl (ring_put HR _ _)) rfl ⟨_, rfl, ownI_base (ownI_set (ownI_set HS1.out hz _) hz _) (by show w.heap.size ≤ W0.heap.size; omega), ((belowT (belowD HB.out 1) G1.out).setCell (by show w.heap.size ≤ w.heap.size + 1; omega) _).setCell (by show w.heap.size ≤ w.heap.size + 1; omega) _⟩

end Go.Proofs.Ytmcnpefnebehfaa
