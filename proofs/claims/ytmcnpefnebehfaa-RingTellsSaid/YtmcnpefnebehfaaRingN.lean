/-
  Package ring: push, pop, step, walked.
-/
import Derived.Test.YtmcnpefnebehfaaRingM
namespace Go.Proofs.Ytmcnpefnebehfaa
open Go.RowKit

theorem grown_drewN {w0 w : World} {r : Option Nat} (h : w0.grownBy w r) (n : Nat) : w0.grownBy (w.drewN n) r := ⟨h.os, h.tape, h.output, h.size, h.block⟩
/-- Behind a step of the queue in block b: what is answered, what it holds then; no other block has turned. -/
def QueIs (w : World) (b : Nat) (v : Value) (l : List Int) (c : Nat) (e : Ending) (w' : World) : Prop := e = .returned v ∧ w.grownBy w' (some b) ∧ Que w' b l c

set_option maxRecDepth 100000 in
set_option maxHeartbeats 1000000 in
theorem push_no (b : Nat) (l : List Int) (c : Nat) (x : Int) (w : World) (h : Que w b l c) (hr : ¬ l.length < c) :
    Calls Try.prog 23 #[.pointer (some ⟨b, 0, none⟩), .int .i64 x] w (QueIs w b (.bool false) l c) := by
  have HQ := Lib.hid h
  obtain ⟨pl, f, h1, h2, h3, h4, h5, h6⟩ := h
  have c9 : w.cell? ⟨b, 9, none⟩ = some (.int .i64 (l.length : Int)) := by rw [cell_of_row _ _ _ _ _ _ h5, qc_n h1]
  have c10 : w.cell? ⟨b, 10, none⟩ = some (.int .i64 (c : Int)) := by rw [cell_of_row _ _ _ _ _ _ h5, qc_c h1]
  have t1 : decide (c ≤ l.length) = true := by simp; omega
  clear h1 h2 h3 h4 h5 h6 hr
  go_enter Try.func23, Try.ntmps23
  go_wp2_with fail
  go_quiet (fail)
  go_wp2_with fail
  go_ret
  exact ⟨rfl, grown_drewN (grown_refl _ _) _, HQ.out⟩

set_option maxRecDepth 100000 in
set_option maxHeartbeats 1000000 in
theorem push_yes (b : Nat) (l : List Int) (c : Nat) (x : Int) (w : World) (h : Que w b l c) (hr : l.length < c) :
    Calls Try.prog 23 #[.pointer (some ⟨b, 0, none⟩), .int .i64 x] w (QueIs w b (.bool true) (l ++ [x]) c) := by
  obtain ⟨pl, f, h1, h2, h3, h4, h5, h6⟩ := h
  have c8 : w.cell? ⟨b, 8, none⟩ = some (.int .i64 (f : Int)) := by rw [cell_of_row _ _ _ _ _ _ h5, qc_f h1]
  have c9 : w.cell? ⟨b, 9, none⟩ = some (.int .i64 (l.length : Int)) := by rw [cell_of_row _ _ _ _ _ _ h5, qc_n h1]
  have c10 : w.cell? ⟨b, 10, none⟩ = some (.int .i64 (c : Int)) := by rw [cell_of_row _ _ _ _ _ _ h5, qc_c h1]
  have t1 : decide (c ≤ l.length) = false := by simp; omega
  have hfz : ∀ o, w.frozen? ⟨b, o, none⟩ = false := fun o => frozen_of_row _ _ o _ _ h5
  have HF9 := Lib.hid (hfz 9)
  obtain ⟨k, hk⟩ : ∃ k, k = (f + l.length) % 8 := ⟨_, rfl⟩
  have hk8 : k < 8 := by omega
  have ck : w.cell? ⟨b, k, none⟩ = some (.int .i64 (it pl k)) := by rw [cell_of_row _ _ _ _ _ _ h5, qc_pl _ _ _ _ (by omega)]
  have fk := hfz k
  have cpl : ∀ W : World, W.cell? ⟨b, 8, none⟩ = some (.int .i64 (f : Int)) → Calls Try.prog 29 #[.pointer (some ⟨b, 0, none⟩), .int .i64 (l.length : Int)] W fun e w' => e = .returned (.int .i64 (k : Int)) ∧ W = w' := fun W hW => by
    rw [hk]; exact place_any b f l.length W h2 (by omega) hW
  have HP := Lib.hid cpl
  have HQ : Hid (∀ n, Que (((w.drewN n).setCell ⟨b, k, none⟩ (.int .i64 x)).setCell ⟨b, 9, none⟩ (.int .i64 ((l.length : Int) + 1))) b (l ++ [x]) c) := fun n => by
    refine ⟨pl.set k x, f, by simp [h1], h2, by simp; omega, h4, ?_, by rw [hk]; exact que_push h1 (by omega) h6 x⟩
    rw [heap_setI (heap_setI (show (w.drewN n).heap[b]? = _ from h5) _ _), qc_set_pl _ _ _ _ (by omega)]
    have := qc_set_n (pl := pl.set k x) (by simp [h1]) f l.length c (l.length + 1)
    rw [show (((l.length + 1 : Nat)) : Int) = (l.length : Int) + 1 by omega] at this
    rw [this, List.length_append]; rfl
  have C9' : Hid (∀ n, ((w.drewN n).setCell ⟨b, k, none⟩ (.int .i64 x)).cell? ⟨b, 9, none⟩ = some (.int .i64 (l.length : Int))) := fun n => by
    rw [cell_of_row _ _ _ _ _ _ (heap_setI (show (w.drewN n).heap[b]? = _ from h5) _ _), qc_set_pl _ _ _ _ (by omega), qc_n (by simp [h1])]
  have F9' : Hid (∀ n, ((w.drewN n).setCell ⟨b, k, none⟩ (.int .i64 x)).frozen? ⟨b, 9, none⟩ = false) := fun n => frozen_of_row _ _ _ _ _ (heap_setI (show (w.drewN n).heap[b]? = _ from h5) _ _)
  have u1 : (l.length : Int) + 1 < 100 := by omega
  have i0 : (0 : Int) ≤ (k : Int) := by omega
  have i1 : (k : Int) < 8 := by omega
  clear h1 h2 h3 h4 h5 h6 hr hfz cpl hk
  go_enter Try.func23, Try.ntmps23
  go_wp2_with fail
  go_quiet (fail)
  go_wp2_with fail
  go_region_law ((refine step_callI _ rfl rfl enters_place #[.pointer (some ⟨b, 0, none⟩), .int .i64 (l.length : Int)] rfl ?_; refine (HP.out _ (by assumption)).mono ?_; rintro e w1 ⟨rfl, rfl⟩; refine ⟨_, rfl, ?_⟩))
  have c9' := C9'.out (nq + 1)
  have f9' := F9'.out (nq + 1)
  have HQ' := Lib.hid (HQ.out (nq + 1))
  have HG : Hid (w.grownBy ((w.drewN (nq + 1)).setCell ⟨b, k, none⟩ (.int .i64 x)) (some b)) := grown_setCell (grown_drewN (grown_refl _ _) _) _ _
  clear C9' F9' HQ HP c8 c9 c10 ck fk HF9
  generalize (w.drewN (nq + 1)).setCell ⟨b, k, none⟩ (.int .i64 x) = W1 at *
  go_wp2_with fail
  go_ret
  exact ⟨rfl, grown_setCell HG.out _ _, HQ'.out⟩

set_option maxRecDepth 100000 in
set_option maxHeartbeats 1000000 in
theorem pop_no (b : Nat) (c : Nat) (w : World) (h : Que w b [] c) :
    Calls Try.prog 26 #[.pointer (some ⟨b, 0, none⟩)] w (QueIs w b (.tuple #[.int .i64 0, .bool false]) [] c) := by
  have HQ := Lib.hid h
  obtain ⟨pl, f, h1, h2, h3, h4, h5, h6⟩ := h
  have c9 : w.cell? ⟨b, 9, none⟩ = some (.int .i64 0) := by rw [cell_of_row _ _ _ _ _ _ h5, qc_n h1]; rfl
  clear h1 h2 h3 h4 h5 h6
  go_enter Try.func26, Try.ntmps26
  go_wp2_with fail
  go_ret2
  exact ⟨rfl, grown_refl _ _, HQ.out⟩

set_option maxRecDepth 100000 in
set_option maxHeartbeats 1000000 in
theorem pop_yes (b : Nat) (l : List Int) (c : Nat) (w : World) (h : Que w b l c) (hr : 0 < l.length) :
    Calls Try.prog 26 #[.pointer (some ⟨b, 0, none⟩)] w (QueIs w b (.tuple #[.int .i64 (it l 0), .bool true]) (l.drop 1) c) := by
  obtain ⟨pl, f, h1, h2, h3, h4, h5, h6⟩ := h
  have c8 : w.cell? ⟨b, 8, none⟩ = some (.int .i64 (f : Int)) := by rw [cell_of_row _ _ _ _ _ _ h5, qc_f h1]
  have c9 : w.cell? ⟨b, 9, none⟩ = some (.int .i64 (l.length : Int)) := by rw [cell_of_row _ _ _ _ _ _ h5, qc_n h1]
  have cf : w.cell? ⟨b, f, none⟩ = some (.int .i64 (it l 0)) := by
    rw [cell_of_row _ _ _ _ _ _ h5, qc_pl _ _ _ _ (by omega), ← h6 0 hr, Nat.add_zero, Nat.mod_eq_of_lt h2]
  obtain ⟨k, hk⟩ : ∃ k, k = (f + 1) % 8 := ⟨_, rfl⟩
  have cpl : ∀ W : World, W.cell? ⟨b, 8, none⟩ = some (.int .i64 (f : Int)) → Calls Try.prog 29 #[.pointer (some ⟨b, 0, none⟩), .int .i64 1] W fun e w' => e = .returned (.int .i64 (k : Int)) ∧ W = w' := fun W hW => by
    rw [hk]; exact place_any b f 1 W h2 (by omega) hW
  have HP := Lib.hid cpl
  have HQ : Hid (∀ n, Que (((w.drewN n).setCell ⟨b, 8, none⟩ (.int .i64 (k : Int))).setCell ⟨b, 9, none⟩ (.int .i64 ((l.length : Int) - 1))) b (l.drop 1) c) := fun n => by
    refine ⟨pl, k, h1, by omega, by simp; omega, h4, ?_, by rw [hk]; exact que_pop h6⟩
    rw [heap_setI (heap_setI (show (w.drewN n).heap[b]? = _ from h5) _ _), qc_set_f h1]
    have := qc_set_n h1 k l.length c (l.length - 1)
    rw [show (((l.length - 1 : Nat)) : Int) = (l.length : Int) - 1 by omega] at this
    rw [this, List.length_drop]
  have C9' : Hid (∀ n, ((w.drewN n).setCell ⟨b, 8, none⟩ (.int .i64 (k : Int))).cell? ⟨b, 9, none⟩ = some (.int .i64 (l.length : Int))) := fun n => by
    rw [cell_of_row _ _ _ _ _ _ (heap_setI (show (w.drewN n).heap[b]? = _ from h5) _ _), qc_set_f h1, qc_n h1]
  have F9' : Hid (∀ n, ((w.drewN n).setCell ⟨b, 8, none⟩ (.int .i64 (k : Int))).frozen? ⟨b, 9, none⟩ = false) := fun n => frozen_of_row _ _ _ _ _ (heap_setI (show (w.drewN n).heap[b]? = _ from h5) _ _)
  have f8 : w.frozen? ⟨b, 8, none⟩ = false := frozen_of_row _ _ _ _ _ h5
  have t1 : ((l.length : Int) == 0) = false := by simp; intro e; subst e; simp at hr
  have u1 : (1 : Int) ≤ (l.length : Int) := by omega
  have u2 : (l.length : Int) < 100 := by omega
  have i0 : (0 : Int) ≤ (f : Int) := by omega
  have i1 : (f : Int) < 8 := by omega
  clear h1 h2 h3 h4 h5 h6 hr cpl hk
  obtain ⟨l1, hl1⟩ : ∃ l1, l1 = l.drop 1 := ⟨_, rfl⟩
  rw [← hl1]
  have HL := Lib.hid hl1.symm
  clear hl1
  go_enter Try.func26, Try.ntmps26
  go_wp2_with fail
  go_quiet (fail)
  go_wp2_with fail
  refine (HP.out _ (by assumption)).mono ?_
  rintro e w1 ⟨rfl, rfl⟩
  have c9' := C9'.out nq
  have f9' := F9'.out nq
  have HQ' := Lib.hid (HQ.out nq)
  have HG : Hid (w.grownBy ((w.drewN nq).setCell ⟨b, 8, none⟩ (.int .i64 (k : Int))) (some b)) := grown_setCell (grown_drewN (grown_refl _ _) _) _ _
  clear C9' F9' HQ HP
  go_wp2_with fail
  go_ret2
  exact ⟨rfl, grown_setCell HG.out _ _, HL.out ▸ HQ'.out⟩

/-- What a step of Run tells, and leaves. -/
theorem pop_any (b : Nat) (l : List Int) (c : Nat) (w : World) (h : Que w b l c) :
    Calls Try.prog 26 #[.pointer (some ⟨b, 0, none⟩)] w (QueIs w b (.tuple #[.int .i64 (if l.length = 0 then 0 else it l 0), .bool (decide (0 < l.length))]) (l.drop 1) c) := by
  by_cases hr : 0 < l.length
  · rw [if_neg (by omega), decide_eq_true hr]; exact pop_yes b l c w h hr
  · obtain rfl : l = [] := List.length_eq_zero_iff.1 (by omega)
    exact pop_no b c w h
theorem push_any (b : Nat) (l : List Int) (c : Nat) (x : Int) (w : World) (h : Que w b l c) :
    Calls Try.prog 23 #[.pointer (some ⟨b, 0, none⟩), .int .i64 x] w (QueIs w b (.bool (decide (l.length < c))) (if l.length < c then l ++ [x] else l) c) := by
  by_cases hr : l.length < c
  · rw [if_pos hr, decide_eq_true hr]; exact push_yes b l c x w h hr
  · rw [if_neg hr, decide_eq_false hr]; exact push_no b l c x w h hr

set_option maxRecDepth 100000 in
set_option maxHeartbeats 1000000 in
theorem step_any (b : Nat) (l : List Int) (c : Nat) (n : Int) (w : World) (h : Que w b l c) :
    Calls Try.prog 27 #[.pointer (some ⟨b, 0, none⟩), .int .i64 n] w (QueIs w b (.int .i64 (toldX (c : Int) l n)) (stepL (c : Int) l n) c) := by
  have HQ := Lib.hid h; clear h
  by_cases hn : n < 0
  · by_cases hr : 0 < l.length
    · obtain ⟨y, hy⟩ : ∃ y, y = it l 0 := ⟨_, rfl⟩
      obtain ⟨k, hk⟩ : ∃ k, k = l.drop 1 := ⟨_, rfl⟩
      have c1 := pop_yes b l c w HQ.out hr
      rw [← hy, ← hk] at c1
      have HE : Hid (toldX (c : Int) l n = y ∧ stepL (c : Int) l n = k) := by
        show _ ∧ _
        unfold toldX stepL
        rw [if_pos hn, if_pos hn, if_neg (by omega), hy, hk]
        exact ⟨rfl, rfl⟩
      rw [HE.out.1, HE.out.2]
      unfold QueIs at c1
      have HC := Lib.hid c1
      clear hy hk c1 HE hr
      go_enter Try.func27, Try.ntmps27
      go_wp2_with fail
      refine HC.out.mono ?_
      rintro e w1 ⟨rfl, g1, q1⟩
      go_wp2_with fail
      go_ret
      exact ⟨rfl, g1, q1⟩
    · obtain rfl : l = [] := List.length_eq_zero_iff.1 (by omega)
      have c1 := pop_no b c w HQ.out
      have HE : Hid (toldX (c : Int) [] n = -1 ∧ stepL (c : Int) [] n = []) := by
        show _ ∧ _
        unfold toldX stepL
        rw [if_pos hn, if_pos hn]
        exact ⟨rfl, rfl⟩
      rw [HE.out.1, HE.out.2]
      unfold QueIs at c1
      have HC := Lib.hid c1
      clear c1 HE hr
      go_enter Try.func27, Try.ntmps27
      go_wp2_with fail
      refine HC.out.mono ?_
      rintro e w1 ⟨rfl, g1, q1⟩
      go_wp2_with fail
      go_ret
      exact ⟨rfl, g1, q1⟩
  · by_cases hr : l.length < c
    · have c1 := push_yes b l c n w HQ.out hr
      have HE : Hid (toldX (c : Int) l n = 1 ∧ stepL (c : Int) l n = l ++ [n]) := by
        show _ ∧ _
        unfold toldX stepL
        rw [if_neg hn, if_neg hn, if_pos (by omega), if_pos (by omega)]
        exact ⟨rfl, rfl⟩
      rw [HE.out.1, HE.out.2]
      unfold QueIs at c1
      have HC := Lib.hid c1
      clear c1 HE hr
      go_enter Try.func27, Try.ntmps27
      go_wp2_with fail
      refine HC.out.mono ?_
      rintro e w1 ⟨rfl, g1, q1⟩
      go_wp2_with fail
      go_ret
      exact ⟨rfl, g1, q1⟩
    · have c1 := push_no b l c n w HQ.out hr
      have HE : Hid (toldX (c : Int) l n = 0 ∧ stepL (c : Int) l n = l) := by
        show _ ∧ _
        unfold toldX stepL
        rw [if_neg hn, if_neg hn, if_neg (by omega), if_neg (by omega)]
        exact ⟨rfl, rfl⟩
      rw [HE.out.1, HE.out.2]
      unfold QueIs at c1
      have HC := Lib.hid c1
      clear c1 HE hr
      go_enter Try.func27, Try.ntmps27
      go_wp2_with fail
      refine HC.out.mono ?_
      rintro e w1 ⟨rfl, g1, q1⟩
      go_wp2_with fail
      go_ret
      exact ⟨rfl, g1, q1⟩
end Go.Proofs.Ytmcnpefnebehfaa
