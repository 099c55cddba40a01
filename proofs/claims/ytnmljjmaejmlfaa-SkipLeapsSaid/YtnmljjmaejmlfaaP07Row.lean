/-
  Package skip: isPlace; a row of leaps out of the rows ahead of it.
-/
import Derived.Test.YtnmljjmaejmlfaaSkipQ
import Derived.Test.YtnmljjmaejmlfaaQd
import Derived.Test.YtnmljjmaejmlfaaTmem
namespace Go.Proofs.Ytnmljjmaejmlfaa
open Go.RowKit

theorem qat_leap (l : List Nd) (i : Nat) {k : Nat} (hk : k < 4) : qat (quadT l i) k = leapT l i k := by
  match k, hk with
  | 0, _ => rfl
  | 1, _ => rfl
  | 2, _ => rfl
  | 3, _ => rfl
theorem tabUp_at (l : List Nd) {j i : Nat} (hi : i < j) : (tabUp l j)[i]? = some (quadT l i) := by
  unfold tabUp
  rw [List.getElem?_map, List.getElem?_range hi]
  rfl

set_option maxRecDepth 100000 in
set_option maxHeartbeats 1000000 in
theorem skipPlace (p : Option Addr) (n cp : Nat) (i : Int) (w : World) :
    Calls Try.prog 27 #[.slice p n cp, .int .i64 i] w fun e w' => e = .returned (.bool (decide (0 ≤ i) && decide (i < (n : Int)))) ∧ Below w.heap.size w w' := by
  by_cases h0 : 0 ≤ i
  · have t0 : decide (0 ≤ i) = true := decide_eq_true h0
    obtain ⟨r, hr⟩ : ∃ r, r = decide (i < (n : Int)) := ⟨_, rfl⟩
    rw [← hr, t0]
    have t1 : decide (i < (n : Int)) = r := hr.symm
    clear hr h0
    go_enter Try.func27, Try.ntmps27
    go_wp2_with fail
    go_ret
    exact ⟨by first | done | rfl | simp, Below.refl _ _⟩
  · have t0 : decide (0 ≤ i) = false := decide_eq_false h0
    rw [t0]
    clear h0
    go_enter Try.func27, Try.ntmps27
    go_wp2_with fail
    go_ret
    exact ⟨by first | done | rfl | simp, Below.refl _ _⟩

theorem put_all {w : World} {b n : Nat} {c c' : Array Value} {t : TypeId} (hg : w.heap[b]? = some (.cells c t (0, 0))) (hn : c.size = n) (hn' : c'.size = n) : ldA (stA w (.pointer (some ⟨b, 0, none⟩)) (.agg c')) (.pointer (some ⟨b, 0, none⟩)) n = some c' := ldA_stA_same (wrA_block hg hn) hn'
theorem qd_blk {w : World} {g j : Nat} {q : Quad} (h : w.heap[g]? = some (.cells (qd q) 42 (0, 0))) (hj : j < 4) : w.cell? ⟨g, j, none⟩ = some (.int .i64 (qat q j)) ∧ w.frozen? ⟨g, j, none⟩ = false := by
  refine ⟨?_, frozen_of_row w g j _ _ h⟩
  have := range_block h j
  rw [Nat.zero_add] at this
  exact this _ (by rw [Array.getElem?_toList]; exact qat_get q hj)
theorem qd_setI {q : Quad} {j : Nat} (hj : j < 4) : (qd (partQ q j)).setIfInBounds j (.int .i64 (qat q j)) = qd (partQ q (j + 1)) := by
  match j, hj with
  | 0, _ => rfl
  | 1, _ => rfl
  | 2, _ => rfl
  | 3, _ => rfl

set_option maxRecDepth 100000 in
set_option maxHeartbeats 4000000 in
theorem skipRow (p : Option Addr) (n cp : Nat) (l : List Nd) (w : World) (h : SlE Eqd w (.slice p n cp) (tabUp l n)) (hm : MayT l) (hn : n < l.length) :
    Calls Try.prog 25 #[.slice p n cp, .int .i64 (nd l n).parent] w fun e w' => e = .returned (.agg (qd (quadT l n))) ∧ Below w.heap.size w w' := by
  rw [← leap_first hm hn]
  obtain ⟨par, hpar⟩ : ∃ par, par = leapT l n 0 := ⟨_, rfl⟩
  rw [← hpar]
  have HP := Lib.hid hpar
  have HS := Lib.hid h
  have HM := Lib.hid hm
  have HN := Lib.hid hn
  obtain ⟨W0, hW0⟩ : ∃ W0, W0 = (w.alloc (.cells (qd zqd) 42)).alloc (.cells (qd ⟨-1, -1, -1, -1⟩) 42) := ⟨_, rfl⟩
  obtain ⟨hB, h0, h1, hz⟩ := heap2 w _ _ _ _ W0 hW0
  have HB := Lib.hid hB
  have H0 := Lib.hid h0
  have H1 := Lib.hid h1
  have HW := Lib.hid hW0
  clear hpar h hm hn hB h0 h1 hz hW0
  go_enter Try.func25, Try.ntmps25
  go_wp2_with fail
  go_step3
  go_wp2_with fail
  go_step3
  go_wp2_with fail
  rw [← HW.out]
  go_loopw [6, 10] (fun c k wr => ∃ (j : Nat), j ≤ 4 ∧ k = .int .i64 (j : Int) ∧ c = .int .i64 (leapT l n j) ∧ wr.heap[w.heap.size]? = some (.cells (qd zqd) 42 (0, 0)) ∧ wr.heap[w.heap.size + 1]? = some (.cells (qd (partQ (quadT l n) j)) 42 (0, 0)) ∧ Below w.heap.size w wr) (fun _ k _ => 4 - (intOf k).toNat)
  case atStart => exact ⟨0, by omega, rfl, by rw [HP.out], H0.out, H1.out, HB.out⟩
  case round =>
    obtain ⟨j, hj, rfl, rfl, h0, h1, hb⟩ := hrel
    have K0 := Lib.hid h0
    have K1 := Lib.hid h1
    have KB := Lib.hid hb
    have HJ := Lib.hid hj
    have q1 := ldA_block h1 (qd_size _)
    have q2 := wrA_block h0 (qd_size _)
    obtain ⟨c, hc⟩ : ∃ c, c = leapT l n j := ⟨_, rfl⟩
    rw [← hc]
    have HC := Lib.hid hc
    clear h0 h1 hb hj hc
    by_cases hlt : j < 4
    · have t0 : decide ((j : Int) < 4) = true := by rw [decide_eq_true_iff]; omega
      have t0' : decide (j < 4) = true := decide_eq_true hlt
      by_cases he : c = -1
      · have t1 : (c == -1) = true := by simpa using he
        have hX : Hid (partQ (quadT l n) j = quadT l n) := part_all HM.out HN.out HJ.out (by rw [← HC.out]; exact he)
        clear hlt he
        go_wp2_with fail
        (try rw [Exit.noGoto_ret])
        exact bodyPost_ret (results_agg1 Try.isAgg42 Try.sizeOf42 _ 4 rfl _ _ _ _ rfl (put_all K0.out (qd_size _) (qd_size _))) rfl ⟨by rw [hX.out], below_stA KB.out (Nat.le_refl _)⟩
      · have t1 : (c == -1) = false := by simpa using he
        have hN : ∃ x : Nat, c = x ∧ x < n ∧ leapT l n (j + 1) = leapT l x j := by
          rcases leap_next HM.out HN.out j with ⟨e, _⟩ | ⟨x, e, h2, h3⟩
          · exact absurd (HC.out.trans e) he
          · exact ⟨x, HC.out.trans e, h2, h3⟩
        obtain ⟨x, rfl, hx, hnx⟩ := hN
        have HX := Lib.hid hx
        have HNX := Lib.hid hnx
        obtain ⟨b1, o1, c1, e1, _, hb1, x1⟩ := slE_ne HS.out (by rw [tabUp_len]; omega)
        have e1' : p = some ⟨b1, o1, none⟩ := by injection e1
        subst e1'
        have y1 := qd_cell (keepR KB.out x1) (tabUp_at l hx) (j := j) hlt
        rw [qat_leap l x hlt] at y1
        have i0 : (0 : Int) ≤ (x : Int) := by omega
        have i1 : (x : Int) < (n : Int) := by omega
        have i2 : (0 : Int) ≤ (j : Int) := by omega
        have i3 : (j : Int) < (4 : Int) := by omega
        obtain ⟨z1, z2⟩ := qd_blk K1.out hlt
        have HLT := Lib.hid hlt
        have bn : b1 ≠ w.heap.size + 1 := by omega
        have HB1 := Lib.hid hb1
        clear hlt he hx hnx e1 x1 q1 q2 hb1
        go_wp2_with fail
        go_region
        go_wp2_with fail
        go_roundw
        case rel =>
          refine ⟨j + 1, by have := HLT.out; omega, by go_num, by rw [HNX.out], ?_, ?_, ?_⟩
          · show (wr.setCell _ _).heap[w.heap.size]? = _
            rw [Below.heap_setCell _ _ _ _ (show w.heap.size ≠ w.heap.size + 1 by omega)]
            exact K0.out
          · show (wr.setCell _ _).heap[w.heap.size + 1]? = _
            have := heap_setCell_same K1.out j (.int .i64 (x : Int))
            rw [show (x : Int) = qat (quadT l n) j by rw [qat_leap l n HLT.out]; exact HC.out] at this ⊢
            rwa [qd_setI HLT.out] at this
          · exact belowD (KB.out.setCell (p := ⟨w.heap.size + 1, j, none⟩) (by simp) _) 1
        case measure => simp [intOf]; have := HLT.out; omega
    · obtain rfl : j = 4 := by have := HJ.out; omega
      have hX : Hid (partQ (quadT l n) 4 = quadT l n) := rfl
      clear hlt
      go_wp2_with fail
      (try rw [Exit.noGoto_ret])
      exact bodyPost_ret (results_agg1 Try.isAgg42 Try.sizeOf42 _ 4 rfl _ _ _ _ rfl (put_all K0.out (qd_size _) (qd_size _))) rfl ⟨by rw [hX.out], below_stA KB.out (Nat.le_refl _)⟩
theorem enters_skipRow : ∀ args w, (callFunc 25 args).run Try.prog w = .ok (.enter 25 args) w := entersE Try.func25 (by kernel_rfl) (by kernel_rfl)
end Go.Proofs.Ytnmljjmaejmlfaa
