/-
  Package vote: isFew, isOut, fate, walked.
-/
import Derived.Test.YtfmbgpjpkahmnaaVoteM
import Derived.Test.YtfmbgpjpkahmnaaVoteQ
import Derived.Test.YtfmbgpjpkahmnaaGO
import Derived.Test.YtfmbgpjpkahmnaaLex
import Derived.Test.YtfmbgpjpkahmnaaLexT
import Derived.Deep.Cut
import Derived.Laws.Cover3
namespace Go.Proofs.Ytfmbgpjpkahmnaa
open Go.RowKit

set_option maxRecDepth 100000 in
set_option maxHeartbeats 1000000 in
theorem voteFew (n : Int) (w : World) : Calls Try.prog 27 #[.int .i64 n] w fun e w' => e = .returned (.bool (newOkV n)) ∧ Below w.heap.size w w' := by
  by_cases h0 : 0 < n
  · have t0 : decide (0 < n) = true := decide_eq_true h0
    by_cases h1 : n ≤ 8
    · have t1 : decide (n ≤ 8) = true := decide_eq_true h1
      rw [show newOkV n = true from decide_eq_true ⟨by omega, h1⟩]
      clear h0 h1
      go_enter Try.func27, Try.ntmps27
      go_wp2_with fail
      go_ret
      exact ⟨rfl, Below.refl _ _⟩
    · have t1 : decide (n ≤ 8) = false := decide_eq_false h1
      rw [show newOkV n = false from decide_eq_false (fun h => h1 h.2)]
      clear h0 h1
      go_enter Try.func27, Try.ntmps27
      go_wp2_with fail
      go_ret
      exact ⟨rfl, Below.refl _ _⟩
  · have t0 : decide (0 < n) = false := decide_eq_false h0
    rw [show newOkV n = false from decide_eq_false (fun h => h0 (by omega))]
    clear h0
    go_enter Try.func27, Try.ntmps27
    go_wp2_with fail
    go_ret
    exact ⟨rfl, Below.refl _ _⟩
theorem enters_voteFew : ∀ args w, (callFunc 27 args).run Try.prog w = .ok (.enter 27 args) w := entersE Try.func27 (by kernel_rfl) (by kernel_rfl)

set_option maxRecDepth 100000 in
set_option maxHeartbeats 1000000 in
theorem voteOut (s : SlV) (out : UInt64) {j : Nat} (hj : j < 64) (w : World) : Calls Try.prog 21 #[.agg (vo ⟨s, out⟩), .int .i64 (j : Int)] w fun e w' => e = .returned (.bool (hasB out j)) ∧ Below w.heap.size w w' := by
  obtain ⟨W0, hW0⟩ : ∃ W0, W0 = w.alloc (.cells (vo ⟨s, out⟩) 25) := ⟨_, rfl⟩
  have HB : Hid (Below w.heap.size w W0) := by rw [hW0]; exact below1
  have hM0 : W0.heap[w.heap.size]? = some (.cells (vo ⟨s, out⟩) 25 (0, 0)) := by rw [hW0]; exact heap_alloc_last w _
  have HW := Lib.hid hW0
  have zo := (vo_cells hM0).2.1
  dsimp only at zo
  have HS := Lib.hid (stakeBit (j : Int))
  obtain ⟨B, hB⟩ : ∃ B, B = (bitN (j : Int) : Int) := ⟨_, rfl⟩
  obtain ⟨M, hM⟩ : ∃ M, M = (out.toNat : Int) := ⟨_, rfl⟩
  obtain ⟨x, hx⟩ : ∃ x, x = ((out.toNat &&& 2 ^ j : Nat) : Int) := ⟨_, rfl⟩
  obtain ⟨r, hr⟩ : ∃ r, r = hasB out j := ⟨_, rfl⟩
  have a1 : bits .and .u64 M B = x := by rw [hM, hB, hx]; exact and_bit out hj
  have a2 : (x != 0) = r := by rw [hx, hr]; exact and_has out j
  rw [← hB] at HS
  rw [← hM] at zo
  rw [← hr]
  clear hW0 hM0 hB hM hx hr
  go_enter Try.func21, Try.ntmps21
  go_upto_region 1 with fail
  rw [← HW.out]
  have La := fun q : Wd W0.drew => wd_cell zo q
  refine wp_region_lex [3] (by kernel_rfl) (by kernel_rfl) (by kernel_rfl) ?_
  repeat (refine wpXL_quiet rfl rfl _ cls_begin ?_; (first | go_big_quiet_step (fail) | quiet_step (fail)); refine wpQuiet_nil ?_)
  refine wpXL_call rfl rfl rfl enters_stakeBit #[.int .i64 (j : Int)] rfl ?_
  refine (HS.out _).mono ?_
  rintro e u ⟨rfl, g⟩
  refine ⟨_, rfl, g, ?_⟩
  simp only [Act.put, List.setIfInBounds_toArray, List.set_cons_zero, List.set_cons_succ]
  have G := Lib.hid (belowT HB.out (belowT (belowD (Below.refl _ _) 1) g))
  clear g La
  repeat (refine wpXL_quiet rfl rfl _ cls_begin ?_; (first | go_big_quiet_step (fail) | quiet_step (fail)); refine wpQuiet_nil ?_)
  refine wpXL_nil ?_
  go_wp2_with fail
  go_ret
  exact ⟨rfl, G.out⟩
theorem enters_voteOut : ∀ args w, (callFunc 21 args).run Try.prog w = .ok (.enter 21 args) w := entersE Try.func21 (by kernel_rfl) (by kernel_rfl)

/-- What becomes of a vote behind the latest one. -/
def fateL (x : Lt) (r : Rt) (ep : UInt64) : Nat :=
  if x.has = true ∧ (ep.toNat < x.epoch.toNat ∨ x.epoch = ep ∧ x.root = r) then 0
  else if x.has = true ∧ x.epoch = ep then 2 else 1
theorem fateV_of {v : Vt} {i : Nat} {r : Rt} {ep : UInt64} (h : hasB v.out i = false) : fateV v i r ep = fateL (lat v.l i) r ep := by
  unfold fateV fateL
  rw [h, if_neg Bool.false_ne_true]

set_option maxRecDepth 100000 in
set_option maxHeartbeats 4000000 in
theorem voteFate (x : Lt) (r : Rt) (ep : UInt64) (w : World) : Calls Try.prog 22 #[.agg (lt x), .agg (rc r), .int .u64 (ep.toNat : Int)] w fun e w' => e = .returned (.int .i64 (fateL x r ep : Int)) ∧ Below w.heap.size w w' := by
  obtain ⟨W0, hW0⟩ : ∃ W0, W0 = (w.alloc (.cells (lt x) 41)).alloc (.cells (rc r) 27) := ⟨_, rfl⟩
  obtain ⟨g, m, n, _⟩ := heap2 w _ _ _ _ W0 hW0
  obtain ⟨c0, c1, c2, _, _⟩ := lt_cells m
  have zu := ldA_block n (rc_size _)
  have HB := Lib.hid g
  have HW := Lib.hid hW0
  obtain ⟨hs, hhs⟩ : ∃ hs, hs = x.has := ⟨_, rfl⟩
  obtain ⟨E, hE⟩ : ∃ E, E = x.epoch.toNat := ⟨_, rfl⟩
  obtain ⟨P, hP⟩ : ∃ P, P = ep.toNat := ⟨_, rfl⟩
  obtain ⟨ρ, hρ⟩ : ∃ ρ, ρ = x.root := ⟨_, rfl⟩
  rw [← hhs] at c0
  rw [← hE] at c2
  rw [← hρ] at c1
  obtain ⟨k, hk⟩ : ∃ k, k = fateL x r ep := ⟨_, rfl⟩
  have HK : Hid (k = if hs = true ∧ (P < E ∨ E = P ∧ ρ = r) then 0 else if hs = true ∧ E = P then 2 else 1) := by
    show _ = _
    rw [hk]
    unfold fateL
    rw [hhs, hE, hP, hρ]
    simp only [UInt64.toNat_inj]
  rw [← hk, ← hP]
  clear hW0 g m n hhs hE hP hρ hk
  cases hs
  · obtain rfl : k = 1 := HK.out.trans ((if_neg (fun h => by cases h.1)).trans (if_neg (fun h => by cases h.1)))
    go_enter Try.func22, Try.ntmps22
    go_upto_region 1 with fail
    rw [← HW.out]
    go_wp2_with fail
    go_ret
    exact ⟨rfl, HB.out⟩
  · by_cases h1 : E < P
    · have t1 : decide (E < P) = true := decide_eq_true h1
      have t1' : decide ((E : Int) < (P : Int)) = true := decide_eq_true (by omega)
      obtain rfl : k = 1 := HK.out.trans ((if_neg (fun h => h.2.elim (fun q => by omega) (fun q => by omega))).trans (if_neg (fun h => by omega)))
      clear h1
      go_enter Try.func22, Try.ntmps22
      go_upto_region 1 with fail
      rw [← HW.out]
      go_wp2_with fail
      go_ret
      exact ⟨rfl, HB.out⟩
    · have t1 : decide (E < P) = false := decide_eq_false h1
      have t1' : decide ((E : Int) < (P : Int)) = false := decide_eq_false (by omega)
      by_cases h2 : E = P
      · subst h2
        by_cases h3 : ρ = r
        · subst h3
          have t3 := eqB_self ρ
          obtain rfl : k = 0 := HK.out.trans (if_pos ⟨rfl, .inr ⟨rfl, rfl⟩⟩)
          clear h1
          go_enter Try.func22, Try.ntmps22
          go_upto_region 1 with fail
          rw [← HW.out]
          go_wp2_with fail
          go_ret
          exact ⟨rfl, HB.out⟩
        · have t3 : eqB ρ r = false := decide_eq_false h3
          obtain rfl : k = 2 := HK.out.trans ((if_neg (fun h => h.2.elim (fun q => by omega) (fun q => h3 q.2))).trans (if_pos ⟨rfl, rfl⟩))
          clear h1 h3
          go_enter Try.func22, Try.ntmps22
          go_upto_region 1 with fail
          rw [← HW.out]
          go_wp2_with fail
          go_ret
          exact ⟨rfl, HB.out⟩
      · have t2 : ((E : Int) == (P : Int)) = false := by rw [beq_eq_false_iff_ne]; omega
        have t2' : (E == P) = false := by rw [beq_eq_false_iff_ne]; exact h2
        have t4 : decide (E = P) = false := decide_eq_false h2
        obtain rfl : k = 0 := HK.out.trans (if_pos ⟨rfl, .inl (by omega)⟩)
        clear h1 h2
        go_enter Try.func22, Try.ntmps22
        go_upto_region 1 with fail
        rw [← HW.out]
        go_wp2_with fail
        go_ret
        exact ⟨rfl, HB.out⟩
theorem enters_voteFate : ∀ args w, (callFunc 22 args).run Try.prog w = .ok (.enter 22 args) w := entersE Try.func22 (by kernel_rfl) (by kernel_rfl)
end Go.Proofs.Ytfmbgpjpkahmnaa
