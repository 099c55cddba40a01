/-
  What is asked of stake.Bit.
  Package stake: Bit, walked.
  Bits of numbers of 64 bits, one at a time, plainly: what &, &^ and | of one bit come to.
  Package vote: isFew, isOut, fate, walked.
-/
import Derived.Test.YtccihllcohnnnaaQ11
import Derived.Test.YtccihllcohnnnaaQ16
import Derived.Laws.ShiftsVarLaws
import Derived.Laws.Bits64b
import Derived.Laws.BitsAllLaws
import Derived.Test.YtccihllcohnnnaaQ12
import Derived.Test.YtccihllcohnnnaaQ07
import Derived.Test.YtccihllcohnnnaaQ25
import Derived.Deep.Cut
import Derived.Laws.Cover3
namespace Go.Proofs.Ytccihllcohnnnaa
open Go.RowKit
set_option maxRecDepth 100000

def StBitC : Prop := ∀ (v : Int) (w : World), Calls Try.prog 19 #[.int .i64 v] w fun e w' => e = .returned (.int .u64 (bitN v : Int)) ∧ Below w.heap.size w w'
end Go.Proofs.Ytccihllcohnnnaa
namespace Go.Proofs.Ytccihllcohnnnaa
open Go.RowKit
set_option maxRecDepth 100000

set_option maxRecDepth 100000 in
set_option maxHeartbeats 1000000 in
theorem stakeBit : StBitC := fun v w => by
  by_cases h0 : v < 0
  · have t0 : decide (v < 0) = true := decide_eq_true h0
    rw [show bitN v = 0 from if_neg (by omega)]
    clear h0
    go_enter Try.func19, Try.ntmps19
    go_wp2_with fail
    go_ret
    exact ⟨rfl, Below.refl _ _⟩
  · have t0 : decide (v < 0) = false := decide_eq_false h0
    by_cases h1 : 64 ≤ v
    · have t1 : decide (64 ≤ v) = true := decide_eq_true h1
      rw [show bitN v = 0 from if_neg (by omega)]
      clear h0 h1
      go_enter Try.func19, Try.ntmps19
      go_wp2_with fail
      go_ret
      exact ⟨rfl, Below.refl _ _⟩
    · have t1 : decide (64 ≤ v) = false := decide_eq_false h1
      obtain ⟨n, rfl⟩ : ∃ n : Nat, v = n := ⟨v.toNat, by omega⟩
      have hn : n < 64 := by omega
      rw [bitN_nat hn]
      have HX : Hid (IntKind.u64.wrap (1 * 2 ^ min ((n : Int)).toNat 64) = ((2 ^ n : Nat) : Int)) := by
        show _ = _
        have e : min ((n : Int)).toNat 64 = n := by omega
        have : 2 ^ n ≤ 2 ^ 63 := Nat.pow_le_pow_right (by omega) (by omega)
        rw [e, Int.one_mul, show ((2 : Int) ^ n) = ((2 ^ n : Nat) : Int) by simp, IntKind.wrap_u64]
        generalize 2 ^ n = x at *
        omega
      have h2 : (0 : Int) ≤ (n : Int) := by omega
      clear h0 h1 hn
      go_enter Try.func19, Try.ntmps19
      go_wp2_with fail
      go_ret
      exact ⟨by have := HX.out; simpa using this, Below.refl _ _⟩
theorem enters_stakeBit : ∀ args w, (callFunc 19 args).run Try.prog w = .ok (.enter 19 args) w := entersE Try.func19 (by kernel_rfl) (by kernel_rfl)
end Go.Proofs.Ytccihllcohnnnaa
namespace Go.Proofs.Ytccihllcohnnnaa
open Go.RowKit
set_option maxRecDepth 100000

theorem and_bit (mask : UInt64) {j : Nat} (h : j < 64) : bits .and .u64 (mask.toNat : Int) (bitN (j : Int) : Int) = ((mask.toNat &&& 2 ^ j : Nat) : Int) := by
  have : 2 ^ j ≤ 2 ^ 63 := Nat.pow_le_pow_right (by omega) (by omega)
  rw [bitN_nat h, bits_and_u64_nat _ _ mask.toNat_lt (by omega)]
theorem and_pow (x j : Nat) : x &&& 2 ^ j = if x.testBit j = true then 2 ^ j else 0 := by
  refine Nat.eq_of_testBit_eq fun i => ?_
  rw [Nat.testBit_and, Nat.testBit_two_pow]
  by_cases e : j = i
  · subst e
    cases h : x.testBit j <;> simp
  · rw [decide_eq_false e, Bool.and_false]
    split
    · rw [Nat.testBit_two_pow, decide_eq_false e]
    · simp
theorem and_has (mask : UInt64) (j : Nat) : (((mask.toNat &&& 2 ^ j : Nat) : Int) != 0) = hasB mask j := by
  unfold hasB
  rw [and_pow]
  have hp := Nat.two_pow_pos j
  by_cases h : mask.toNat.testBit j = true
  · rw [if_pos h, h, bne_iff_ne]
    generalize 2 ^ j = x at *
    omega
  · rw [if_neg h, eq_false_of_ne_true h]
    rfl
/-- The number without its j lowest bits. -/
def clrU (x j : Nat) : Nat := x >>> j <<< j
theorem clr_bit (x j i : Nat) : (clrU x j).testBit i = (decide (j ≤ i) && x.testBit i) := by
  unfold clrU
  rw [Nat.testBit_shiftLeft, Nat.testBit_shiftRight]
  by_cases h : j ≤ i
  · simp only [ge_iff_le, decide_eq_true h]; rw [show j + (i - j) = i by omega]
  · simp only [ge_iff_le, decide_eq_false h, Bool.false_and]
theorem clr_zero (x : Nat) : clrU x 0 = x := Nat.eq_of_testBit_eq fun i => by rw [clr_bit, decide_eq_true (Nat.zero_le _), Bool.true_and]
theorem clr_le (x j : Nat) : clrU x j ≤ x := by
  unfold clrU
  rw [Nat.shiftRight_eq_div_pow, Nat.shiftLeft_eq]
  exact Nat.div_mul_le_self _ _
theorem clr_next {x j : Nat} (hx : x < 18446744073709551616) (h : j < 64) : bits .andNot .u64 (clrU x j : Int) (bitN (j : Int) : Int) = (clrU x (j + 1) : Int) := by
  have h2 : 2 ^ j ≤ 2 ^ 63 := Nat.pow_le_pow_right (by omega) (by omega)
  have h3 := clr_le x j
  rw [bitN_nat h, u64_andNot_nat _ _ (by omega) (by omega)]
  congr 1
  refine Nat.eq_of_testBit_eq fun i => ?_
  rw [Nat.testBit_and, clr_bit, clr_bit, show 18446744073709551615 - 2 ^ j = 2 ^ 64 - (2 ^ j + 1) by omega, Nat.testBit_two_pow_sub_succ (by omega), Nat.testBit_two_pow]
  by_cases h4 : i < 64
  · rw [decide_eq_true h4, Bool.true_and]
    by_cases e : j = i
    · subst e; rw [decide_eq_false (show ¬ j + 1 ≤ j by omega)]; simp
    · rw [decide_eq_false e]
      by_cases e2 : j ≤ i
      · rw [decide_eq_true e2, decide_eq_true (show j + 1 ≤ i by omega)]; simp
      · rw [decide_eq_false e2, decide_eq_false (show ¬ j + 1 ≤ i by omega)]; simp
  · have : x.testBit i = false := Nat.testBit_lt_two_pow (Nat.lt_of_lt_of_le hx (show 18446744073709551616 ≤ 2 ^ i by rw [show 18446744073709551616 = 2 ^ 64 from rfl]; exact Nat.pow_le_pow_right (by omega) (by omega)))
    rw [this]; simp
theorem clr_none {x n : Nat} : clrU x n = 0 ↔ ∀ i, n ≤ i → x.testBit i = false := by
  constructor
  · intro e i hi
    have := clr_bit x n i
    rw [e, Nat.zero_testBit, decide_eq_true hi, Bool.true_and] at this
    exact this.symm
  · intro h
    refine Nat.eq_of_testBit_eq fun i => ?_
    rw [clr_bit, Nat.zero_testBit]
    by_cases hi : n ≤ i
    · rw [h i hi, Bool.and_false]
    · rw [decide_eq_false hi, Bool.false_and]
end Go.Proofs.Ytccihllcohnnnaa
namespace Go.Proofs.Ytccihllcohnnnaa
open Go.RowKit
set_option maxRecDepth 100000

set_option maxRecDepth 100000 in
set_option maxHeartbeats 1000000 in
theorem voteFew (n : Int) (w : World) : Calls Try.prog 43 #[.int .i64 n] w fun e w' => e = .returned (.bool (newOkV n)) ∧ Below w.heap.size w w' := by
  by_cases h0 : 0 < n
  · have t0 : decide (0 < n) = true := decide_eq_true h0
    by_cases h1 : n ≤ 8
    · have t1 : decide (n ≤ 8) = true := decide_eq_true h1
      rw [show newOkV n = true from decide_eq_true ⟨by omega, h1⟩]
      clear h0 h1
      go_enter Try.func43, Try.ntmps43
      go_wp2_with fail
      go_ret
      exact ⟨rfl, Below.refl _ _⟩
    · have t1 : decide (n ≤ 8) = false := decide_eq_false h1
      rw [show newOkV n = false from decide_eq_false (fun h => h1 h.2)]
      clear h0 h1
      go_enter Try.func43, Try.ntmps43
      go_wp2_with fail
      go_ret
      exact ⟨rfl, Below.refl _ _⟩
  · have t0 : decide (0 < n) = false := decide_eq_false h0
    rw [show newOkV n = false from decide_eq_false (fun h => h0 (by omega))]
    clear h0
    go_enter Try.func43, Try.ntmps43
    go_wp2_with fail
    go_ret
    exact ⟨rfl, Below.refl _ _⟩
theorem enters_voteFew : ∀ args w, (callFunc 43 args).run Try.prog w = .ok (.enter 43 args) w := entersE Try.func43 (by kernel_rfl) (by kernel_rfl)

set_option maxRecDepth 100000 in
set_option maxHeartbeats 1000000 in
theorem voteOut (s : SlV) (out : UInt64) {j : Nat} (hj : j < 64) (w : World) : Calls Try.prog 41 #[.agg (vo ⟨s, out⟩), .int .i64 (j : Int)] w fun e w' => e = .returned (.bool (hasB out j)) ∧ Below w.heap.size w w' := by
  obtain ⟨W0, hW0⟩ : ∃ W0, W0 = w.alloc (.cells (vo ⟨s, out⟩) 28) := ⟨_, rfl⟩
  have HB : Hid (Below w.heap.size w W0) := by rw [hW0]; exact below1
  have hM0 : W0.heap[w.heap.size]? = some (.cells (vo ⟨s, out⟩) 28 (0, 0)) := by rw [hW0]; exact heap_alloc_last w _
  have HW := Lib.hid hW0
  have zo := (vo_cells hM0).2.1
  dsimp only at zo
  have HS := Lib.hid (stakeBit (j : Int))
  obtain ⟨B, hB⟩ : ∃ B, B = (bitN (j : Int) : Int) := ⟨_, rfl⟩
  obtain ⟨M, hM⟩ : ∃ M, M = (out.toNat : Int) := ⟨_, rfl⟩
  obtain ⟨x, hx⟩ : ∃ x, x = ((out.toNat &&& 2 ^ j : Nat) : Int) := ⟨_, rfl⟩
  obtain ⟨r, hr⟩ : ∃ r, r = hasB out j := ⟨_, rfl⟩
  have a1 : bits .and .u64 M B = x := by rw [hM, hB, hx]; exact and_bit out hj
  have a2 : (x != 0) = r := by rw [hx, hr]; exact and_has out j
  rw [← hB] at HS
  rw [← hM] at zo
  rw [← hr]
  clear hW0 hM0 hB hM hx hr
  go_enter Try.func41, Try.ntmps41
  go_upto_region 1 with fail
  rw [← HW.out]
  have La := fun q : Wd W0.drew => wd_cell zo q
  refine wp_region_lex [3] (by kernel_rfl) (by kernel_rfl) (by kernel_rfl) ?_
  repeat (refine wpXL_quiet rfl rfl _ cls_begin ?_; (first | go_big_quiet_step (fail) | quiet_step (fail)); refine wpQuiet_nil ?_)
  refine wpXL_call rfl rfl rfl enters_stakeBit #[.int .i64 (j : Int)] rfl ?_
  refine (HS.out _).mono ?_
  rintro e u ⟨rfl, g⟩
  refine ⟨_, rfl, g, ?_⟩
  simp only [Act.put, List.setIfInBounds_toArray, List.set_cons_zero, List.set_cons_succ]
  have G := Lib.hid (belowT HB.out (belowT (belowD (Below.refl _ _) 1) g))
  clear g La
  repeat (refine wpXL_quiet rfl rfl _ cls_begin ?_; (first | go_big_quiet_step (fail) | quiet_step (fail)); refine wpQuiet_nil ?_)
  refine wpXL_nil ?_
  go_wp2_with fail
  go_ret
  exact ⟨rfl, G.out⟩
theorem enters_voteOut : ∀ args w, (callFunc 41 args).run Try.prog w = .ok (.enter 41 args) w := entersE Try.func41 (by kernel_rfl) (by kernel_rfl)

/-- What becomes of a vote behind the latest one. -/
def fateL (x : Lt) (r : Rt) (ep : UInt64) : Nat :=
  if x.has = true ∧ (ep.toNat < x.epoch.toNat ∨ x.epoch = ep ∧ x.root = r) then 0
  else if x.has = true ∧ x.epoch = ep then 2 else 1
theorem fateV_of {v : Vt} {i : Nat} {r : Rt} {ep : UInt64} (h : hasB v.out i = false) : fateV v i r ep = fateL (lat v.l i) r ep := by
  unfold fateV fateL
  rw [h, if_neg Bool.false_ne_true]

set_option maxRecDepth 100000 in
set_option maxHeartbeats 4000000 in
theorem voteFate (x : Lt) (r : Rt) (ep : UInt64) (w : World) : Calls Try.prog 42 #[.agg (lt x), .agg (rc r), .int .u64 (ep.toNat : Int)] w fun e w' => e = .returned (.int .i64 (fateL x r ep : Int)) ∧ Below w.heap.size w w' := by
  obtain ⟨W0, hW0⟩ : ∃ W0, W0 = (w.alloc (.cells (lt x) 41)).alloc (.cells (rc r) 39) := ⟨_, rfl⟩
  obtain ⟨g, m, n, _⟩ := heap2 w _ _ _ _ W0 hW0
  obtain ⟨c0, c1, c2, _, _⟩ := lt_cells m
  have zu := ldA_block n (rc_size _)
  have HB := Lib.hid g
  have HW := Lib.hid hW0
  obtain ⟨hs, hhs⟩ : ∃ hs, hs = x.has := ⟨_, rfl⟩
  obtain ⟨E, hE⟩ : ∃ E, E = x.epoch.toNat := ⟨_, rfl⟩
  obtain ⟨P, hP⟩ : ∃ P, P = ep.toNat := ⟨_, rfl⟩
  obtain ⟨ρ, hρ⟩ : ∃ ρ, ρ = x.root := ⟨_, rfl⟩
  rw [← hhs] at c0
  rw [← hE] at c2
  rw [← hρ] at c1
  obtain ⟨k, hk⟩ : ∃ k, k = fateL x r ep := ⟨_, rfl⟩
  have HK : Hid (k = if hs = true ∧ (P < E ∨ E = P ∧ ρ = r) then 0 else if hs = true ∧ E = P then 2 else 1) := by
    show _ = _
    rw [hk]
    unfold fateL
    rw [hhs, hE, hP, hρ]
    simp only [UInt64.toNat_inj]
  rw [← hk, ← hP]
  clear hW0 g m n hhs hE hP hρ hk
  cases hs
  · obtain rfl : k = 1 := HK.out.trans ((if_neg (fun h => by cases h.1)).trans (if_neg (fun h => by cases h.1)))
    go_enter Try.func42, Try.ntmps42
    go_upto_region 1 with fail
    rw [← HW.out]
    go_wp2_with fail
    go_ret
    exact ⟨rfl, HB.out⟩
  · by_cases h1 : E < P
    · have t1 : decide (E < P) = true := decide_eq_true h1
      have t1' : decide ((E : Int) < (P : Int)) = true := decide_eq_true (by omega)
      obtain rfl : k = 1 := HK.out.trans ((if_neg (fun h => h.2.elim (fun q => by omega) (fun q => by omega))).trans (if_neg (fun h => by omega)))
      clear h1
      go_enter Try.func42, Try.ntmps42
      go_upto_region 1 with fail
      rw [← HW.out]
      go_wp2_with fail
      go_ret
      exact ⟨rfl, HB.out⟩
    · have t1 : decide (E < P) = false := decide_eq_false h1
      have t1' : decide ((E : Int) < (P : Int)) = false := decide_eq_false (by omega)
      by_cases h2 : E = P
      · subst h2
        by_cases h3 : ρ = r
        · subst h3
          have t3 := eqB_self ρ
          obtain rfl : k = 0 := HK.out.trans (if_pos ⟨rfl, .inr ⟨rfl, rfl⟩⟩)
          clear h1
          go_enter Try.func42, Try.ntmps42
          go_upto_region 1 with fail
          rw [← HW.out]
          go_wp2_with fail
          go_ret
          exact ⟨rfl, HB.out⟩
        · have t3 : eqB ρ r = false := decide_eq_false h3
          obtain rfl : k = 2 := HK.out.trans ((if_neg (fun h => h.2.elim (fun q => by omega) (fun q => h3 q.2))).trans (if_pos ⟨rfl, rfl⟩))
          clear h1 h3
          go_enter Try.func42, Try.ntmps42
          go_upto_region 1 with fail
          rw [← HW.out]
          go_wp2_with fail
          go_ret
          exact ⟨rfl, HB.out⟩
      · have t2 : ((E : Int) == (P : Int)) = false := by rw [beq_eq_false_iff_ne]; omega
        have t2' : (E == P) = false := by rw [beq_eq_false_iff_ne]; exact h2
        have t4 : decide (E = P) = false := decide_eq_false h2
        obtain rfl : k = 0 := HK.out.trans (if_pos ⟨rfl, .inl (by omega)⟩)
        clear h1 h2
        go_enter Try.func42, Try.ntmps42
        go_upto_region 1 with fail
        rw [← HW.out]
        go_wp2_with fail
        go_ret
        exact ⟨rfl, HB.out⟩
theorem enters_voteFate : ∀ args w, (callFunc 42 args).run Try.prog w = .ok (.enter 42 args) w := entersE Try.func42 (by kernel_rfl) (by kernel_rfl)
end Go.Proofs.Ytccihllcohnnnaa
