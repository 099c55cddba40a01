/-
  The document's: is the second one better? walked. (written by wip/gen/ref16.py)
  The document's checkpoints: Has, walked. (written by wip/gen/ref16.py)
  The document's bits: Bit, walked.
  The document's bits: Has, walked.
  The document's balances: May, walked.
-/
import Derived.Test.YtlhnjaeocoafnaaQ14
import Derived.Test.YtlhnjaeocoafnaaQ18
import Derived.Deep.Cut
import Derived.Deep.CutRange
import Derived.Deep.RegionLaw
import Derived.Test.YtlhnjaeocoafnaaQ10
import Derived.Test.YtlhnjaeocoafnaaQ07
namespace Go.Proofs.Ytlhnjaeocoafnaa
open Go.RowKit
set_option maxRecDepth 100000

set_option maxRecDepth 100000 in
set_option maxHeartbeats 8000000 in
theorem ref16Better (a b : Ck) (w : World) :
    Calls Try.prog 44 #[.agg (cc a), .agg (cc b)] w fun e w' => e = .returned (.bool (betC lessR a b)) ∧ Below w.heap.size w w' := by
  have HA := Lib.hid (fun W => ref02Less a.root b.root W)
  obtain ⟨A, hA⟩ : ∃ A, A = a.epoch.toNat := ⟨_, rfl⟩
  obtain ⟨B, hB'⟩ : ∃ B, B = b.epoch.toNat := ⟨_, rfl⟩
  obtain ⟨E1, h1⟩ : ∃ E, E = decide (A < B) := ⟨_, rfl⟩
  obtain ⟨E2, h2⟩ : ∃ E, E = decide (B = A) := ⟨_, rfl⟩
  have HT : Hid (betC lessR a b = (E1 || (E2 && lessR a.root b.root))) := by
    show _ = _
    unfold betC
    rw [h1, h2, hA, hB', show decide (b.epoch = a.epoch) = decide (b.epoch.toNat = a.epoch.toNat) by rw [Bool.eq_iff_iff, decide_eq_true_iff, decide_eq_true_iff]; exact UInt64.toNat_inj.symm]
  rw [HT.out]
  obtain ⟨W0, hW0⟩ : ∃ W0, W0 = (w.alloc (.cells (cc a) 32)).alloc (.cells (cc b) 32) := ⟨_, rfl⟩
  obtain ⟨hB, k0, k1, hz0⟩ := heap2 w _ _ _ _ W0 hW0
  have HB := Lib.hid hB
  have HW := Lib.hid hW0
  have K0 := Lib.hid k0
  have K1 := Lib.hid k1
  have HAe := Lib.hid hA
  have HBe := Lib.hid hB'
  have z0 := cc_rd0_root k0
  have z1 := cc_rd0_root k1
  generalize lessR a.root b.root = r at *
  clear hW0 hB k0 k1 hz0 HT hA hB'
  go_enter Try.func44, Try.ntmps44
  go_upto_region 1 with fail
  rw [← HW.out]
  go_wp2_with fail
  refine (HA.out W0).mono ?_
  rintro e w1 ⟨rfl, g⟩
  have G1 := Lib.hid (belowT HB.out g)
  have y0 := (ck_v (blk_keep g K0.out)).e
  have y1 := (ck_v (blk_keep g K1.out)).e
  rw [← HAe.out] at y0
  rw [← HBe.out] at y1
  have t1 : decide ((A : Int) < (B : Int)) = E1 := by rw [h1]; exact decide_eq_decide.2 (by omega)
  have t1' : decide (A < B) = E1 := h1.symm
  have t2 : ((B : Int) == (A : Int)) = E2 := by rw [h2, Bool.eq_iff_iff, beq_iff_eq, decide_eq_true_iff]; omega
  have t2' : (B == A) = E2 := by rw [h2, Bool.eq_iff_iff, beq_iff_eq, decide_eq_true_iff]
  have t2'' : decide (B = A) = E2 := h2.symm
  clear g z0 z1 h1 h2
  cases E1 <;> cases E2 <;> cases r <;> (
    go_wp2_with fail
    go_ret
    exact ⟨rfl, G1.out⟩)
theorem enters_ref16Better : ∀ args w, (callFunc 44 args).run Try.prog w = .ok (.enter 44 args) w := entersE Try.func44 (by kernel_rfl) (by kernel_rfl)
end Go.Proofs.Ytlhnjaeocoafnaa
namespace Go.Proofs.Ytlhnjaeocoafnaa
open Go.RowKit
set_option maxRecDepth 100000

theorem mem_at {l : List Ck} {c : Ck} : c ∈ l ↔ ∃ i, i < l.length ∧ ckAt l i = c := by
  constructor
  · intro h
    obtain ⟨i, hi, rfl⟩ := List.getElem_of_mem h
    exact ⟨i, hi, ckAt_in hi⟩
  · rintro ⟨i, hi, rfl⟩
    rw [ckAt_in hi]; exact List.getElem_mem hi
set_option maxRecDepth 100000 in
set_option maxHeartbeats 8000000 in
theorem ref16Has_n (p : Option Addr) (n cp : Nat) (l : List Ck) (c : Ck) (w : World) (h : SlE Ecc w (.slice p n cp) l) (hl : l.length = n) (hn : n ≤ 1000) :
    Calls Try.prog 28 #[.slice p n cp, .agg (cc c)] w fun e w' => e = .returned (.bool (decide (c ∈ l))) ∧ Below w.heap.size w w' := by
  obtain ⟨r, hr⟩ : ∃ r, r = decide (c ∈ l) := ⟨_, rfl⟩
  rw [← hr]
  have HR := Lib.hid hr
  have HL := Lib.hid hl
  have HN := Lib.hid hn
  obtain ⟨W0, hW0⟩ : ∃ W0, W0 = w.alloc (.cells (cc c) 32) := ⟨_, rfl⟩
  have HB : Hid (Below w.heap.size w W0) := by show Below _ _ _; rw [hW0]; exact below1
  have HW := Lib.hid hW0
  have HS := Lib.hid (slE_keep HB.out h)
  have hz : W0.heap[w.heap.size]? = some (.cells (cc c) 32 (0, 0)) := by rw [hW0]; exact heap_alloc_last w _
  have HC := Lib.hid hz
  clear h hl hn hr hW0 hz
  go_enter Try.func28, Try.ntmps28
  go_upto_region 1 with fail
  rw [← HW.out]
  go_wp2_with fail
  go_loopw [5] (fun i wr => ∃ j : Nat, j ≤ n ∧ i = .int .i64 (j : Int) ∧ (∀ x, x < j → ckAt l x ≠ c) ∧ Below W0.heap.size W0 wr) (fun i _ => n - (intOf i).toNat)
  case atStart => exact ⟨0, Nat.zero_le _, rfl, fun x hx => absurd hx (Nat.not_lt_zero _), Below.refl _ _⟩
  case round =>
    obtain ⟨j, hj, rfl, hx, hg⟩ := hrel
    have HX := Lib.hid hx
    have HG := Lib.hid hg
    clear hx hg
    by_cases hlt : j < n
    · have i0 : (0 : Int) ≤ (j : Int) := by omega
      have i1 : (j : Int) < (n : Int) := by omega
      have u1 : (j : Int) + 1 < 10000 := by have := HN.out; omega
      have d0 : decide ((j : Int) < (n : Int)) = true := decide_eq_true i1
      have d0' : decide (j < n) = true := decide_eq_true hlt
      have HLT := Lib.hid hlt
      obtain ⟨b1, o1, rfl, _, x1⟩ := ccs_ptr (slE_keep HG.out HS.out) (by have := HL.out; omega)
      have y1 := ccs_ld x1 (i := j) (by have := HL.out; omega)
      have y2 := (ck_v (blk_keep HG.out HC.out)).a
      have HLj := Lib.hid (mem_at (l := l) (c := c))
      clear x1 hlt
      by_cases he : ckAt l j = c
      · have hF : Hid (r = true) := by
          show r = true
          rw [HR.out, decide_eq_true_iff]
          exact HLj.out.2 ⟨j, by rw [HL.out]; exact HLT.out, he⟩
        rw [he] at y1
        clear he
        go_wp2_with fail
        go_quiet (fail)
        go_wp2_with fail
        go_ret
        exact ⟨by rw [hF.out]; first | done | rfl, belowT HB.out (belowD HG.out _)⟩
      · have HE := Lib.hid he
        have t1 : decide (ckAt l j = c) = false := decide_eq_false he
        generalize hq : ckAt l j = La at *
        have HQ := Lib.hid hq
        clear he hq
        go_wp2_with fail
        go_quiet (fail)
        go_wp2_with fail
        go_roundw
        case rel => exact ⟨j + 1, HLT.out, by go_num, (fun x hx => by
          rcases Nat.lt_succ_iff_lt_or_eq.1 hx with h | rfl
          · exact HX.out x h
          · rw [HQ.out]; exact HE.out), belowD HG.out _⟩
        case measure => simp [intOf]; have := HLT.out; omega
    · obtain rfl : j = n := by omega
      have d0 : decide ((j : Int) < (j : Int)) = false := decide_eq_false (Int.lt_irrefl _)
      have d0' : decide (j < j) = false := decide_eq_false (Nat.lt_irrefl _)
      have hF : Hid (r = false) := by
        show r = false
        rw [HR.out, decide_eq_false_iff_not, mem_at]
        rintro ⟨i, hi, e⟩
        exact HX.out i (by rw [← HL.out]; exact hi) e
      clear hlt
      go_wp2_with fail
      go_ret
      exact ⟨by rw [hF.out]; first | done | rfl, belowT HB.out HG.out⟩
theorem ref16Has (v : Value) (l : List Ck) (c : Ck) (w : World) (h : SlE Ecc w v l) (hn : l.length ≤ 1000) :
    Calls Try.prog 28 #[v, .agg (cc c)] w fun e w' => e = .returned (.bool (decide (c ∈ l))) ∧ Below w.heap.size w w' := by
  have k := h
  obtain ⟨p, cp, rfl, _⟩ := slE_shape h
  exact ref16Has_n p _ cp l c w k rfl hn
theorem enters_ref16Has : ∀ args w, (callFunc 28 args).run Try.prog w = .ok (.enter 28 args) w := entersE Try.func28 (by kernel_rfl) (by kernel_rfl)
end Go.Proofs.Ytlhnjaeocoafnaa
namespace Go.Proofs.Ytlhnjaeocoafnaa
open Go.RowKit
set_option maxRecDepth 100000

set_option maxRecDepth 100000 in
set_option maxHeartbeats 1000000 in
theorem ref11Bit (v : Int) (w : World) :
    Calls Try.prog 112 #[.int .i64 v] w fun e w' => e = .returned (.int .u64 (bitN v : Int)) ∧ Below w.heap.size w w' := by
  by_cases h0 : v < 0
  · have t0 : decide (v < 0) = true := decide_eq_true h0
    rw [show bitN v = 0 from if_neg (by omega)]
    clear h0
    go_enter Try.func112, Try.ntmps112
    go_wp2_with fail
    go_ret
    exact ⟨rfl, Below.refl _ _⟩
  · have t0 : decide (v < 0) = false := decide_eq_false h0
    by_cases h1 : 63 < v
    · have t1 : decide (63 < v) = true := decide_eq_true h1
      rw [show bitN v = 0 from if_neg (by omega)]
      clear h0 h1
      go_enter Try.func112, Try.ntmps112
      go_wp2_with fail
      go_ret
      exact ⟨rfl, Below.refl _ _⟩
    · have t1 : decide (63 < v) = false := decide_eq_false h1
      obtain ⟨n, rfl⟩ : ∃ n : Nat, v = n := ⟨v.toNat, by omega⟩
      have hn : n < 64 := by omega
      rw [bitN_nat hn]
      have HN := Lib.hid hn
      obtain ⟨P, hP⟩ : ∃ P : Nat → Nat, P = fun j => 2 ^ j := ⟨_, rfl⟩
      rw [show 2 ^ n = P n by rw [hP]]
      have HP0 : Hid (P 0 = 1) := by show P 0 = 1; rw [hP]
      have HPs : Hid (∀ j, P (j + 1) = 2 * P j) := fun j => by rw [hP]; show 2 ^ (j + 1) = 2 * 2 ^ j; rw [Nat.pow_succ, Nat.mul_comm]
      have HPl : Hid (∀ j, j < 64 → P j < 18446744073709551616) := fun j hj => by rw [hP]; have : 2 ^ j ≤ 2 ^ 63 := Nat.pow_le_pow_right (by omega) (by omega); show 2 ^ j < _; omega
      clear h0 h1 hn hP
      go_enter Try.func112, Try.ntmps112
      go_wp2_with fail
      go_loopw [3, 4] (fun o i wr => ∃ j : Nat, j ≤ n ∧ i = .int .i64 (j : Int) ∧ o = .int .u64 (P j : Int) ∧ wr = w) (fun _ i _ => n - (intOf i).toNat)
      case atStart => exact ⟨0, Nat.zero_le _, rfl, by rw [HP0.out]; rfl, rfl⟩
      case round =>
        obtain ⟨j, hj, rfl, rfl, rfl⟩ := hrel
        by_cases hlt : j < n
        · have d0 : decide ((j : Int) < (n : Int)) = true := decide_eq_true (by omega)
          have d0' : decide (j < n) = true := decide_eq_true hlt
          have u1 : (j : Int) + 1 < 10000 := by have := HN.out; omega
          have hs := HPs.out j
          have hl := HPl.out (j + 1) (by have := HN.out; omega)
          obtain ⟨x, hx⟩ : ∃ x, x = P j := ⟨_, rfl⟩
          rw [← hx] at hs
          rw [← hx]
          have u2 : 2 * (x : Int) < 18446744073709551616 := by omega
          have u3 : 0 ≤ 2 * (x : Int) := by omega
          have HS : Hid ((P (j + 1) : Int) = 2 * (x : Int)) := by show _ = _; omega
          have HLT := Lib.hid hlt
          clear hlt hs hl hx
          go_wp2_with fail
          go_roundw
          case rel => exact ⟨j + 1, HLT.out, by go_num, by rw [HS.out], by first | rfl | trivial⟩
          case measure => simp [intOf]; have := HLT.out; omega
        · obtain rfl : j = n := by omega
          clear hlt
          go_wp2_with fail
          go_ret
          exact ⟨rfl, Below.refl _ _⟩
theorem enters_ref11Bit : ∀ args w, (callFunc 112 args).run Try.prog w = .ok (.enter 112 args) w := entersE Try.func112 (by kernel_rfl) (by kernel_rfl)

end Go.Proofs.Ytlhnjaeocoafnaa
namespace Go.Proofs.Ytlhnjaeocoafnaa
open Go.RowKit
set_option maxRecDepth 100000

set_option maxRecDepth 100000 in
set_option maxHeartbeats 1000000 in
theorem ref11Has (mask : UInt64) (v : Int) (w : World) :
    Calls Try.prog 106 #[.int .u64 (mask.toNat : Int), .int .i64 v] w fun e w' => e = .returned (.bool (hasZ mask v)) ∧ Below w.heap.size w w' := by
  have HB := Lib.hid (fun W => ref11Bit v W)
  by_cases h : 0 ≤ v ∧ v ≤ 63
  · obtain ⟨n, rfl⟩ : ∃ n : Nat, v = n := ⟨v.toNat, by omega⟩
    have hn : n < 64 := by omega
    rw [bitN_nat hn] at HB
    rw [hasZ_nat hn, has_div]
    have hp : 0 < 2 ^ n := Nat.two_pow_pos n
    obtain ⟨m, hm⟩ : ∃ m, m = mask.toNat := ⟨_, rfl⟩
    have hml : m < 18446744073709551616 := by rw [hm]; exact mask.toNat_lt
    rw [← hm]
    obtain ⟨b, hb⟩ : ∃ b, b = 2 ^ n := ⟨_, rfl⟩
    rw [← hb] at hp HB
    rw [← hb]
    have t0 : decide ((0 : Int) < (b : Int)) = true := decide_eq_true (by omega)
    have t0' : decide (0 < b) = true := decide_eq_true hp
    obtain ⟨q, hq⟩ : ∃ q, q = m / b := ⟨_, rfl⟩
    have hql : q < 18446744073709551616 := by rw [hq]; exact Nat.lt_of_le_of_lt (Nat.div_le_self _ _) hml
    rw [← hq]
    have eq : (m : Int) / (b : Int) = (q : Int) := by rw [hq]; exact (Int.natCast_ediv m b).symm
    have b0 : ¬ (b : Int) = 0 := by omega
    have b0' : ¬ b = 0 := by omega
    have b1 : ((b : Int) == 0) = false := by rw [beq_eq_false_iff_ne]; omega
    have b1' : (b == 0) = false := by rw [beq_eq_false_iff_ne]; omega
    have eq' : Int.tdiv (m : Int) (b : Int) = (q : Int) := by rw [Int.tdiv_eq_ediv_of_nonneg (by omega)]; exact eq
    have HQ2 : Hid (((q : Int) % 2 == 1) = decide (q % 2 = 1)) := by show _ = _; rw [Bool.eq_iff_iff, beq_iff_eq, decide_eq_true_iff]; omega
    clear h hn hm hb hp hq eq
    go_enter Try.func106, Try.ntmps106
    go_wp2_with fail
    refine (HB.out _).mono ?_
    rintro e w1 ⟨rfl, g⟩
    go_wp2_with fail
    go_ret
    exact ⟨by show Ending.returned (.bool ((q : Int) % 2 == 1)) = _; rw [HQ2.out], g⟩
  · rw [show bitN v = 0 from if_neg h] at HB
    rw [show hasZ mask v = false by unfold hasZ; rw [decide_eq_false h]; rfl]
    clear h
    go_enter Try.func106, Try.ntmps106
    go_wp2_with fail
    refine (HB.out _).mono ?_
    rintro e w1 ⟨rfl, g⟩
    go_wp2_with fail
    go_ret
    exact ⟨rfl, g⟩
theorem ref11HasN (mask : UInt64) {v : Nat} (hv : v < 64) (w : World) :
    Calls Try.prog 106 #[.int .u64 (mask.toNat : Int), .int .i64 (v : Int)] w fun e w' => e = .returned (.bool (hasB mask v)) ∧ Below w.heap.size w w' := by
  have := ref11Has mask (v : Int) w
  rwa [hasZ_nat hv] at this
end Go.Proofs.Ytlhnjaeocoafnaa
namespace Go.Proofs.Ytlhnjaeocoafnaa
open Go.RowKit
set_option maxRecDepth 100000

set_option maxRecDepth 100000 in
set_option maxHeartbeats 1000000 in
theorem ref11May_n (p : Option Addr) (n cp : Nat) (l : List UInt64) (w : World) (h : SlE Enum w (.slice p n cp) l) (hl : l.length = n) (hn : n ≤ 1152921504606846976) :
    Calls Try.prog 66 #[.slice p n cp] w fun e w' => e = .returned (.bool (mayB l)) ∧ Below w.heap.size w w' := by
  have HS := Lib.hid h
  have HL := Lib.hid hl
  have HN := Lib.hid hn
  obtain ⟨r, hr⟩ : ∃ r, r = mayB l := ⟨_, rfl⟩
  rw [← hr]
  have HR := Lib.hid hr
  clear h hl hn hr
  go_enter Try.func66, Try.ntmps66
  go_wp2_with fail
  go_loopw [3] (fun i wr => ∃ j : Nat, j ≤ n ∧ i = .int .i64 (j : Int) ∧ (∀ x, x < j → fn l x ≤ 1099511627776) ∧ wr = w) (fun i _ => n - (intOf i).toNat)
  case atStart => exact ⟨0, Nat.zero_le _, rfl, fun x hx => absurd hx (Nat.not_lt_zero _), rfl⟩
  case round =>
    obtain ⟨j, hj, rfl, hx, rfl⟩ := hrel
    have HX := Lib.hid hx
    clear hx
    by_cases hlt : j < n
    · have i0 : (0 : Int) ≤ (j : Int) := by omega
      have i1 : (j : Int) < (n : Int) := by omega
      have u1 : (j : Int) + 1 < 1152921504606846980 := by have := HN.out; omega
      obtain ⟨b1, o1, rfl, q1, x1⟩ := nums_ptr HS.out (by have := HL.out; omega)
      have y1 := nums_cell x1 (i := j) (by have := HL.out; omega)
      have HLT := Lib.hid hlt
      obtain ⟨y, hy⟩ : ∃ y, y = fn l j := ⟨_, rfl⟩
      rw [← hy] at y1
      have HY := Lib.hid hy
      clear x1 q1 hlt hy
      by_cases hb : 1099511627776 < y
      · have t0 : decide ((1099511627776 : Int) < (y : Int)) = true := decide_eq_true (by omega)
        have t0' : decide (1099511627776 < y) = true := decide_eq_true hb
        have hF : Hid (r = false) := by show r = false; rw [HR.out, ← Bool.not_eq_true]; intro e; have := (mayB_iff.1 e).2.2 j (by rw [HL.out]; exact HLT.out); rw [← HY.out] at this; omega
        clear hb
        go_wp2_with fail
        go_ret
        exact ⟨by rw [hF.out]; first | done | rfl, Below.refl _ _⟩
      · have t0 : decide ((1099511627776 : Int) < (y : Int)) = false := decide_eq_false (by omega)
        have t0' : decide (1099511627776 < y) = false := decide_eq_false hb
        have HB : Hid (y ≤ 1099511627776) := by show _ ≤ _; omega
        clear hb
        go_wp2_with fail
        go_roundw
        case rel => exact ⟨j + 1, HLT.out, by go_num, (fun x hx => by
          rcases Nat.lt_succ_iff_lt_or_eq.1 hx with h | rfl
          · exact HX.out x h
          · rw [← HY.out]; exact HB.out), by first | rfl | trivial⟩
        case measure => simp [intOf]; have := HLT.out; omega
    · obtain rfl : j = n := by omega
      clear hlt
      by_cases h1 : 1 ≤ j
      · have t1 : decide ((1 : Int) ≤ (j : Int)) = true := decide_eq_true (by omega)
        have t1' : decide (1 ≤ j) = true := decide_eq_true h1
        by_cases h8 : j ≤ 8
        · have t2 : decide ((j : Int) ≤ 8) = true := decide_eq_true (by omega)
          have t2' : decide (j ≤ 8) = true := decide_eq_true h8
          have hF : Hid (r = true) := by show r = true; rw [HR.out]; exact mayB_iff.2 ⟨by rw [HL.out]; exact h1, by rw [HL.out]; exact h8, fun i hi => HX.out i (by rw [← HL.out]; exact hi)⟩
          clear h1 h8
          go_wp2_with fail
          go_ret
          exact ⟨by rw [hF.out]; first | done | rfl, Below.refl _ _⟩
        · have t2 : decide ((j : Int) ≤ 8) = false := decide_eq_false (by omega)
          have t2' : decide (j ≤ 8) = false := decide_eq_false h8
          have hF : Hid (r = false) := by show r = false; rw [HR.out, ← Bool.not_eq_true]; intro e; have := (mayB_iff.1 e).2.1; rw [HL.out] at this; omega
          clear h1 h8
          go_wp2_with fail
          go_ret
          exact ⟨by rw [hF.out]; first | done | rfl, Below.refl _ _⟩
      · have t1 : decide ((1 : Int) ≤ (j : Int)) = false := decide_eq_false (by omega)
        have t1' : decide (1 ≤ j) = false := decide_eq_false h1
        have hF : Hid (r = false) := by show r = false; rw [HR.out, ← Bool.not_eq_true]; intro e; have := (mayB_iff.1 e).1; rw [HL.out] at this; omega
        clear h1
        go_wp2_with fail
        go_ret
        exact ⟨by rw [hF.out]; first | done | rfl, Below.refl _ _⟩
theorem ref11May (v : Value) (l : List UInt64) (w : World) (h : SlE Enum w v l) (hn : l.length ≤ 1152921504606846976) :
    Calls Try.prog 66 #[v] w fun e w' => e = .returned (.bool (mayB l)) ∧ Below w.heap.size w w' := by
  have k := h
  obtain ⟨p, cp, rfl, _⟩ := slE_shape h
  exact ref11May_n p _ cp l w k rfl hn
theorem enters_ref11May : ∀ args w, (callFunc 66 args).run Try.prog w = .ok (.enter 66 args) w := entersE Try.func66 (by kernel_rfl) (by kernel_rfl)

end Go.Proofs.Ytlhnjaeocoafnaa
