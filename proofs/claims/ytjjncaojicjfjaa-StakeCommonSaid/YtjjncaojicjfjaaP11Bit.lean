/-
  Package stake: Bit, and slices.Max of numbers, May: walked.
-/
import Derived.Test.YtjjncaojicjfjaaW11
import Derived.Laws.ShiftsVarLaws
namespace Go.Proofs.Ytjjncaojicjfjaa
open Go.RowKit

set_option maxRecDepth 100000 in
set_option maxHeartbeats 1000000 in
theorem stakeBit : StBitC := fun v w => by
  by_cases h0 : v < 0
  · have t0 : decide (v < 0) = true := decide_eq_true h0
    rw [show bitN v = 0 from if_neg (by omega)]
    clear h0
    go_enter Try.func23, Try.ntmps23
    go_wp2_with fail
    go_ret
    exact ⟨rfl, Below.refl _ _⟩
  · have t0 : decide (v < 0) = false := decide_eq_false h0
    by_cases h1 : 64 ≤ v
    · have t1 : decide (64 ≤ v) = true := decide_eq_true h1
      rw [show bitN v = 0 from if_neg (by omega)]
      clear h0 h1
      go_enter Try.func23, Try.ntmps23
      go_wp2_with fail
      go_ret
      exact ⟨rfl, Below.refl _ _⟩
    · have t1 : decide (64 ≤ v) = false := decide_eq_false h1
      obtain ⟨n, rfl⟩ : ∃ n : Nat, v = n := ⟨v.toNat, by omega⟩
      have hn : n < 64 := by omega
      rw [bitN_nat hn]
      have HX : Hid (IntKind.u64.wrap (1 * 2 ^ min ((n : Int)).toNat 64) = ((2 ^ n : Nat) : Int)) := by
        show _ = _
        have e : min ((n : Int)).toNat 64 = n := by omega
        have : 2 ^ n ≤ 2 ^ 63 := Nat.pow_le_pow_right (by omega) (by omega)
        rw [e, Int.one_mul, show ((2 : Int) ^ n) = ((2 ^ n : Nat) : Int) by simp, IntKind.wrap_u64]
        generalize 2 ^ n = x at *
        omega
      have h2 : (0 : Int) ≤ (n : Int) := by omega
      clear h0 h1 hn
      go_enter Try.func23, Try.ntmps23
      go_wp2_with fail
      go_ret
      exact ⟨by have := HX.out; simpa using this, Below.refl _ _⟩
theorem enters_stakeBit : ∀ args w, (callFunc 23 args).run Try.prog w = .ok (.enter 23 args) w := entersE Try.func23 (by kernel_rfl) (by kernel_rfl)

/-- The greatest of the first n. -/
def mxU (f : Nat → Nat) : Nat → Nat
  | 0 => 0
  | n + 1 => if mxU f n < f n then f n else mxU f n
theorem mxU_le (f : Nat → Nat) (B : Nat) : ∀ n, mxU f n ≤ B ↔ ∀ i, i < n → f i ≤ B
  | 0 => ⟨fun _ i hi => absurd hi (Nat.not_lt_zero _), fun _ => Nat.zero_le _⟩
  | n + 1 => by
    have ih := mxU_le f B n
    simp only [mxU]
    constructor
    · intro h i hi
      split at h
      · rename_i hc
        rcases Nat.lt_succ_iff_lt_or_eq.1 hi with h1 | rfl
        · exact ih.1 (by omega) i h1
        · exact h
      · rename_i hc
        rcases Nat.lt_succ_iff_lt_or_eq.1 hi with h1 | rfl
        · exact ih.1 h i h1
        · omega
    · intro h
      have h1 := ih.2 (fun i hi => h i (by omega))
      have h2 := h n (by omega)
      split <;> omega
theorem mxU_yes {f : Nat → Nat} {n : Nat} (h : mxU f n < f n) : mxU f (n + 1) = f n := if_pos h
theorem mxU_no {f : Nat → Nat} {n : Nat} (h : ¬ mxU f n < f n) : mxU f (n + 1) = mxU f n := if_neg h

set_option maxRecDepth 100000 in
set_option maxHeartbeats 1000000 in
theorem slicesMax_n (p : Option Addr) (n cp : Nat) (l : List UInt64) (w : World) (h : SlE Enum w (.slice p n cp) l) (hl : l.length = n) (h1 : 1 ≤ n) (hn : n ≤ 1000) :
    Calls Try.prog 29 #[.slice p n cp] w fun e w' => e = .returned (.int .u64 (mxU (fn l) n : Int)) ∧ Below w.heap.size w w' := by
  have HS := Lib.hid h
  have HL := Lib.hid hl
  have HN := Lib.hid hn
  have H1 := Lib.hid h1
  have HZ : Hid (mxU (fn l) 1 = fn l 0) := by
    show mxU (fn l) 1 = fn l 0
    by_cases h0 : mxU (fn l) 0 < fn l 0
    · exact mxU_yes h0
    · rw [mxU_no h0]; have : mxU (fn l) 0 = 0 := rfl; omega
  obtain ⟨b1, o1, rfl, q1, x1⟩ := nums_ptr h (by omega)
  have y1 := nums_cell x1 (i := 0) (by omega)
  have t0 : decide ((n : Int) < 1) = false := decide_eq_false (by omega)
  have t0' : decide (n < 1) = false := decide_eq_false (by omega)
  have t0'' : decide (n = 0) = false := decide_eq_false (by omega)
  have i1 : (0 : Int) < (n : Int) := by omega
  have i1' : 0 < n := by omega
  clear h hl hn h1 x1 q1
  simp only [Nat.add_zero] at y1
  go_enter Try.func29, Try.ntmps29
  go_wp2_with fail
  clear y1 t0 t0' t0'' i1 i1'
  go_loopw [3, 4] (fun m i wr => ∃ j : Nat, 1 ≤ j ∧ j ≤ n ∧ i = .int .i64 (j : Int) ∧ m = .int .u64 (mxU (fn l) j : Int) ∧ wr = w) (fun _ i _ => n - (intOf i).toNat)
  case atStart => exact ⟨1, Nat.le_refl _, H1.out, rfl, by rw [HZ.out], rfl⟩
  case round =>
    obtain ⟨j, hj1, hj, rfl, rfl, rfl⟩ := hrel
    have HJ1 := Lib.hid hj1
    clear hj1
    by_cases hlt : j < n
    · have i0 : (0 : Int) ≤ (j : Int) := by omega
      have i1 : (j : Int) < (n : Int) := by omega
      have u1 : (j : Int) + 1 < 10000 := by have := HN.out; omega
      have d0 : decide ((j : Int) < (n : Int)) = true := decide_eq_true i1
      have d0' : decide (j < n) = true := decide_eq_true hlt
      obtain ⟨b1, o1, e1, q1, x1⟩ := nums_ptr HS.out (by have := HL.out; omega)
      cases e1
      have y1 := nums_cell x1 (i := j) (by have := HL.out; omega)
      have HLT := Lib.hid hlt
      by_cases hc : mxU (fn l) j < fn l j
      · have HX := Lib.hid (mxU_yes hc)
        obtain ⟨x, hx⟩ : ∃ x, x = mxU (fn l) j := ⟨_, rfl⟩
        obtain ⟨y, hy⟩ : ∃ y, y = fn l j := ⟨_, rfl⟩
        rw [← hx] at hc
        rw [← hx]
        rw [← hy] at hc y1 HX
        have c1 : (x : Int) < (y : Int) := by omega
        have HC := Lib.hid hc
        clear hlt x1 q1 hx hy
        go_wp2_with fail
        go_roundw
        case rel => exact ⟨j + 1, by have := HJ1.out; omega, HLT.out, by go_num, by rw [HX.out], by first | rfl | trivial⟩
        case measure => simp [intOf]; have := HLT.out; omega
      · have HX := Lib.hid (mxU_no hc)
        obtain ⟨x, hx⟩ : ∃ x, x = mxU (fn l) j := ⟨_, rfl⟩
        obtain ⟨y, hy⟩ : ∃ y, y = fn l j := ⟨_, rfl⟩
        rw [← hx] at hc HX
        rw [← hx]
        rw [← hy] at hc y1
        have c1 : ¬ (x : Int) < (y : Int) := by omega
        have HC := Lib.hid hc
        clear hlt x1 q1 hx hy
        go_wp2_with fail
        go_roundw
        case rel => exact ⟨j + 1, by have := HJ1.out; omega, HLT.out, by go_num, by rw [HX.out], by first | rfl | trivial⟩
        case measure => simp [intOf]; have := HLT.out; omega
    · obtain rfl : j = n := by omega
      clear hlt
      go_wp2_with fail
      go_ret
      exact ⟨rfl, Below.refl _ _⟩
theorem enters_slicesMax : ∀ args w, (callFunc 29 args).run Try.prog w = .ok (.enter 29 args) w := entersE Try.func29 (by kernel_rfl) (by kernel_rfl)

set_option maxRecDepth 100000 in
set_option maxHeartbeats 1000000 in
theorem stakeMay_n (p : Option Addr) (n cp : Nat) (l : List UInt64) (w : World) (h : SlE Enum w (.slice p n cp) l) (hl : l.length = n) :
    Calls Try.prog 16 #[.slice p n cp] w fun e w' => e = .returned (.bool (mayB l)) ∧ Below w.heap.size w w' := by
  by_cases h0 : 0 < n
  · have a0 : decide ((0 : Int) < (n : Int)) = true := decide_eq_true (by omega)
    have a0' : decide (0 < n) = true := decide_eq_true h0
    by_cases h8 : n ≤ 8
    · have a8 : decide ((n : Int) ≤ 8) = true := decide_eq_true (by omega)
      have a8' : decide (n ≤ 8) = true := decide_eq_true h8
      have HM := Lib.hid (slicesMax_n p n cp l w h hl (by omega) (by omega))
      have HE : Hid (mayB l = decide (mxU (fn l) n ≤ 1099511627776)) := by
        show _ = _
        rw [Bool.eq_iff_iff, mayB_iff, decide_eq_true_iff, mxU_le, hl]
        exact ⟨fun h => h.2.2, fun h => ⟨by omega, h8, h⟩⟩
      generalize mxU (fn l) n = m at *
      obtain ⟨r, hr⟩ : ∃ r, r = decide (m ≤ 1099511627776) := ⟨_, rfl⟩
      have d0 : decide ((m : Int) ≤ 1099511627776) = r := by rw [hr]; congr 1; rw [eq_iff_iff]; omega
      have d0' : decide (m ≤ 1099511627776) = r := hr.symm
      rw [HE.out, d0']
      clear h0 h8 h hl hr HE
      go_enter Try.func16, Try.ntmps16
      go_wp2_with fail
      refine HM.out.mono ?_
      rintro e w1 ⟨rfl, g⟩
      go_wp2_with fail
      go_ret
      exact ⟨rfl, g⟩
    · have a8 : decide ((n : Int) ≤ 8) = false := decide_eq_false (by omega)
      have a8' : decide (n ≤ 8) = false := decide_eq_false h8
      rw [show mayB l = false by rw [← Bool.not_eq_true, mayB_iff]; omega]
      clear h0 h8 h hl
      go_enter Try.func16, Try.ntmps16
      go_wp2_with fail
      go_ret
      exact ⟨rfl, Below.refl _ _⟩
  · obtain rfl : n = 0 := by omega
    rw [show mayB l = false by rw [← Bool.not_eq_true, mayB_iff]; omega]
    clear h0 h hl
    go_enter Try.func16, Try.ntmps16
    go_wp2_with fail
    go_ret
    exact ⟨rfl, Below.refl _ _⟩
theorem stakeMay : StMayC := fun v l w h => by
  have k := h
  obtain ⟨p, cp, rfl, _⟩ := slE_shape h
  exact stakeMay_n p _ cp l w k rfl
end Go.Proofs.Ytjjncaojicjfjaa
