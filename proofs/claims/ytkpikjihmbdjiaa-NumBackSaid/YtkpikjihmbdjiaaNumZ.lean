/-
  The law NumBack of layer 1, walked: it returns true, for all words, and makes new memory alone.
-/
import Derived.Test.YtkpikjihmbdjiaaNumW
namespace Go.Proofs.Ytkpikjihmbdjiaa
open Go.RowKit

theorem back_words (a b : Int) (ha : Word a) (hb : Word b) : Word (addN a b) ∧ Word (subN a b) := by
  obtain ⟨_, _⟩ := ha; obtain ⟨_, _⟩ := hb
  unfold addN subN Word; split <;> split <;> omega
theorem back_wrap (a b : Int) (ha : Word a) (hb : Word b) : decide (a ≤ IntKind.u64.wrap (a + b)) = addB a b := by
  obtain ⟨_, _⟩ := ha; obtain ⟨_, _⟩ := hb
  rw [IntKind.wrap_u64]
  unfold addB
  by_cases h : a + b < 18446744073709551616
  · rw [decide_eq_true h]; exact decide_eq_true (by omega)
  · rw [decide_eq_false h]; exact decide_eq_false (by omega)

set_option maxHeartbeats 3200000 in
theorem numBack_walk (a b : Int) (ha : Word a) (hb : Word b) (w : World) :
    Calls Try.prog 4 #[.int .u64 a, .int .u64 b] w fun e w' => e = .returned (.bool true) ∧ Below w.heap.size w w' := by
  obtain ⟨z1, z2⟩ := back_words a b ha hb
  have c1 := fun w => add_any a b ha hb w
  have c2 := fun w => sub_any a b ha hb w
  have c3 := fun w => mul_any a b ha hb w
  have c4 := fun w => sub_any (addN a b) b z1 hb w
  have c5 := fun w => add_any (subN a b) b z2 hb w
  have hp := word_mul a b ha hb
  have hw := back_wrap a b ha hb
  clear z1 z2
  obtain ⟨a0, a1⟩ := id ha
  obtain ⟨b0, b1⟩ := id hb
  have m0 : ¬ a * b < 18446744073709551616 → (a == 0) = false ∧ (b == 0) = false := by
    intro h
    constructor
    · rw [beq_eq_false_iff_ne]; rintro rfl; rw [Int.zero_mul] at h; omega
    · rw [beq_eq_false_iff_ne]; rintro rfl; rw [Int.mul_zero] at h; omega
  have m1 : a ≠ 0 → IntKind.u64.wrap ((a * b).tdiv a) = b ∧ a * b % a = 0 ∧ (a * b).tmod a = 0 := fun h => by
    refine ⟨?_, Int.mul_emod_right a b, ?_⟩
    · rw [Int.tdiv_eq_ediv_of_nonneg hp, Int.mul_ediv_cancel_left b h, IntKind.wrap_u64]; omega
    · rw [Int.tmod_eq_emod_of_nonneg hp]; exact Int.mul_emod_right a b
  by_cases hA : a + b < 18446744073709551616
  · rw [show addN a b = a + b from if_pos hA] at c1 c4
    rw [show addB a b = true from decide_eq_true hA] at c1
    rw [show subN (a + b) b = a by unfold subN; rw [if_pos (by omega)]; omega, show subB (a + b) b = true from decide_eq_true (by omega)] at c4
    clear hw
    by_cases hB : b ≤ a
    · rw [show subN a b = a - b from if_pos hB] at c2 c5
      rw [show subB a b = true from decide_eq_true hB] at c2
      rw [show addN (a - b) b = a by unfold addN; rw [if_pos (by omega)]; omega, show addB (a - b) b = true from decide_eq_true (by omega)] at c5
      by_cases hC : a * b < 18446744073709551616
      · rw [show mulN a b = a * b from if_pos hC, show mulB a b = true from decide_eq_true hC] at c3
        clear m0 hC
        by_cases h0 : a = 0
        · have g0 : (a == 0) = true := beq_iff_eq.2 h0
          clear m1 h0
          generalize a * b = p at *
          go_enter Try.func4, Try.ntmps4
          go_wp2_with fail
          refine (awake_any _).mono ?_
          rintro e w0 ⟨rfl, h0⟩
          go_wp2_with fail
          refine (c1 _).mono ?_
          rintro e w1 ⟨rfl, h1⟩
          go_wp2_with fail
          refine (c2 _).mono ?_
          rintro e w2 ⟨rfl, h2⟩
          go_wp2_with fail
          refine (c3 _).mono ?_
          rintro e w3 ⟨rfl, h3⟩
          go_wp2_with fail
          refine (c4 _).mono ?_
          rintro e w4 ⟨rfl, h4⟩
          go_wp2_with fail
          refine (c5 _).mono ?_
          rintro e w5 ⟨rfl, h5⟩
          go_wp2_with fail
          go_ret
          exact ⟨rfl, by repeat (first | assumption | refine belowT ?_ (by assumption))⟩
        · have g0 : (a == 0) = false := beq_eq_false_iff_ne.2 h0
          have g1 : 1 ≤ a := by omega
          obtain ⟨m2, m3, m4⟩ := m1 h0
          clear m1 h0
          generalize a * b = p at *
          go_enter Try.func4, Try.ntmps4
          go_wp2_with fail
          refine (awake_any _).mono ?_
          rintro e w0 ⟨rfl, h0⟩
          go_wp2_with fail
          refine (c1 _).mono ?_
          rintro e w1 ⟨rfl, h1⟩
          go_wp2_with fail
          refine (c2 _).mono ?_
          rintro e w2 ⟨rfl, h2⟩
          go_wp2_with fail
          refine (c3 _).mono ?_
          rintro e w3 ⟨rfl, h3⟩
          go_wp2_with fail
          refine (c4 _).mono ?_
          rintro e w4 ⟨rfl, h4⟩
          go_wp2_with fail
          refine (c5 _).mono ?_
          rintro e w5 ⟨rfl, h5⟩
          go_wp2_with fail
          go_ret
          exact ⟨rfl, by repeat (first | assumption | refine belowT ?_ (by assumption))⟩
      · rw [show mulN a b = 0 from if_neg hC, show mulB a b = false from decide_eq_false hC] at c3
        obtain ⟨m2, m3⟩ := m0 hC
        clear m0 m1 hC hp
        go_enter Try.func4, Try.ntmps4
        go_wp2_with fail
        refine (awake_any _).mono ?_
        rintro e w0 ⟨rfl, h0⟩
        go_wp2_with fail
        refine (c1 _).mono ?_
        rintro e w1 ⟨rfl, h1⟩
        go_wp2_with fail
        refine (c2 _).mono ?_
        rintro e w2 ⟨rfl, h2⟩
        go_wp2_with fail
        refine (c3 _).mono ?_
        rintro e w3 ⟨rfl, h3⟩
        go_wp2_with fail
        refine (c4 _).mono ?_
        rintro e w4 ⟨rfl, h4⟩
        go_wp2_with fail
        refine (c5 _).mono ?_
        rintro e w5 ⟨rfl, h5⟩
        go_wp2_with fail
        go_ret
        exact ⟨rfl, by repeat (first | assumption | refine belowT ?_ (by assumption))⟩
    · rw [show subN a b = 0 from if_neg hB, show subB a b = false from decide_eq_false hB] at c2
      clear c5
      by_cases hC : a * b < 18446744073709551616
      · rw [show mulN a b = a * b from if_pos hC, show mulB a b = true from decide_eq_true hC] at c3
        clear m0 hC
        by_cases h0 : a = 0
        · have g0 : (a == 0) = true := beq_iff_eq.2 h0
          clear m1 h0
          generalize a * b = p at *
          go_enter Try.func4, Try.ntmps4
          go_wp2_with fail
          refine (awake_any _).mono ?_
          rintro e w0 ⟨rfl, h0⟩
          go_wp2_with fail
          refine (c1 _).mono ?_
          rintro e w1 ⟨rfl, h1⟩
          go_wp2_with fail
          refine (c2 _).mono ?_
          rintro e w2 ⟨rfl, h2⟩
          go_wp2_with fail
          refine (c3 _).mono ?_
          rintro e w3 ⟨rfl, h3⟩
          go_wp2_with fail
          refine (c4 _).mono ?_
          rintro e w4 ⟨rfl, h4⟩
          go_wp2_with fail
          go_ret
          exact ⟨rfl, by repeat (first | assumption | refine belowT ?_ (by assumption))⟩
        · have g0 : (a == 0) = false := beq_eq_false_iff_ne.2 h0
          have g1 : 1 ≤ a := by omega
          obtain ⟨m2, m3, m4⟩ := m1 h0
          clear m1 h0
          generalize a * b = p at *
          go_enter Try.func4, Try.ntmps4
          go_wp2_with fail
          refine (awake_any _).mono ?_
          rintro e w0 ⟨rfl, h0⟩
          go_wp2_with fail
          refine (c1 _).mono ?_
          rintro e w1 ⟨rfl, h1⟩
          go_wp2_with fail
          refine (c2 _).mono ?_
          rintro e w2 ⟨rfl, h2⟩
          go_wp2_with fail
          refine (c3 _).mono ?_
          rintro e w3 ⟨rfl, h3⟩
          go_wp2_with fail
          refine (c4 _).mono ?_
          rintro e w4 ⟨rfl, h4⟩
          go_wp2_with fail
          go_ret
          exact ⟨rfl, by repeat (first | assumption | refine belowT ?_ (by assumption))⟩
      · rw [show mulN a b = 0 from if_neg hC, show mulB a b = false from decide_eq_false hC] at c3
        obtain ⟨m2, m3⟩ := m0 hC
        clear m0 m1 hC hp
        go_enter Try.func4, Try.ntmps4
        go_wp2_with fail
        refine (awake_any _).mono ?_
        rintro e w0 ⟨rfl, h0⟩
        go_wp2_with fail
        refine (c1 _).mono ?_
        rintro e w1 ⟨rfl, h1⟩
        go_wp2_with fail
        refine (c2 _).mono ?_
        rintro e w2 ⟨rfl, h2⟩
        go_wp2_with fail
        refine (c3 _).mono ?_
        rintro e w3 ⟨rfl, h3⟩
        go_wp2_with fail
        refine (c4 _).mono ?_
        rintro e w4 ⟨rfl, h4⟩
        go_wp2_with fail
        go_ret
        exact ⟨rfl, by repeat (first | assumption | refine belowT ?_ (by assumption))⟩
  · rw [show addN a b = 0 from if_neg hA, show addB a b = false from decide_eq_false hA] at c1
    rw [show addB a b = false from decide_eq_false hA] at hw
    clear c4
    by_cases hB : b ≤ a
    · rw [show subN a b = a - b from if_pos hB] at c2 c5
      rw [show subB a b = true from decide_eq_true hB] at c2
      rw [show addN (a - b) b = a by unfold addN; rw [if_pos (by omega)]; omega, show addB (a - b) b = true from decide_eq_true (by omega)] at c5
      by_cases hC : a * b < 18446744073709551616
      · rw [show mulN a b = a * b from if_pos hC, show mulB a b = true from decide_eq_true hC] at c3
        clear m0 hC
        by_cases h0 : a = 0
        · have g0 : (a == 0) = true := beq_iff_eq.2 h0
          clear m1 h0
          generalize a * b = p at *
          go_enter Try.func4, Try.ntmps4
          go_wp2_with fail
          refine (awake_any _).mono ?_
          rintro e w0 ⟨rfl, h0⟩
          go_wp2_with fail
          refine (c1 _).mono ?_
          rintro e w1 ⟨rfl, h1⟩
          go_wp2_with fail
          refine (c2 _).mono ?_
          rintro e w2 ⟨rfl, h2⟩
          go_wp2_with fail
          refine (c3 _).mono ?_
          rintro e w3 ⟨rfl, h3⟩
          go_wp2_with fail
          refine (c5 _).mono ?_
          rintro e w4 ⟨rfl, h4⟩
          go_wp2_with fail
          go_ret
          exact ⟨rfl, by repeat (first | assumption | refine belowT ?_ (by assumption))⟩
        · have g0 : (a == 0) = false := beq_eq_false_iff_ne.2 h0
          have g1 : 1 ≤ a := by omega
          obtain ⟨m2, m3, m4⟩ := m1 h0
          clear m1 h0
          generalize a * b = p at *
          go_enter Try.func4, Try.ntmps4
          go_wp2_with fail
          refine (awake_any _).mono ?_
          rintro e w0 ⟨rfl, h0⟩
          go_wp2_with fail
          refine (c1 _).mono ?_
          rintro e w1 ⟨rfl, h1⟩
          go_wp2_with fail
          refine (c2 _).mono ?_
          rintro e w2 ⟨rfl, h2⟩
          go_wp2_with fail
          refine (c3 _).mono ?_
          rintro e w3 ⟨rfl, h3⟩
          go_wp2_with fail
          refine (c5 _).mono ?_
          rintro e w4 ⟨rfl, h4⟩
          go_wp2_with fail
          go_ret
          exact ⟨rfl, by repeat (first | assumption | refine belowT ?_ (by assumption))⟩
      · rw [show mulN a b = 0 from if_neg hC, show mulB a b = false from decide_eq_false hC] at c3
        obtain ⟨m2, m3⟩ := m0 hC
        clear m0 m1 hC hp
        go_enter Try.func4, Try.ntmps4
        go_wp2_with fail
        refine (awake_any _).mono ?_
        rintro e w0 ⟨rfl, h0⟩
        go_wp2_with fail
        refine (c1 _).mono ?_
        rintro e w1 ⟨rfl, h1⟩
        go_wp2_with fail
        refine (c2 _).mono ?_
        rintro e w2 ⟨rfl, h2⟩
        go_wp2_with fail
        refine (c3 _).mono ?_
        rintro e w3 ⟨rfl, h3⟩
        go_wp2_with fail
        refine (c5 _).mono ?_
        rintro e w4 ⟨rfl, h4⟩
        go_wp2_with fail
        go_ret
        exact ⟨rfl, by repeat (first | assumption | refine belowT ?_ (by assumption))⟩
    · rw [show subN a b = 0 from if_neg hB, show subB a b = false from decide_eq_false hB] at c2
      clear c5
      by_cases hC : a * b < 18446744073709551616
      · rw [show mulN a b = a * b from if_pos hC, show mulB a b = true from decide_eq_true hC] at c3
        clear m0 hC
        by_cases h0 : a = 0
        · have g0 : (a == 0) = true := beq_iff_eq.2 h0
          clear m1 h0
          generalize a * b = p at *
          go_enter Try.func4, Try.ntmps4
          go_wp2_with fail
          refine (awake_any _).mono ?_
          rintro e w0 ⟨rfl, h0⟩
          go_wp2_with fail
          refine (c1 _).mono ?_
          rintro e w1 ⟨rfl, h1⟩
          go_wp2_with fail
          refine (c2 _).mono ?_
          rintro e w2 ⟨rfl, h2⟩
          go_wp2_with fail
          refine (c3 _).mono ?_
          rintro e w3 ⟨rfl, h3⟩
          go_wp2_with fail
          go_ret
          exact ⟨rfl, by repeat (first | assumption | refine belowT ?_ (by assumption))⟩
        · have g0 : (a == 0) = false := beq_eq_false_iff_ne.2 h0
          have g1 : 1 ≤ a := by omega
          obtain ⟨m2, m3, m4⟩ := m1 h0
          clear m1 h0
          generalize a * b = p at *
          go_enter Try.func4, Try.ntmps4
          go_wp2_with fail
          refine (awake_any _).mono ?_
          rintro e w0 ⟨rfl, h0⟩
          go_wp2_with fail
          refine (c1 _).mono ?_
          rintro e w1 ⟨rfl, h1⟩
          go_wp2_with fail
          refine (c2 _).mono ?_
          rintro e w2 ⟨rfl, h2⟩
          go_wp2_with fail
          refine (c3 _).mono ?_
          rintro e w3 ⟨rfl, h3⟩
          go_wp2_with fail
          go_ret
          exact ⟨rfl, by repeat (first | assumption | refine belowT ?_ (by assumption))⟩
      · rw [show mulN a b = 0 from if_neg hC, show mulB a b = false from decide_eq_false hC] at c3
        obtain ⟨m2, m3⟩ := m0 hC
        clear m0 m1 hC hp
        go_enter Try.func4, Try.ntmps4
        go_wp2_with fail
        refine (awake_any _).mono ?_
        rintro e w0 ⟨rfl, h0⟩
        go_wp2_with fail
        refine (c1 _).mono ?_
        rintro e w1 ⟨rfl, h1⟩
        go_wp2_with fail
        refine (c2 _).mono ?_
        rintro e w2 ⟨rfl, h2⟩
        go_wp2_with fail
        refine (c3 _).mono ?_
        rintro e w3 ⟨rfl, h3⟩
        go_wp2_with fail
        go_ret
        exact ⟨rfl, by repeat (first | assumption | refine belowT ?_ (by assumption))⟩

end Go.Proofs.Ytkpikjihmbdjiaa
