/-
  The laws of layer 1, walked: each returns true, for all words, and makes new memory alone.
-/
import Derived.Test.YtkpikjihmbdjiaaNumW
namespace Go.Proofs.Ytkpikjihmbdjiaa
open Go.RowKit

set_option maxHeartbeats 1600000 in
theorem numCommon_walk (a b c : Int) (ha : Word a) (hb : Word b) (hc : Word c) (w : World) :
    Calls Try.prog 6 #[.int .u64 a, .int .u64 b, .int .u64 c] w fun e w' => e = .returned (.bool true) ∧ Below w.heap.size w w' := by
  obtain ⟨a0, a1⟩ := id ha
  obtain ⟨b0, b1⟩ := id hb
  obtain ⟨k0, k1⟩ := id hc
  by_cases g1 : c < a
  · go_enter Try.func6, Try.ntmps6
    go_wp2_with (first
      | (go_at_call 11; refine (awake_any _).mono ?_; rintro e w1 ⟨rfl, h1⟩)
      | (go_at_call 24; refine (most_any _ _ (by assumption) (by assumption) _).mono ?_; rintro e w1 ⟨rfl, h1⟩)
      | (go_at_call 25; refine (some_any _ _ (by assumption) (by assumption) _).mono ?_; rintro e w1 ⟨rfl, h1⟩))
    go_ret
    exact ⟨rfl, by repeat (first | assumption | refine belowT ?_ (by assumption))⟩
  by_cases g2 : c < b
  · go_enter Try.func6, Try.ntmps6
    go_wp2_with (first
      | (go_at_call 11; refine (awake_any _).mono ?_; rintro e w1 ⟨rfl, h1⟩)
      | (go_at_call 24; refine (most_any _ _ (by assumption) (by assumption) _).mono ?_; rintro e w1 ⟨rfl, h1⟩)
      | (go_at_call 25; refine (some_any _ _ (by assumption) (by assumption) _).mono ?_; rintro e w1 ⟨rfl, h1⟩))
    go_ret
    exact ⟨rfl, by repeat (first | assumption | refine belowT ?_ (by assumption))⟩
  by_cases g3 : 4611686018427387904 < c
  · go_enter Try.func6, Try.ntmps6
    go_wp2_with (first
      | (go_at_call 11; refine (awake_any _).mono ?_; rintro e w1 ⟨rfl, h1⟩)
      | (go_at_call 24; refine (most_any _ _ (by assumption) (by assumption) _).mono ?_; rintro e w1 ⟨rfl, h1⟩)
      | (go_at_call 25; refine (some_any _ _ (by assumption) (by assumption) _).mono ?_; rintro e w1 ⟨rfl, h1⟩))
    go_ret
    exact ⟨rfl, by repeat (first | assumption | refine belowT ?_ (by assumption))⟩
  by_cases g4 : 2 * c ≤ 3 * a
  · have m4 : mostB a c = true := decide_eq_true g4
    by_cases g5 : 2 * c ≤ 3 * b
    · have m5 : mostB b c = true := decide_eq_true g5
      have g6 : c ≤ a + b := by omega
      have m6 : someB (a + b - c) c = true := decide_eq_true (by omega)
      have m7 : Word (a + b - c) := ⟨by omega, by omega⟩
      clear g4 g5
      go_enter Try.func6, Try.ntmps6
      go_wp2_with (first
      | (go_at_call 11; refine (awake_any _).mono ?_; rintro e w1 ⟨rfl, h1⟩)
      | (go_at_call 24; refine (most_any _ _ (by assumption) (by assumption) _).mono ?_; rintro e w1 ⟨rfl, h1⟩)
      | (go_at_call 25; refine (some_any _ _ (by assumption) (by assumption) _).mono ?_; rintro e w1 ⟨rfl, h1⟩))
      go_ret
      exact ⟨rfl, by repeat (first | assumption | refine belowT ?_ (by assumption))⟩
    · have m5 : mostB b c = false := decide_eq_false g5
      clear g4 g5
      go_enter Try.func6, Try.ntmps6
      go_wp2_with (first
      | (go_at_call 11; refine (awake_any _).mono ?_; rintro e w1 ⟨rfl, h1⟩)
      | (go_at_call 24; refine (most_any _ _ (by assumption) (by assumption) _).mono ?_; rintro e w1 ⟨rfl, h1⟩)
      | (go_at_call 25; refine (some_any _ _ (by assumption) (by assumption) _).mono ?_; rintro e w1 ⟨rfl, h1⟩))
      go_ret
      exact ⟨rfl, by repeat (first | assumption | refine belowT ?_ (by assumption))⟩
  · have m4 : mostB a c = false := decide_eq_false g4
    clear g4
    go_enter Try.func6, Try.ntmps6
    go_wp2_with (first
      | (go_at_call 11; refine (awake_any _).mono ?_; rintro e w1 ⟨rfl, h1⟩)
      | (go_at_call 24; refine (most_any _ _ (by assumption) (by assumption) _).mono ?_; rintro e w1 ⟨rfl, h1⟩)
      | (go_at_call 25; refine (some_any _ _ (by assumption) (by assumption) _).mono ?_; rintro e w1 ⟨rfl, h1⟩))
    go_ret
    exact ⟨rfl, by repeat (first | assumption | refine belowT ?_ (by assumption))⟩

theorem up_three (a b c : Int) (ha : Word a) (hc : Word c) : upN (upN a b) c = upN a (upN b c) := by
  obtain ⟨_, _⟩ := ha; obtain ⟨_, _⟩ := hc
  unfold upN
  by_cases h1 : a + b < 18446744073709551616 <;> by_cases h2 : b + c < 18446744073709551616 <;> simp only [h1, h2, if_true, if_false] <;> (split <;> split <;> omega)
theorem word_up (a b : Int) (ha : Word a) (hb : Word b) : Word (upN a b) := by
  obtain ⟨_, _⟩ := ha; obtain ⟨_, _⟩ := hb
  unfold upN Word; split <;> omega

set_option maxHeartbeats 1600000 in
theorem numThree_walk (a b c : Int) (ha : Word a) (hb : Word b) (hc : Word c) (w : World) :
    Calls Try.prog 9 #[.int .u64 a, .int .u64 b, .int .u64 c] w fun e w' => e = .returned (.bool true) ∧ Below w.heap.size w w' := by
  have c1 := fun w => add_any a b ha hb w
  have c3 := fun w => up_any a b ha hb w
  have c4 := fun w => up_any (upN a b) c (word_up a b ha hb) hc w
  have c5 := fun w => up_any b c hb hc w
  have c6 := fun w => up_any a (upN b c) ha (word_up b c hb hc) w
  have hU := up_three a b c ha hc
  rw [← hU] at c6
  clear hU
  generalize upN (upN a b) c = u1 at *
  generalize upN a b = u2 at *
  generalize upN b c = u3 at *
  obtain ⟨a0, a1⟩ := id ha
  obtain ⟨b0, b1⟩ := id hb
  obtain ⟨k0, k1⟩ := id hc
  by_cases hA : a + b < 18446744073709551616
  · rw [show addN a b = a + b from if_pos hA, show addB a b = true from decide_eq_true hA] at c1
    have c2 := fun w => add_any (a + b) c ⟨by omega, by omega⟩ hc w
    by_cases hB : a + b + c < 18446744073709551616
    · rw [show addN (a + b) c = a + b + c from if_pos hB, show addB (a + b) c = true from decide_eq_true hB] at c2
      have c7 := fun w => add_any b c hb hc w
      rw [show addN b c = b + c from if_pos (by omega), show addB b c = true from decide_eq_true (by omega)] at c7
      have c8 := fun w => add_any a (b + c) ha ⟨by omega, by omega⟩ w
      rw [show addN a (b + c) = a + b + c by unfold addN; rw [if_pos (by omega)]; omega, show addB a (b + c) = true from decide_eq_true (by omega)] at c8
      clear hA hB
      go_enter Try.func9, Try.ntmps9
      go_wp2_with fail
      refine (awake_any _).mono ?_
      rintro e w0 ⟨rfl, h0⟩
      go_wp2_with fail
      refine (c1 _).mono ?_
      rintro e w1 ⟨rfl, h1⟩
      go_wp2_with fail
      refine (c2 _).mono ?_
      rintro e w2 ⟨rfl, h2⟩
      go_wp2_with fail
      refine (c3 _).mono ?_
      rintro e w3 ⟨rfl, h3⟩
      go_wp2_with fail
      refine (c4 _).mono ?_
      rintro e w4 ⟨rfl, h4⟩
      go_wp2_with fail
      refine (c5 _).mono ?_
      rintro e w5 ⟨rfl, h5⟩
      go_wp2_with fail
      refine (c6 _).mono ?_
      rintro e w6 ⟨rfl, h6⟩
      go_wp2_with fail
      refine (c7 _).mono ?_
      rintro e w7 ⟨rfl, h7⟩
      go_wp2_with fail
      refine (c8 _).mono ?_
      rintro e w8 ⟨rfl, h8⟩
      go_wp2_with fail
      go_ret
      exact ⟨rfl, by repeat (first | assumption | refine belowT ?_ (by assumption))⟩
    · rw [show addN (a + b) c = 0 from if_neg hB, show addB (a + b) c = false from decide_eq_false hB] at c2
      clear hA hB
      go_enter Try.func9, Try.ntmps9
      go_wp2_with fail
      refine (awake_any _).mono ?_
      rintro e w0 ⟨rfl, h0⟩
      go_wp2_with fail
      refine (c1 _).mono ?_
      rintro e w1 ⟨rfl, h1⟩
      go_wp2_with fail
      refine (c2 _).mono ?_
      rintro e w2 ⟨rfl, h2⟩
      go_wp2_with fail
      refine (c3 _).mono ?_
      rintro e w3 ⟨rfl, h3⟩
      go_wp2_with fail
      refine (c4 _).mono ?_
      rintro e w4 ⟨rfl, h4⟩
      go_wp2_with fail
      refine (c5 _).mono ?_
      rintro e w5 ⟨rfl, h5⟩
      go_wp2_with fail
      refine (c6 _).mono ?_
      rintro e w6 ⟨rfl, h6⟩
      go_wp2_with fail
      go_ret
      exact ⟨rfl, by repeat (first | assumption | refine belowT ?_ (by assumption))⟩
  · rw [show addN a b = 0 from if_neg hA, show addB a b = false from decide_eq_false hA] at c1
    have c2 := fun w => add_any 0 c (word_lit 0 (by decide)) hc w
    generalize addN 0 c = n1 at *
    generalize addB 0 c = n2 at *
    clear hA
    · skip
      go_enter Try.func9, Try.ntmps9
      go_wp2_with fail
      refine (awake_any _).mono ?_
      rintro e w0 ⟨rfl, h0⟩
      go_wp2_with fail
      refine (c1 _).mono ?_
      rintro e w1 ⟨rfl, h1⟩
      go_wp2_with fail
      refine (c2 _).mono ?_
      rintro e w2 ⟨rfl, h2⟩
      go_wp2_with fail
      refine (c3 _).mono ?_
      rintro e w3 ⟨rfl, h3⟩
      go_wp2_with fail
      refine (c4 _).mono ?_
      rintro e w4 ⟨rfl, h4⟩
      go_wp2_with fail
      refine (c5 _).mono ?_
      rintro e w5 ⟨rfl, h5⟩
      go_wp2_with fail
      refine (c6 _).mono ?_
      rintro e w6 ⟨rfl, h6⟩
      go_wp2_with fail
      go_ret
      exact ⟨rfl, by repeat (first | assumption | refine belowT ?_ (by assumption))⟩

set_option maxHeartbeats 1600000 in
theorem numParts_walk (a b c : Int) (ha : Word a) (hb : Word b) (hc : Word c) (w : World) :
    Calls Try.prog 7 #[.int .u64 a, .int .u64 b, .int .u64 c] w fun e w' => e = .returned (.bool true) ∧ Below w.heap.size w w' := by
  obtain ⟨a0, a1⟩ := id ha
  obtain ⟨b0, b1⟩ := id hb
  obtain ⟨k0, k1⟩ := id hc
  have m1 : (mostB a c = true ∧ someB a c = true) ∨ (mostB a c = false ∧ someB a c = true) ∨ (mostB a c = false ∧ someB a c = false) := by
    unfold mostB someB
    by_cases x : 2 * c ≤ 3 * a <;> by_cases y : c ≤ 3 * a <;> simp [x, y] <;> omega
  have m2 : a ≤ b → mostB a c = true → mostB b c = true := by
    unfold mostB; intro x y; rw [decide_eq_true_eq] at *; omega
  have m3 : a ≤ b → someB a c = true → someB b c = true := by
    unfold someB; intro x y; rw [decide_eq_true_eq] at *; omega
  have m4 : ¬ c < a → ¬ c = 0 → mostB a c = true → mostB (c - a) c = false := by
    unfold mostB; intro x y z; rw [decide_eq_true_eq] at z; exact decide_eq_false (by omega)
  have m5 : ¬ c < a → Word (c - a) := fun x => ⟨by omega, by omega⟩
  rcases m1 with ⟨x1, x2⟩ | ⟨x1, x2⟩ | ⟨x1, x2⟩
  all_goals
    by_cases g1 : a ≤ b
    all_goals
      (try have y1 := m2 g1 x1)
      (try have y2 := m3 g1 x2)
      clear m2 m3
      by_cases g2 : c < a
      · clear m4 m5
        go_enter Try.func7, Try.ntmps7
        go_wp2_with (first
      | (go_at_call 11; refine (awake_any _).mono ?_; rintro e w1 ⟨rfl, h1⟩)
      | (go_at_call 24; refine (most_any _ _ (by assumption) (by assumption) _).mono ?_; rintro e w1 ⟨rfl, h1⟩)
      | (go_at_call 25; refine (some_any _ _ (by assumption) (by assumption) _).mono ?_; rintro e w1 ⟨rfl, h1⟩))
        go_ret
        exact ⟨rfl, by repeat (first | assumption | refine belowT ?_ (by assumption))⟩
      have y4 := m5 g2
      by_cases g3 : c = 0
      · have g4 : (c == 0) = true := beq_iff_eq.2 g3
        clear m4 m5 g3
        go_enter Try.func7, Try.ntmps7
        go_wp2_with (first
      | (go_at_call 11; refine (awake_any _).mono ?_; rintro e w1 ⟨rfl, h1⟩)
      | (go_at_call 24; refine (most_any _ _ (by assumption) (by assumption) _).mono ?_; rintro e w1 ⟨rfl, h1⟩)
      | (go_at_call 25; refine (some_any _ _ (by assumption) (by assumption) _).mono ?_; rintro e w1 ⟨rfl, h1⟩))
        go_ret
        exact ⟨rfl, by repeat (first | assumption | refine belowT ?_ (by assumption))⟩
      · have g4 : (c == 0) = false := beq_eq_false_iff_ne.2 g3
        (try have y3 := m4 g2 g3 x1)
        clear m4 m5 g3
        go_enter Try.func7, Try.ntmps7
        go_wp2_with (first
      | (go_at_call 11; refine (awake_any _).mono ?_; rintro e w1 ⟨rfl, h1⟩)
      | (go_at_call 24; refine (most_any _ _ (by assumption) (by assumption) _).mono ?_; rintro e w1 ⟨rfl, h1⟩)
      | (go_at_call 25; refine (some_any _ _ (by assumption) (by assumption) _).mono ?_; rintro e w1 ⟨rfl, h1⟩))
        go_ret
        exact ⟨rfl, by repeat (first | assumption | refine belowT ?_ (by assumption))⟩

end Go.Proofs.Ytkpikjihmbdjiaa
