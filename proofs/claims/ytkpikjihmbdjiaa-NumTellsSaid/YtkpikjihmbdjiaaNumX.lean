/-
  The laws of layer 1, walked: each returns true, for all words, and makes new memory alone.
-/
import Derived.Test.YtkpikjihmbdjiaaNumW
namespace Go.Proofs.Ytkpikjihmbdjiaa
open Go.RowKit

set_option maxHeartbeats 1600000 in
theorem numTells_walk (a b : Int) (ha : Word a) (hb : Word b) (w : World) :
    Calls Try.prog 3 #[.int .u64 a, .int .u64 b] w fun e w' => e = .returned (.bool true) ∧ Below w.heap.size w w' := by
  have c0 := fun w => awake_any w
  have c1 := fun w => add_any a b ha hb w
  have c2 := fun w => refAdd_any a b ha hb w
  have c3 := fun w => sub_any a b ha hb w
  have c4 := fun w => refSub_any a b ha hb w
  have c5 := fun w => mul_any a b ha hb w
  have c6 := fun w => refMul_any a b ha hb w
  have c7 := fun w => refMost_any a b hb w
  have c8 := fun w => refSome_any a b ha hb w
  have c9 := fun w => up_any a b ha hb w
  have c10 := fun w => refUp_any a b ha hb w
  have c11 := fun w => down_any a b ha hb w
  have c12 := fun w => refDown_any a b ha hb w
  have c13 := fun w => most_any a b ha hb w
  have c14 := fun w => some_any a b ha hb w
  generalize addN a b = n1 at *
  generalize addB a b = n2 at *
  generalize subN a b = n3 at *
  generalize subB a b = n4 at *
  generalize mulN a b = n5 at *
  generalize mulB a b = n6 at *
  generalize mostB a b = n7 at *
  generalize someB a b = n8 at *
  generalize upN a b = n9 at *
  generalize downN a b = n10 at *
  go_enter Try.func3, Try.ntmps3
  go_wp2_with fail
  refine (c0 _).mono ?_
  rintro e w0 ⟨rfl, h0⟩
  go_wp2_with fail
  refine (c1 _).mono ?_
  rintro e w1 ⟨rfl, h1⟩
  go_wp2_with fail
  refine (c2 _).mono ?_
  rintro e w2 ⟨rfl, rfl⟩
  go_wp2_with fail
  refine (c3 _).mono ?_
  rintro e w3 ⟨rfl, h3⟩
  go_wp2_with fail
  refine (c4 _).mono ?_
  rintro e w4 ⟨rfl, rfl⟩
  go_wp2_with fail
  refine (c5 _).mono ?_
  rintro e w5 ⟨rfl, h5⟩
  go_wp2_with fail
  refine (c6 _).mono ?_
  rintro e w6 ⟨rfl, rfl⟩
  go_wp2_with fail
  refine (c7 _).mono ?_
  rintro e w7 ⟨rfl, rfl⟩
  go_wp2_with fail
  refine (c8 _).mono ?_
  rintro e w8 ⟨rfl, rfl⟩
  go_wp2_with fail
  refine (c9 _).mono ?_
  rintro e w9 ⟨rfl, h9⟩
  go_wp2_with fail
  refine (c10 _).mono ?_
  rintro e w10 ⟨rfl, rfl⟩
  go_wp2_with fail
  refine (c11 _).mono ?_
  rintro e w11 ⟨rfl, h11⟩
  go_wp2_with fail
  refine (c12 _).mono ?_
  rintro e w12 ⟨rfl, rfl⟩
  go_wp2_with fail
  refine (c13 _).mono ?_
  rintro e w13 ⟨rfl, h13⟩
  go_wp2_with fail
  refine (c14 _).mono ?_
  rintro e w14 ⟨rfl, h14⟩
  go_wp2_with fail
  go_ret
  exact ⟨rfl, by repeat (first | assumption | refine belowT ?_ (by assumption))⟩

theorem ends_up (a b : Int) (ha : Word a) (hb : Word b) : a ≤ upN a b ∧ b ≤ upN a b := by
  obtain ⟨_, _⟩ := ha; obtain ⟨_, _⟩ := hb
  unfold upN; split <;> omega
theorem ends_down (a b : Int) (ha : Word a) (hb : Word b) : downN a b ≤ a ∧ Word (downN a b) ∧ (0 < downN a b ↔ b < a) ∧ a ≤ upN (downN a b) b := by
  obtain ⟨_, _⟩ := ha; obtain ⟨_, _⟩ := hb
  unfold downN upN Word; split <;> (refine ⟨?_, ⟨?_, ?_⟩, ?_, ?_⟩ <;> (try split) <;> omega)

set_option maxHeartbeats 1600000 in
theorem numEnds_walk (a b : Int) (ha : Word a) (hb : Word b) (w : World) :
    Calls Try.prog 5 #[.int .u64 a, .int .u64 b] w fun e w' => e = .returned (.bool true) ∧ Below w.heap.size w w' := by
  obtain ⟨hu1, hu2⟩ := ends_up a b ha hb
  obtain ⟨hd1, hdw, hd2, hv⟩ := ends_down a b ha hb
  have c0 := fun w => awake_any w
  have c1 := fun w => up_any a b ha hb w
  have c2 := fun w => down_any a b ha hb w
  have c3 := fun w => add_any a b ha hb w
  have c4 := fun w => up_any (downN a b) b hdw hb w
  generalize downN a b = d at *
  generalize upN d b = v at *
  clear hdw
  by_cases hB : b < a
  all_goals
    first
      | have hB2 : 0 < d := hd2.2 hB
      | have hB2 : ¬ 0 < d := fun x => hB (hd2.1 x)
    have hB3 : (decide (0 < d) == decide (b < a)) = true := by rw [beq_iff_eq, decide_eq_decide]; exact hd2
    clear hd2
    by_cases hA : a + b < 18446744073709551616
    · rw [show addN a b = upN a b by unfold addN upN; rw [if_pos hA, if_pos hA], show addB a b = true from decide_eq_true hA] at c3
      clear hA ha hb
      generalize upN a b = u at *
      go_enter Try.func5, Try.ntmps5
      go_wp2_with fail
      refine (c0 _).mono ?_
      rintro e w0 ⟨rfl, h0⟩
      go_wp2_with fail
      refine (c1 _).mono ?_
      rintro e w1 ⟨rfl, h1⟩
      go_wp2_with fail
      refine (c2 _).mono ?_
      rintro e w2 ⟨rfl, h2⟩
      go_wp2_with fail
      refine (c3 _).mono ?_
      rintro e w3 ⟨rfl, h3⟩
      go_wp2_with fail
      refine (c4 _).mono ?_
      rintro e w4 ⟨rfl, h4⟩
      go_wp2_with fail
      go_ret
      exact ⟨rfl, by repeat (first | assumption | refine belowT ?_ (by assumption))⟩
    · rw [show addN a b = 0 from if_neg hA, show addB a b = false from decide_eq_false hA] at c3
      have hz : (upN a b == 0) = false := beq_eq_false_iff_ne.2 (by unfold upN; rw [if_neg hA]; decide)
      clear hA ha hb
      generalize upN a b = u at *
      go_enter Try.func5, Try.ntmps5
      go_wp2_with fail
      refine (c0 _).mono ?_
      rintro e w0 ⟨rfl, h0⟩
      go_wp2_with fail
      refine (c1 _).mono ?_
      rintro e w1 ⟨rfl, h1⟩
      go_wp2_with fail
      refine (c2 _).mono ?_
      rintro e w2 ⟨rfl, h2⟩
      go_wp2_with fail
      refine (c3 _).mono ?_
      rintro e w3 ⟨rfl, h3⟩
      go_wp2_with fail
      refine (c4 _).mono ?_
      rintro e w4 ⟨rfl, h4⟩
      go_wp2_with fail
      go_ret
      exact ⟨rfl, by repeat (first | assumption | refine belowT ?_ (by assumption))⟩

set_option maxHeartbeats 1600000 in
theorem numThirds_walk (n : Int) (hn : Word n) (w : World) :
    Calls Try.prog 10 #[.int .u64 n] w fun e w' => e = .returned (.bool true) ∧ Below w.heap.size w w' := by
  have c0 := fun w => awake_any w
  obtain ⟨hn0, hn1⟩ := hn
  by_cases g1 : n < 1
  · go_enter Try.func10, Try.ntmps10
    go_wp2_with fail
    refine (c0 _).mono ?_
    rintro e w0 ⟨rfl, h0⟩
    go_wp2_with fail
    go_ret
    exact ⟨rfl, h0⟩
  by_cases g2 : 4611686018427387904 < n
  · go_enter Try.func10, Try.ntmps10
    go_wp2_with fail
    refine (c0 _).mono ?_
    rintro e w0 ⟨rfl, h0⟩
    go_wp2_with fail
    go_ret
    exact ⟨rfl, h0⟩
  have c1 := fun w => some_any n (3 * n) ⟨hn0, hn1⟩ ⟨by omega, by omega⟩ w
  have c2 := fun w => some_any (n - 1) (3 * n) ⟨by omega, by omega⟩ ⟨by omega, by omega⟩ w
  have c3 := fun w => most_any (2 * n) (3 * n) ⟨by omega, by omega⟩ ⟨by omega, by omega⟩ w
  have c4 := fun w => most_any (2 * n - 1) (3 * n) ⟨by omega, by omega⟩ ⟨by omega, by omega⟩ w
  rw [show someB n (3 * n) = true from decide_eq_true (by omega)] at c1
  rw [show someB (n - 1) (3 * n) = false from decide_eq_false (by omega)] at c2
  rw [show mostB (2 * n) (3 * n) = true from decide_eq_true (by omega)] at c3
  rw [show mostB (2 * n - 1) (3 * n) = false from decide_eq_false (by omega)] at c4
  go_enter Try.func10, Try.ntmps10
  go_wp2_with fail
  refine (c0 _).mono ?_
  rintro e w0 ⟨rfl, h0⟩
  go_wp2_with fail
  refine (c1 _).mono ?_
  rintro e w1 ⟨rfl, h1⟩
  go_wp2_with fail
  refine (c2 _).mono ?_
  rintro e w2 ⟨rfl, h2⟩
  go_wp2_with fail
  refine (c3 _).mono ?_
  rintro e w3 ⟨rfl, h3⟩
  go_wp2_with fail
  refine (c4 _).mono ?_
  rintro e w4 ⟨rfl, h4⟩
  go_wp2_with fail
  go_ret
  exact ⟨rfl, by repeat (first | assumption | refine belowT ?_ (by assumption))⟩

end Go.Proofs.Ytkpikjihmbdjiaa
