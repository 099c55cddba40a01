/-
  The laws of layer 1, walked: each returns true, for all words, and makes new memory alone.
-/
import Derived.Test.YtkpikjihmbdjiaaNumR
import Derived.WalkArith
namespace Go.Proofs.Ytkpikjihmbdjiaa
open Go.RowKit

theorem word_of_wf {n : Int} (h : (Lit.int .u64 n).wf = true) : Word n := by
  have h1 : (decide (IntKind.u64.min ≤ n) && decide (n ≤ IntKind.u64.max)) = true := h
  rw [Bool.and_eq_true, decide_eq_true_eq, decide_eq_true_eq, show IntKind.u64.min = 0 from rfl, show IntKind.u64.max = 18446744073709551615 from rfl] at h1
  exact ⟨by omega, by omega⟩

set_option maxHeartbeats 800000 in
theorem awake_any (w : World) :
    Calls Try.prog 11 #[] w fun e w' => e = .returned (.bool true) ∧ Below w.heap.size w w' := by
  have cA := fun w => add_any 2 3 (word_lit 2 (by decide)) (word_lit 3 (by decide)) w
  have cS := fun w => sub_any 2 3 (word_lit 2 (by decide)) (word_lit 3 (by decide)) w
  have cM := fun w => most_any 2 3 (word_lit 2 (by decide)) (word_lit 3 (by decide)) w
  have cN := fun w => most_any 1 3 (word_lit 1 (by decide)) (word_lit 3 (by decide)) w
  have cO := fun w => some_any 1 3 (word_lit 1 (by decide)) (word_lit 3 (by decide)) w
  have cP := fun w => most_any 0 0 (word_lit 0 (by decide)) (word_lit 0 (by decide)) w
  have cU := fun w => up_any 9223372036854775808 9223372036854775808 (word_lit 9223372036854775808 (by decide)) (word_lit 9223372036854775808 (by decide)) w
  rw [show addN 2 3 = 5 by decide, show addB 2 3 = true by decide] at cA
  rw [show subN 2 3 = 0 by decide, show subB 2 3 = false by decide] at cS
  rw [show mostB 2 3 = true by decide] at cM
  rw [show mostB 1 3 = false by decide] at cN
  rw [show someB 1 3 = true by decide] at cO
  rw [show mostB 0 0 = true by decide] at cP
  rw [show upN 9223372036854775808 9223372036854775808 = 18446744073709551615 by decide] at cU
  go_enter Try.func11, Try.ntmps11
  go_wp2_with fail
  refine (cA _).mono ?_
  rintro e w1 ⟨rfl, h1⟩
  go_wp2_with fail
  refine (cS _).mono ?_
  rintro e w2 ⟨rfl, h2⟩
  go_wp2_with fail
  refine (cM _).mono ?_
  rintro e w3 ⟨rfl, h3⟩
  go_wp2_with fail
  refine (cN _).mono ?_
  rintro e w4 ⟨rfl, h4⟩
  go_wp2_with fail
  refine (cO _).mono ?_
  rintro e w5 ⟨rfl, h5⟩
  go_wp2_with fail
  refine (cP _).mono ?_
  rintro e w6 ⟨rfl, h6⟩
  go_wp2_with fail
  refine (cU _).mono ?_
  rintro e w7 ⟨rfl, h7⟩
  go_wp2_with fail
  go_ret
  exact ⟨rfl, belowT (belowT (belowT (belowT (belowT (belowT h1 h2) h3) h4) h5) h6) h7⟩

theorem addN_comm (a b : Int) : addN b a = addN a b := by unfold addN; rw [Int.add_comm]
theorem addB_comm (a b : Int) : addB b a = addB a b := by unfold addB; rw [Int.add_comm]
theorem mulN_comm (a b : Int) : mulN b a = mulN a b := by unfold mulN; rw [Int.mul_comm]
theorem mulB_comm (a b : Int) : mulB b a = mulB a b := by unfold mulB; rw [Int.mul_comm]
theorem upN_comm (a b : Int) : upN b a = upN a b := by unfold upN; rw [Int.add_comm]

set_option maxHeartbeats 800000 in
theorem numOrder_walk (a b : Int) (ha : Word a) (hb : Word b) (w : World) :
    Calls Try.prog 8 #[.int .u64 a, .int .u64 b] w fun e w' => e = .returned (.bool true) ∧ Below w.heap.size w w' := by
  have c1 := fun w => add_any a b ha hb w
  have c2 := fun w => add_any b a hb ha w
  have c3 := fun w => mul_any a b ha hb w
  have c4 := fun w => mul_any b a hb ha w
  have c5 := fun w => up_any a b ha hb w
  have c6 := fun w => up_any b a hb ha w
  rw [addN_comm, addB_comm] at c2
  rw [mulN_comm, mulB_comm] at c4
  rw [upN_comm] at c6
  generalize addN a b = n1 at *
  generalize addB a b = n2 at *
  generalize mulN a b = n3 at *
  generalize mulB a b = n4 at *
  generalize upN a b = n5 at *
  go_enter Try.func8, Try.ntmps8
  go_wp2_with fail
  refine (awake_any _).mono ?_
  rintro e w0 ⟨rfl, h0⟩
  go_wp2_with fail
  refine (c1 _).mono ?_
  rintro e w1 ⟨rfl, h1⟩
  go_wp2_with fail
  refine (c2 _).mono ?_
  rintro e w2 ⟨rfl, h2⟩
  go_wp2_with fail
  refine (c3 _).mono ?_
  rintro e w3 ⟨rfl, h3⟩
  go_wp2_with fail
  refine (c4 _).mono ?_
  rintro e w4 ⟨rfl, h4⟩
  go_wp2_with fail
  refine (c5 _).mono ?_
  rintro e w5 ⟨rfl, h5⟩
  go_wp2_with fail
  refine (c6 _).mono ?_
  rintro e w6 ⟨rfl, h6⟩
  go_wp2_with fail
  go_ret
  exact ⟨rfl, belowT (belowT (belowT (belowT (belowT (belowT h0 h1) h2) h3) h4) h5) h6⟩

end Go.Proofs.Ytkpikjihmbdjiaa
