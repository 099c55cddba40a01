/-
  What the document's own answers for layer 1 (package areopagusref01) are, and what the chapter's examples answer: contracts over this seat's translation.
-/
import Derived.Test.YtkpikjihmbdjiaaNumC
namespace Go.Proofs.Ytkpikjihmbdjiaa
open Go.RowKit

set_option maxHeartbeats 400000 in
theorem refAdd_any (a b : Int) (ha : Word a) (hb : Word b) (w : World) :
    Calls Try.prog 13 #[.int .u64 a, .int .u64 b] w fun e w' => e = .returned (.tuple #[.int .u64 (addN a b), .bool (addB a b)]) ∧ w = w' := by
  obtain ⟨ha0, ha1⟩ := ha
  obtain ⟨hb0, hb1⟩ := hb
  by_cases h : a + b < 18446744073709551616
  · rw [show addN a b = a + b from if_pos h, show addB a b = true from decide_eq_true h]
    have h1 : ¬ 18446744073709551615 - b < a := by omega
    go_enter Try.func13, Try.ntmps13
    go_wp2
    go_ret2
    exact ⟨rfl, rfl⟩
  · rw [show addN a b = 0 from if_neg h, show addB a b = false from decide_eq_false h]
    have h1 : 18446744073709551615 - b < a := by omega
    go_enter Try.func13, Try.ntmps13
    go_wp2
    go_ret2
    exact ⟨rfl, rfl⟩

set_option maxHeartbeats 400000 in
theorem refSub_any (a b : Int) (ha : Word a) (hb : Word b) (w : World) :
    Calls Try.prog 15 #[.int .u64 a, .int .u64 b] w fun e w' => e = .returned (.tuple #[.int .u64 (subN a b), .bool (subB a b)]) ∧ w = w' := by
  obtain ⟨ha0, ha1⟩ := ha
  obtain ⟨hb0, hb1⟩ := hb
  by_cases h : b ≤ a
  · rw [show subN a b = a - b from if_pos h, show subB a b = true from decide_eq_true h]
    have h1 : ¬ a < b := by omega
    go_enter Try.func15, Try.ntmps15
    go_wp2
    go_ret2
    exact ⟨rfl, rfl⟩
  · rw [show subN a b = 0 from if_neg h, show subB a b = false from decide_eq_false h]
    have h1 : a < b := by omega
    go_enter Try.func15, Try.ntmps15
    go_wp2
    go_ret2
    exact ⟨rfl, rfl⟩

set_option maxHeartbeats 400000 in
theorem refUp_any (a b : Int) (ha : Word a) (hb : Word b) (w : World) :
    Calls Try.prog 21 #[.int .u64 a, .int .u64 b] w fun e w' => e = .returned (.int .u64 (upN a b)) ∧ w = w' := by
  obtain ⟨ha0, ha1⟩ := ha
  obtain ⟨hb0, hb1⟩ := hb
  by_cases h : a + b < 18446744073709551616
  · rw [show upN a b = a + b from if_pos h]
    have h1 : ¬ 18446744073709551615 - b < a := by omega
    go_enter Try.func21, Try.ntmps21
    go_wp2
    go_ret
    exact ⟨rfl, rfl⟩
  · rw [show upN a b = 18446744073709551615 from if_neg h]
    have h1 : 18446744073709551615 - b < a := by omega
    go_enter Try.func21, Try.ntmps21
    go_wp2
    go_ret
    exact ⟨rfl, rfl⟩

set_option maxHeartbeats 400000 in
theorem refDown_any (a b : Int) (ha : Word a) (hb : Word b) (w : World) :
    Calls Try.prog 23 #[.int .u64 a, .int .u64 b] w fun e w' => e = .returned (.int .u64 (downN a b)) ∧ w = w' := by
  obtain ⟨ha0, ha1⟩ := ha
  obtain ⟨hb0, hb1⟩ := hb
  by_cases h : b ≤ a
  · rw [show downN a b = a - b from if_pos h]
    have h1 : ¬ a < b := by omega
    go_enter Try.func23, Try.ntmps23
    go_wp2
    go_ret
    exact ⟨rfl, rfl⟩
  · rw [show downN a b = 0 from if_neg h]
    have h1 : a < b := by omega
    go_enter Try.func23, Try.ntmps23
    go_wp2
    go_ret
    exact ⟨rfl, rfl⟩

theorem mul_iff (a b : Int) (ha : 0 < a) : 18446744073709551615 / a < b ↔ ¬ a * b < 18446744073709551616 := by
  rw [Int.ediv_lt_iff_lt_mul ha, Int.mul_comm b a]; omega

set_option maxHeartbeats 400000 in
theorem refMul_any (a b : Int) (ha : Word a) (hb : Word b) (w : World) :
    Calls Try.prog 17 #[.int .u64 a, .int .u64 b] w fun e w' => e = .returned (.tuple #[.int .u64 (mulN a b), .bool (mulB a b)]) ∧ w = w' := by
  have hp := word_mul a b ha hb
  obtain ⟨ha0, ha1⟩ := ha
  obtain ⟨hb0, hb1⟩ := hb
  by_cases h0 : a = 0
  · subst h0
    rw [show mulN 0 b = 0 by unfold mulN; split <;> omega, show mulB 0 b = true from decide_eq_true (by omega)]
    go_enter Try.func17, Try.ntmps17
    go_wp2
    go_ret2
    exact ⟨rfl, rfl⟩
  · have h1 : ((a : Int) != 0) = true := by rw [bne_iff_ne]; exact h0
    have h2 : 1 ≤ a := by omega
    have hi := mul_iff a b (by omega)
    by_cases h : a * b < 18446744073709551616
    · rw [show mulN a b = a * b from if_pos h, show mulB a b = true from decide_eq_true h]
      have h3 : ¬ 18446744073709551615 / a < b := fun x => hi.1 x h
      clear hi h0
      go_enter Try.func17, Try.ntmps17
      go_wp2
      go_ret2
      exact ⟨rfl, rfl⟩
    · rw [show mulN a b = 0 from if_neg h, show mulB a b = false from decide_eq_false h]
      have h3 : 18446744073709551615 / a < b := hi.2 h
      clear hi h0 h hp
      go_enter Try.func17, Try.ntmps17
      go_wp2
      go_ret2
      exact ⟨rfl, rfl⟩

def needN (b : Int) : Int := 2 * (b / 3) + b % 3
theorem needN_iff (a b : Int) : decide (needN b ≤ a) = mostB a b := by
  unfold needN mostB
  by_cases h : 2 * b ≤ 3 * a
  · rw [decide_eq_true h]; exact decide_eq_true (by omega)
  · rw [decide_eq_false h]; exact decide_eq_false (by omega)

set_option maxHeartbeats 400000 in
theorem refNeed_any (b : Int) (hb : Word b) (w : World) :
    Calls Try.prog 31 #[.int .u64 b] w fun e w' => e = .returned (.int .u64 (needN b)) ∧ w = w' := by
  obtain ⟨hb0, hb1⟩ := hb
  rcases (by omega : b % 3 = 0 ∨ b % 3 = 1 ∨ b % 3 = 2) with h | h | h
  · rw [show needN b = 2 * (b / 3) by unfold needN; omega]
    have h1 : (b % 3 == 1) = false := beq_eq_false_iff_ne.2 (by omega)
    have h2 : (b % 3 == 2) = false := beq_eq_false_iff_ne.2 (by omega)
    clear h
    go_enter Try.func31, Try.ntmps31
    go_wp2
    go_ret
    exact ⟨rfl, rfl⟩
  · rw [show needN b = 2 * (b / 3) + 1 by unfold needN; omega]
    have h1 : (b % 3 == 1) = true := beq_iff_eq.2 (by omega)
    clear h
    go_enter Try.func31, Try.ntmps31
    go_wp2
    go_ret
    exact ⟨rfl, rfl⟩
  · rw [show needN b = 2 * (b / 3) + 2 by unfold needN; omega]
    have h1 : (b % 3 == 1) = false := beq_eq_false_iff_ne.2 (by omega)
    have h2 : (b % 3 == 2) = true := beq_iff_eq.2 (by omega)
    clear h
    go_enter Try.func31, Try.ntmps31
    go_wp2
    go_ret
    exact ⟨rfl, rfl⟩

set_option maxHeartbeats 400000 in
theorem refMost_any (a b : Int) (hb : Word b) (w : World) :
    Calls Try.prog 18 #[.int .u64 a, .int .u64 b] w fun e w' => e = .returned (.bool (mostB a b)) ∧ w = w' := by
  rw [← needN_iff a b]
  have c := fun w => refNeed_any b hb w
  generalize needN b = n at *
  go_enter Try.func18, Try.ntmps18
  go_wp2_with fail
  refine (c _).mono ?_
  rintro e w1 ⟨rfl, rfl⟩
  go_wp2_with fail
  go_ret
  exact ⟨by simp, rfl⟩

set_option maxHeartbeats 400000 in
theorem refSome_any (a b : Int) (ha : Word a) (hb : Word b) (w : World) :
    Calls Try.prog 19 #[.int .u64 a, .int .u64 b] w fun e w' => e = .returned (.bool (someB a b)) ∧ w = w' := by
  obtain ⟨ha0, ha1⟩ := ha
  obtain ⟨hb0, hb1⟩ := hb
  by_cases h : b % 3 = 0
  · rw [show someB a b = decide (b / 3 ≤ a) by
      unfold someB
      by_cases k : b / 3 ≤ a
      · rw [decide_eq_true k]; exact decide_eq_true (by omega)
      · rw [decide_eq_false k]; exact decide_eq_false (by omega)]
    have h1 : (b % 3 != 0) = false := by simp [h]
    clear h
    go_enter Try.func19, Try.ntmps19
    go_wp2
    go_ret
    exact ⟨rfl, rfl⟩
  · rw [show someB a b = decide (b / 3 + 1 ≤ a) by
      unfold someB
      by_cases k : b / 3 + 1 ≤ a
      · rw [decide_eq_true k]; exact decide_eq_true (by omega)
      · rw [decide_eq_false k]; exact decide_eq_false (by omega)]
    have h1 : (b % 3 != 0) = true := by rw [bne_iff_ne]; exact h
    clear h
    go_enter Try.func19, Try.ntmps19
    go_wp2
    go_ret
    exact ⟨rfl, rfl⟩

end Go.Proofs.Ytkpikjihmbdjiaa
