/-
  What the exported functions of package num answer, for all words: contracts over this seat's translation.
-/
import Derived.Test.YtkpikjihmbdjiaaNumB
namespace Go.Proofs.Ytkpikjihmbdjiaa
open Go.RowKit

set_option maxHeartbeats 400000 in
theorem add_any (a b : Int) (ha : Word a) (hb : Word b) (w : World) :
    Calls Try.prog 12 #[.int .u64 a, .int .u64 b] w fun e w' => e = .returned (.tuple #[.int .u64 (addN a b), .bool (addB a b)]) ∧ Below w.heap.size w w' := by
  by_cases h : a + b < 18446744073709551616
  · have c := sum_yes a b ha hb h w
    rw [show addN a b = a + b from if_pos h, show addB a b = true from decide_eq_true h]
    clear h ha hb
    go_enter Try.func12, Try.ntmps12
    go_wp2_with (first
      | (go_at_call 26; refine c.mono ?_; rintro e w1 ⟨rfl, h1⟩)
      | (go_at_call 27; refine (told_yes _ _).mono ?_; rintro e w2 ⟨rfl, h2⟩))
    go_ret2
    exact ⟨rfl, belowT h1 h2⟩
  · have c := sum_no a b ha hb (by omega) w
    rw [show addN a b = 0 from if_neg h, show addB a b = false from decide_eq_false h]
    clear h ha hb
    go_enter Try.func12, Try.ntmps12
    go_wp2_with (first
      | (go_at_call 26; refine c.mono ?_; rintro e w1 ⟨rfl, h1⟩)
      | (go_at_call 27; refine (told_no _ _).mono ?_; rintro e w2 ⟨rfl, h2⟩))
    go_ret2
    exact ⟨rfl, belowT h1 h2⟩

set_option maxHeartbeats 400000 in
theorem sub_any (a b : Int) (ha : Word a) (hb : Word b) (w : World) :
    Calls Try.prog 14 #[.int .u64 a, .int .u64 b] w fun e w' => e = .returned (.tuple #[.int .u64 (subN a b), .bool (subB a b)]) ∧ Below w.heap.size w w' := by
  by_cases h : b ≤ a
  · have c := difference_yes a b ha hb h w
    rw [show subN a b = a - b from if_pos h, show subB a b = true from decide_eq_true h]
    clear h ha hb
    go_enter Try.func14, Try.ntmps14
    go_wp2_with (first
      | (go_at_call 28; refine c.mono ?_; rintro e w1 ⟨rfl, h1⟩)
      | (go_at_call 27; refine (told_yes _ _).mono ?_; rintro e w2 ⟨rfl, h2⟩))
    go_ret2
    exact ⟨rfl, belowT h1 h2⟩
  · have c := difference_no a b ha hb (by omega) w
    rw [show subN a b = 0 from if_neg h, show subB a b = false from decide_eq_false h]
    clear h ha hb
    go_enter Try.func14, Try.ntmps14
    go_wp2_with (first
      | (go_at_call 28; refine c.mono ?_; rintro e w1 ⟨rfl, h1⟩)
      | (go_at_call 27; refine (told_no _ _).mono ?_; rintro e w2 ⟨rfl, h2⟩))
    go_ret2
    exact ⟨rfl, belowT h1 h2⟩

theorem word_mul (a b : Int) (ha : Word a) (hb : Word b) : 0 ≤ a * b := Int.mul_nonneg ha.1 hb.1

set_option maxHeartbeats 400000 in
theorem mul_any (a b : Int) (ha : Word a) (hb : Word b) (w : World) :
    Calls Try.prog 16 #[.int .u64 a, .int .u64 b] w fun e w' => e = .returned (.tuple #[.int .u64 (mulN a b), .bool (mulB a b)]) ∧ Below w.heap.size w w' := by
  have hp := word_mul a b ha hb
  by_cases h : a * b < 18446744073709551616
  · have c := product_any a b ha hb w
    rw [show mulN a b = a * b from if_pos h, show mulB a b = true from decide_eq_true h]
    rw [show a * b / 18446744073709551616 = 0 by omega, show a * b % 18446744073709551616 = a * b by omega] at c
    clear h ha hb hp
    generalize a * b = p at *
    go_enter Try.func16, Try.ntmps16
    go_wp2_with (first
      | (go_at_call 30; refine c.mono ?_; rintro e w1 ⟨rfl, h1⟩)
      | (go_at_call 29; refine (narrow_yes _ _).mono ?_; rintro e w2 ⟨rfl, c1, c2, rfl⟩)
      | (go_at_call 27; refine (told_yes _ _).mono ?_; rintro e w2 ⟨rfl, h2⟩))
    go_ret2
    exact ⟨rfl, belowT (belowA (belowA h1 _) _) h2⟩
  · have c := product_any a b ha hb w
    have hn : (a * b / 18446744073709551616 == 0) = false := beq_eq_false_iff_ne.2 (by omega)
    rw [show mulN a b = 0 from if_neg h, show mulB a b = false from decide_eq_false h]
    clear h ha hb hp
    generalize a * b / 18446744073709551616 = p at *
    generalize a * b % 18446744073709551616 = q at *
    have H := Lib.hid hn
    clear hn
    go_enter Try.func16, Try.ntmps16
    go_wp2_with (first
      | (go_at_call 30; refine c.mono ?_; rintro e w1 ⟨rfl, h1⟩)
      | (go_at_call 29; refine (narrow_no _ _ H.out _).mono ?_; rintro e w2 ⟨rfl, c1, c2, rfl⟩)
      | (go_at_call 27; refine (told_no _ _).mono ?_; rintro e w2 ⟨rfl, h2⟩))
    go_ret2
    exact ⟨rfl, belowT (belowA (belowA h1 _) _) h2⟩

set_option maxHeartbeats 400000 in
theorem or_yes (n z : Int) (w : World) :
    Calls Try.prog 32 #[.func (.func 27) #[.agg #[.int .u64 n, .bool true]] #[], .int .u64 z] w fun e w' => e = .returned (.int .u64 n) ∧ Below w.heap.size w w' := by
  go_enter Try.func32, Try.ntmps32
  go_wp2_with (go_at_call 27; refine (told_yes _ _).mono ?_; rintro e w2 ⟨rfl, h2⟩)
  go_ret
  exact ⟨rfl, h2⟩

set_option maxHeartbeats 400000 in
theorem or_no (n z : Int) (w : World) :
    Calls Try.prog 32 #[.func (.func 27) #[.agg #[.int .u64 n, .bool false]] #[], .int .u64 z] w fun e w' => e = .returned (.int .u64 z) ∧ Below w.heap.size w w' := by
  go_enter Try.func32, Try.ntmps32
  go_wp2_with (go_at_call 27; refine (told_no _ _).mono ?_; rintro e w2 ⟨rfl, h2⟩)
  go_ret
  exact ⟨rfl, h2⟩

set_option maxHeartbeats 400000 in
theorem up_any (a b : Int) (ha : Word a) (hb : Word b) (w : World) :
    Calls Try.prog 20 #[.int .u64 a, .int .u64 b] w fun e w' => e = .returned (.int .u64 (upN a b)) ∧ Below w.heap.size w w' := by
  by_cases h : a + b < 18446744073709551616
  · have c := sum_yes a b ha hb h w
    rw [show upN a b = a + b from if_pos h]
    clear h ha hb
    go_enter Try.func20, Try.ntmps20
    go_wp2_with (first
      | (go_at_call 26; refine c.mono ?_; rintro e w1 ⟨rfl, h1⟩)
      | (go_at_call 32; refine (or_yes _ _ _).mono ?_; rintro e w2 ⟨rfl, h2⟩))
    go_ret
    exact ⟨rfl, belowT h1 h2⟩
  · have c := sum_no a b ha hb (by omega) w
    rw [show upN a b = 18446744073709551615 from if_neg h]
    clear h ha hb
    go_enter Try.func20, Try.ntmps20
    go_wp2_with (first
      | (go_at_call 26; refine c.mono ?_; rintro e w1 ⟨rfl, h1⟩)
      | (go_at_call 32; refine (or_no _ _ _).mono ?_; rintro e w2 ⟨rfl, h2⟩))
    go_ret
    exact ⟨rfl, belowT h1 h2⟩

set_option maxHeartbeats 400000 in
theorem down_any (a b : Int) (ha : Word a) (hb : Word b) (w : World) :
    Calls Try.prog 22 #[.int .u64 a, .int .u64 b] w fun e w' => e = .returned (.int .u64 (downN a b)) ∧ Below w.heap.size w w' := by
  by_cases h : b ≤ a
  · have c := difference_yes a b ha hb h w
    rw [show downN a b = a - b from if_pos h]
    clear h ha hb
    go_enter Try.func22, Try.ntmps22
    go_wp2_with (first
      | (go_at_call 28; refine c.mono ?_; rintro e w1 ⟨rfl, h1⟩)
      | (go_at_call 32; refine (or_yes _ _ _).mono ?_; rintro e w2 ⟨rfl, h2⟩))
    go_ret
    exact ⟨rfl, belowT h1 h2⟩
  · have c := difference_no a b ha hb (by omega) w
    rw [show downN a b = 0 from if_neg h]
    clear h ha hb
    go_enter Try.func22, Try.ntmps22
    go_wp2_with (first
      | (go_at_call 28; refine c.mono ?_; rintro e w1 ⟨rfl, h1⟩)
      | (go_at_call 32; refine (or_no _ _ _).mono ?_; rintro e w2 ⟨rfl, h2⟩))
    go_ret
    exact ⟨rfl, belowT h1 h2⟩

set_option maxHeartbeats 400000 in
theorem noLess_same (ah al : Int) (w : World) :
    Calls Try.prog 33 #[.agg #[.int .u64 ah, .int .u64 al], .agg #[.int .u64 ah, .int .u64 al]] w fun e w' => e = .returned (.bool true) ∧ Below w.heap.size w w' := by
  go_enter Try.func33, Try.ntmps33
  go_wp2
  go_ret
  exact ⟨rfl, belowA (below1 _ _) _⟩

set_option maxHeartbeats 400000 in
theorem noLess_high (ah al bh bl : Int) (h : bh < ah) (w : World) :
    Calls Try.prog 33 #[.agg #[.int .u64 ah, .int .u64 al], .agg #[.int .u64 bh, .int .u64 bl]] w fun e w' => e = .returned (.bool true) ∧ Below w.heap.size w w' := by
  have h1 : (ah == bh) = false := beq_eq_false_iff_ne.2 (by omega)
  go_enter Try.func33, Try.ntmps33
  go_wp2
  go_ret
  exact ⟨rfl, belowA (below1 _ _) _⟩

set_option maxHeartbeats 400000 in
theorem noLess_low (ah al bh bl : Int) (h : ah < bh) (w : World) :
    Calls Try.prog 33 #[.agg #[.int .u64 ah, .int .u64 al], .agg #[.int .u64 bh, .int .u64 bl]] w fun e w' => e = .returned (.bool false) ∧ Below w.heap.size w w' := by
  have h1 : (ah == bh) = false := beq_eq_false_iff_ne.2 (by omega)
  have h2 : ¬ bh < ah := by omega
  go_enter Try.func33, Try.ntmps33
  go_wp2
  go_ret
  exact ⟨rfl, belowA (below1 _ _) _⟩

set_option maxHeartbeats 400000 in
theorem noLess_more (ah al bl : Int) (h : bl < al) (w : World) :
    Calls Try.prog 33 #[.agg #[.int .u64 ah, .int .u64 al], .agg #[.int .u64 ah, .int .u64 bl]] w fun e w' => e = .returned (.bool true) ∧ Below w.heap.size w w' := by
  have h1 : (al == bl) = false := beq_eq_false_iff_ne.2 (by omega)
  go_enter Try.func33, Try.ntmps33
  go_wp2
  go_ret
  exact ⟨rfl, belowA (below1 _ _) _⟩

set_option maxHeartbeats 400000 in
theorem noLess_less (ah al bl : Int) (h : al < bl) (w : World) :
    Calls Try.prog 33 #[.agg #[.int .u64 ah, .int .u64 al], .agg #[.int .u64 ah, .int .u64 bl]] w fun e w' => e = .returned (.bool false) ∧ Below w.heap.size w w' := by
  have h1 : (al == bl) = false := beq_eq_false_iff_ne.2 (by omega)
  have h2 : ¬ bl < al := by omega
  go_enter Try.func33, Try.ntmps33
  go_wp2
  go_ret
  exact ⟨rfl, belowA (below1 _ _) _⟩

def noLessB (ah al bh bl : Int) : Bool := decide (bh < ah ∨ bh = ah ∧ bl ≤ al)

theorem noLess_any (ah al bh bl : Int) (w : World) :
    Calls Try.prog 33 #[.agg #[.int .u64 ah, .int .u64 al], .agg #[.int .u64 bh, .int .u64 bl]] w fun e w' => e = .returned (.bool (noLessB ah al bh bl)) ∧ Below w.heap.size w w' := by
  unfold noLessB
  by_cases h1 : bh < ah
  · rw [decide_eq_true (p := bh < ah ∨ bh = ah ∧ bl ≤ al) (by omega)]
    exact noLess_high _ _ _ _ h1 w
  by_cases h2 : ah < bh
  · rw [decide_eq_false (p := bh < ah ∨ bh = ah ∧ bl ≤ al) (by omega)]
    exact noLess_low _ _ _ _ h2 w
  obtain rfl : ah = bh := by omega
  by_cases h3 : bl < al
  · rw [decide_eq_true (p := ah < ah ∨ ah = ah ∧ bl ≤ al) (by omega)]
    exact noLess_more _ _ _ h3 w
  by_cases h4 : al < bl
  · rw [decide_eq_false (p := ah < ah ∨ ah = ah ∧ bl ≤ al) (by omega)]
    exact noLess_less _ _ _ h4 w
  obtain rfl : al = bl := by omega
  rw [decide_eq_true (p := ah < ah ∨ ah = ah ∧ al ≤ al) (by omega)]
  exact noLess_same _ _ w

theorem word_lit (n : Nat) (h : n < 18446744073709551616) : Word (n : Int) := ⟨by omega, by omega⟩

theorem noLess_words (x y : Int) : noLessB (x / 18446744073709551616) (x % 18446744073709551616) (y / 18446744073709551616) (y % 18446744073709551616) = decide (y ≤ x) := by
  unfold noLessB
  by_cases h : y ≤ x
  · rw [decide_eq_true h]; exact decide_eq_true (by omega)
  · rw [decide_eq_false h]; exact decide_eq_false (by omega)

set_option maxHeartbeats 400000 in
theorem most_any (a b : Int) (ha : Word a) (hb : Word b) (w : World) :
    Calls Try.prog 24 #[.int .u64 a, .int .u64 b] w fun e w' => e = .returned (.bool (mostB a b)) ∧ Below w.heap.size w w' := by
  have c3 := fun w => product_any 3 a (word_lit 3 (by decide)) ha w
  have c2 := fun w => product_any 2 b (word_lit 2 (by decide)) hb w
  have hn := noLess_words (3 * a) (2 * b)
  rw [show mostB a b = decide (2 * b ≤ 3 * a) from rfl, ← hn]
  clear hn ha hb
  generalize 3 * a / 18446744073709551616 = p at *
  generalize 3 * a % 18446744073709551616 = q at *
  generalize 2 * b / 18446744073709551616 = r at *
  generalize 2 * b % 18446744073709551616 = s at *
  go_enter Try.func24, Try.ntmps24
  go_wp2_with fail
  refine (c3 _).mono ?_
  rintro e w1 ⟨rfl, h1⟩
  go_wp2_with fail
  refine (c2 _).mono ?_
  rintro e w2 ⟨rfl, h2⟩
  go_wp2_with fail
  refine (noLess_any _ _ _ _ _).mono ?_
  rintro e w3 ⟨rfl, h3⟩
  go_wp2_with fail
  go_ret
  exact ⟨rfl, belowT (belowT h1 h2) h3⟩

set_option maxHeartbeats 400000 in
theorem some_any (a b : Int) (ha : Word a) (hb : Word b) (w : World) :
    Calls Try.prog 25 #[.int .u64 a, .int .u64 b] w fun e w' => e = .returned (.bool (someB a b)) ∧ Below w.heap.size w w' := by
  have c3 := fun w => product_any 3 a (word_lit 3 (by decide)) ha w
  have hn := noLess_words (3 * a) b
  obtain ⟨hb0, hb1⟩ := hb
  rw [show b / 18446744073709551616 = 0 by omega, show b % 18446744073709551616 = b by omega] at hn
  rw [show someB a b = decide (b ≤ 3 * a) from rfl, ← hn]
  clear hn ha hb0 hb1
  generalize 3 * a / 18446744073709551616 = p at *
  generalize 3 * a % 18446744073709551616 = q at *
  go_enter Try.func25, Try.ntmps25
  go_wp2_with fail
  refine (c3 _).mono ?_
  rintro e w1 ⟨rfl, h1⟩
  go_wp2_with fail
  refine (noLess_any _ _ _ _ _).mono ?_
  rintro e w3 ⟨rfl, h3⟩
  go_wp2_with fail
  go_ret
  exact ⟨rfl, belowT h1 h3⟩

end Go.Proofs.Ytkpikjihmbdjiaa
