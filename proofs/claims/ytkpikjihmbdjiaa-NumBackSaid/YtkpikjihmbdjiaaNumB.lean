import Derived.Test.YtkpikjihmbdjiaaNum
import Derived.Outline
import Derived.WalkSpells
import Derived.Laws.StructEq
namespace Go.Proofs.Ytkpikjihmbdjiaa
open Go.RowKit

set_option maxHeartbeats 400000 in
theorem told_yes (n : Int) (w : World) :
    Calls Try.prog 27 #[.agg #[.int .u64 n, .bool true]] w fun e w' => e = .returned (.tuple #[.int .u64 n, .bool true]) ∧ Below w.heap.size w w' := by
  go_enter Try.func27, Try.ntmps27
  go_wp2
  go_ret2
  exact ⟨rfl, (Below.refl _ _).alloc (Nat.le_refl _) _⟩

set_option maxHeartbeats 400000 in
theorem told_no (n : Int) (w : World) :
    Calls Try.prog 27 #[.agg #[.int .u64 n, .bool false]] w fun e w' => e = .returned (.tuple #[.int .u64 0, .bool false]) ∧ Below w.heap.size w w' := by
  go_enter Try.func27, Try.ntmps27
  go_wp2
  go_ret2
  exact ⟨rfl, (Below.refl _ _).alloc (Nat.le_refl _) _⟩

@[go_sem] theorem eqWide (a b c d : Int) (w : World) : (Op.equalIn 10000 36 (.agg #[.int .u64 a, .int .u64 b]) (.agg #[.int .u64 c, .int .u64 d])).run Try.prog w = .ok (a == c && b == d) w := by
  have u3 := Try.underlying22
  have a3 := Try.isAgg22
  have z3 := Try.sizeOf22
  rw [show (10000 : Nat) = 9999 + 1 from rfl, Op.equalIn]
  simp only [Sem.run_bind, run_underlying Try.underlying36, Result.andThen_ok]
  simp only [Std.Legacy.Range.forIn_eq_forIn_range', Std.Legacy.Range.size, Nat.sub_zero, Nat.add_sub_cancel, Nat.div_one, List.range'_succ, List.range'_zero, List.forIn_cons, List.forIn_nil]
  go_simp
  by_cases h1 : a = c <;> by_cases h2 : b = d <;> simp [h1, h2]


/-- New blocks alone. -/
theorem below1 (w : World) (o : Obj) : Below w.heap.size w (w.alloc o) := (Below.refl _ _).alloc (Nat.le_refl _) _
theorem belowA {a w : World} (h : Below a.heap.size a w) (o : Obj) : Below a.heap.size a (w.alloc o) := h.alloc h.size _
theorem belowT {a b c : World} (h : Below a.heap.size a b) (k : Below b.heap.size b c) : Below a.heap.size a c := h.trans (k.mono h.size)

set_option maxHeartbeats 400000 in
theorem narrow_yes (l : Int) (w : World) :
    Calls Try.prog 29 #[.agg #[.int .u64 0, .int .u64 l]] w fun e w' => e = .returned (.agg #[.int .u64 l, .bool true]) ∧ ∃ c1 c2, w' = (w.alloc (.cells c1 36)).alloc (.cells c2 32) := by
  go_enter Try.func29, Try.ntmps29
  go_wp2
  exact bodyPost_ret (v := .agg #[.int .u64 l, .bool true]) (by simp [results, Try.results29, go_sem]) rfl ⟨rfl, _, _, rfl⟩

set_option maxHeartbeats 400000 in
theorem narrow_no (h l : Int) (hh : (h == 0) = false) (w : World) :
    Calls Try.prog 29 #[.agg #[.int .u64 h, .int .u64 l]] w fun e w' => e = .returned (.agg #[.int .u64 l, .bool false]) ∧ ∃ c1 c2, w' = (w.alloc (.cells c1 36)).alloc (.cells c2 32) := by
  go_enter Try.func29, Try.ntmps29
  go_wp2
  exact bodyPost_ret (v := .agg #[.int .u64 l, .bool false]) (by simp [results, Try.results29, go_sem]) rfl ⟨rfl, _, _, rfl⟩

set_option maxHeartbeats 400000 in
theorem product_any (a b : Int) (ha : Word a) (hb : Word b) (w : World) :
    Calls Try.prog 30 #[.int .u64 a, .int .u64 b] w fun e w' => e = .returned (.agg #[.int .u64 (a * b / 18446744073709551616), .int .u64 (a * b % 18446744073709551616)]) ∧ Below w.heap.size w w' := by
  go_enter Try.func30, Try.ntmps30
  go_wp2_with (go_at_call 35; refine (mul64 _ _ ha hb _).mono ?_; rintro e w' ⟨rfl, rfl⟩)
  exact bodyPost_ret (v := .agg #[.int .u64 (a * b / 18446744073709551616), .int .u64 (a * b % 18446744073709551616)]) (by simp [results, Try.results30, go_sem]) rfl ⟨rfl, below1 _ _⟩

set_option maxHeartbeats 400000 in
theorem difference_yes (a b : Int) (ha : Word a) (hb : Word b) (h : b ≤ a) (w : World) :
    Calls Try.prog 28 #[.int .u64 a, .int .u64 b] w fun e w' => e = .returned (.agg #[.int .u64 (a - b), .bool true]) ∧ Below w.heap.size w w' := by
  obtain ⟨ha0, ha1⟩ := ha
  obtain ⟨hb0, hb1⟩ := hb
  go_enter Try.func28, Try.ntmps28
  go_wp2
  exact bodyPost_ret (v := .agg #[.int .u64 (a - b), .bool true]) (by simp [results, Try.results28, go_sem]) rfl ⟨rfl, below1 _ _⟩

set_option maxHeartbeats 400000 in
theorem difference_no (a b : Int) (ha : Word a) (hb : Word b) (h : a < b) (w : World) :
    Calls Try.prog 28 #[.int .u64 a, .int .u64 b] w fun e w' => e = .returned (.agg #[.int .u64 (IntKind.u64.wrap (a - b)), .bool false]) ∧ Below w.heap.size w w' := by
  obtain ⟨ha0, ha1⟩ := ha
  obtain ⟨hb0, hb1⟩ := hb
  have h' : ¬ b ≤ a := by omega
  go_enter Try.func28, Try.ntmps28
  go_wp2
  exact bodyPost_ret (v := .agg #[.int .u64 (IntKind.u64.wrap (a - b)), .bool false]) (by simp [results, Try.results28, go_sem]) rfl ⟨rfl, below1 _ _⟩

set_option maxHeartbeats 400000 in
theorem sum_yes (a b : Int) (ha : Word a) (hb : Word b) (h : a + b < 18446744073709551616) (w : World) :
    Calls Try.prog 26 #[.int .u64 a, .int .u64 b] w fun e w' => e = .returned (.agg #[.int .u64 (a + b), .bool true]) ∧ Below w.heap.size w w' := by
  obtain ⟨ha0, ha1⟩ := ha
  obtain ⟨hb0, hb1⟩ := hb
  have e1 : ∀ w : World, (callFunc 34 #[.int .u64 a, .int .u64 b, .int .u64 0]).run Try.prog w = .ok (.value (.tuple #[.int .u64 (a + b), .int .u64 0])) w := fun w => by
    rw [add64_0 a b ha0 hb0 w, show (a + b) % 18446744073709551616 = a + b by omega, show (a + b) / 18446744073709551616 = 0 by omega]
  go_enter Try.func26, Try.ntmps26
  go_wp2_with (go_at_call 29; refine (narrow_yes _ _).mono ?_; rintro e w' ⟨rfl, c1, c2, rfl⟩)
  exact bodyPost_ret (v := .agg #[.int .u64 (a + b), .bool true]) (by simp [results, Try.results26, go_sem]) rfl ⟨rfl, by repeat (first | exact below1 _ _ | refine belowA ?_ _)⟩

set_option maxHeartbeats 400000 in
theorem sum_no (a b : Int) (ha : Word a) (hb : Word b) (h : 18446744073709551616 ≤ a + b) (w : World) :
    Calls Try.prog 26 #[.int .u64 a, .int .u64 b] w fun e w' => e = .returned (.agg #[.int .u64 (a + b - 18446744073709551616), .bool false]) ∧ Below w.heap.size w w' := by
  obtain ⟨ha0, ha1⟩ := ha
  obtain ⟨hb0, hb1⟩ := hb
  have e1 : ∀ w : World, (callFunc 34 #[.int .u64 a, .int .u64 b, .int .u64 0]).run Try.prog w = .ok (.value (.tuple #[.int .u64 (a + b - 18446744073709551616), .int .u64 1])) w := fun w => by
    rw [add64_0 a b ha0 hb0 w, show (a + b) % 18446744073709551616 = a + b - 18446744073709551616 by omega, show (a + b) / 18446744073709551616 = 1 by omega]
  go_enter Try.func26, Try.ntmps26
  go_wp2_with (go_at_call 29; refine (narrow_no _ _ (by decide) _).mono ?_; rintro e w' ⟨rfl, c1, c2, rfl⟩)
  exact bodyPost_ret (v := .agg #[.int .u64 (a + b - 18446744073709551616), .bool false]) (by simp [results, Try.results26, go_sem]) rfl ⟨rfl, by repeat (first | exact below1 _ _ | refine belowA ?_ _)⟩


end Go.Proofs.Ytkpikjihmbdjiaa
