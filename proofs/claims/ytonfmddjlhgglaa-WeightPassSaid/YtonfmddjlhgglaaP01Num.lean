/-
  Package num, as other packages call it: Add, Sub, Down, over natural numbers.
-/
import Derived.Test.YtonfmddjlhgglaaR01Add
import Derived.Laws.Bits64b
import Derived.Laws.Externs
namespace Go.Proofs.Ytonfmddjlhgglaa
open Go.RowKit

theorem add64_nat (x y : Nat) (w : World) : (callFunc 40 #[.int .u64 (x : Int), .int .u64 (y : Int), .int .u64 0]).run Try.prog w =
    .ok (.value (.tuple #[.int .u64 (((x + y) % 18446744073709551616 : Nat) : Int), .int .u64 (((x + y) / 18446744073709551616 : Nat) : Int)])) w := by
  rw [run_callFunc_extern Try.func40 (by kernel_rfl) (by kernel_rfl) (by kernel_rfl) (e := add64Entry) (by kernel_rfl), run_add64 (x : Int) (y : Int) 0 (by omega) (by omega) (by omega) (by omega)]
  simp [Result.andThen]

set_option maxHeartbeats 400000 in
theorem told_any (n : Int) (b : Bool) (w : World) :
    Calls Try.prog 37 #[.agg #[.int .u64 n, .bool b]] w fun e w' => e = .returned (.tuple #[.int .u64 (if b = true then n else 0), .bool b]) ∧ Below w.heap.size w w' := by
  cases b
  · go_enter Try.func37, Try.ntmps37
    go_wp2
    go_ret2
    exact ⟨rfl, (Below.refl _ _).alloc (Nat.le_refl _) _⟩
  · go_enter Try.func37, Try.ntmps37
    go_wp2
    go_ret2
    exact ⟨rfl, (Below.refl _ _).alloc (Nat.le_refl _) _⟩

@[go_sem] theorem eqWide (a b c d : Int) (w : World) : (Op.equalIn 10000 67 (.agg #[.int .u64 a, .int .u64 b]) (.agg #[.int .u64 c, .int .u64 d])).run Try.prog w = .ok (a == c && b == d) w := by
  have u3 := Try.underlying33
  have a3 := Try.isAgg33
  have z3 := Try.sizeOf33
  rw [show (10000 : Nat) = 9999 + 1 from rfl, Op.equalIn]
  simp only [Sem.run_bind, run_underlying Try.underlying67, Result.andThen_ok]
  simp only [Std.Legacy.Range.forIn_eq_forIn_range', Std.Legacy.Range.size, Nat.sub_zero, Nat.add_sub_cancel, Nat.div_one, List.range'_succ, List.range'_zero, List.forIn_cons, List.forIn_nil]
  go_simp
  by_cases h1 : a = c <;> by_cases h2 : b = d <;> simp [h1, h2]

set_option maxHeartbeats 400000 in
theorem narrow_yes (l : Int) (w : World) :
    Calls Try.prog 41 #[.agg #[.int .u64 0, .int .u64 l]] w fun e w' => e = .returned (.agg #[.int .u64 l, .bool true]) ∧ ∃ c1 c2, w' = (w.alloc (.cells c1 67)).alloc (.cells c2 60) := by
  go_enter Try.func41, Try.ntmps41
  go_wp2
  exact bodyPost_ret (v := .agg #[.int .u64 l, .bool true]) (by simp [results, Try.results41, go_sem]) rfl ⟨rfl, _, _, rfl⟩

set_option maxHeartbeats 400000 in
theorem narrow_no (h l : Int) (hh : (h == 0) = false) (w : World) :
    Calls Try.prog 41 #[.agg #[.int .u64 h, .int .u64 l]] w fun e w' => e = .returned (.agg #[.int .u64 l, .bool false]) ∧ ∃ c1 c2, w' = (w.alloc (.cells c1 67)).alloc (.cells c2 60) := by
  go_enter Try.func41, Try.ntmps41
  go_wp2
  exact bodyPost_ret (v := .agg #[.int .u64 l, .bool false]) (by simp [results, Try.results41, go_sem]) rfl ⟨rfl, _, _, rfl⟩

set_option maxHeartbeats 400000 in
theorem numSum (a b : Nat) (ha : a < 18446744073709551616) (hb : b < 18446744073709551616) (w : World) :
    Calls Try.prog 36 #[.int .u64 (a : Int), .int .u64 (b : Int)] w fun e w' => e = .returned (.agg #[.int .u64 (((a + b) % 18446744073709551616 : Nat) : Int), .bool (addOk a b)]) ∧ Below w.heap.size w w' := by
  have e1 := fun w : World => add64_nat a b w
  obtain ⟨lo, hlo⟩ : ∃ x, x = (a + b) % 18446744073709551616 := ⟨_, rfl⟩
  obtain ⟨hi, hhi⟩ : ∃ x, x = (a + b) / 18446744073709551616 := ⟨_, rfl⟩
  rw [← hlo] at e1 ⊢
  rw [← hhi] at e1
  by_cases h : a + b < 18446744073709551616
  · rw [show addOk a b = true from decide_eq_true h]
    obtain rfl : hi = 0 := by omega
    clear h ha hb hlo hhi
    go_enter Try.func36, Try.ntmps36
    go_wp2_with fail
    refine (narrow_yes _ _).mono ?_
    rintro e w1 ⟨rfl, c1, c2, rfl⟩
    go_wp2_with fail
    exact bodyPost_ret (v := .agg #[.int .u64 (lo : Int), .bool true]) (by simp [results, Try.results36, go_sem]) rfl ⟨rfl, belowT (belowT below1 below1) below1⟩
  · rw [show addOk a b = false from decide_eq_false h]
    have t0 : ((hi : Int) == 0) = false := beq_eq_false_iff_ne.2 (by omega)
    have T0 := Lib.hid t0
    clear h ha hb hlo hhi t0
    go_enter Try.func36, Try.ntmps36
    go_wp2_with fail
    refine (narrow_no _ _ T0.out _).mono ?_
    rintro e w1 ⟨rfl, c1, c2, rfl⟩
    go_wp2_with fail
    exact bodyPost_ret (v := .agg #[.int .u64 (lo : Int), .bool false]) (by simp [results, Try.results36, go_sem]) rfl ⟨rfl, belowT (belowT below1 below1) below1⟩

set_option maxHeartbeats 400000 in
theorem numDiff (a b : Nat) (w : World) :
    Calls Try.prog 38 #[.int .u64 (a : Int), .int .u64 (b : Int)] w fun e w' => e = .returned (.agg #[.int .u64 (IntKind.u64.wrap ((a : Int) - (b : Int))), .bool (lessOk a b)]) ∧ Below w.heap.size w w' := by
  have t0 : decide ((b : Int) ≤ (a : Int)) = lessOk a b := by unfold lessOk; congr 1; rw [eq_iff_iff]; omega
  have t0' : decide (b ≤ a) = lessOk a b := rfl
  obtain ⟨ok, hok⟩ : ∃ x, x = lessOk a b := ⟨_, rfl⟩
  obtain ⟨d, hd⟩ : ∃ d, d = IntKind.u64.wrap ((a : Int) - (b : Int)) := ⟨_, rfl⟩
  rw [← hok] at t0 t0' ⊢
  rw [← hd]
  have HD := Lib.hid hd
  clear hok hd
  go_enter Try.func38, Try.ntmps38
  go_wp2_with fail
  (try rw [← HD.out])
  exact bodyPost_ret (v := .agg #[.int .u64 d, .bool ok]) (by simp [results, Try.results38, go_sem, HD.out]) rfl ⟨rfl, below1⟩

set_option maxHeartbeats 400000 in
/-- num.Add. -/
theorem numAdd (a b : Nat) (ha : a < 18446744073709551616) (hb : b < 18446744073709551616) (w : World) :
    Calls Try.prog 31 #[.int .u64 (a : Int), .int .u64 (b : Int)] w fun e w' => e = .returned (.tuple #[.int .u64 (addV a b : Int), .bool (addOk a b)]) ∧ Below w.heap.size w w' := by
  have c := Lib.hid (numSum a b ha hb w)
  have d := Lib.hid (told_any (((a + b) % 18446744073709551616 : Nat) : Int) (addOk a b))
  have e1 : (if addOk a b = true then (((a + b) % 18446744073709551616 : Nat) : Int) else 0) = (addV a b : Int) := by
    unfold addOk addV
    by_cases h : a + b < 18446744073709551616
    · rw [if_pos h, if_pos (decide_eq_true h)]; omega
    · rw [if_neg h, if_neg (by rw [decide_eq_true_iff]; exact h)]; rfl
  rw [e1] at d
  obtain ⟨m, hm⟩ : ∃ m, m = (a + b) % 18446744073709551616 := ⟨_, rfl⟩
  obtain ⟨v, hv⟩ : ∃ v, v = addV a b := ⟨_, rfl⟩
  obtain ⟨ok, hok⟩ : ∃ x, x = addOk a b := ⟨_, rfl⟩
  rw [← hm, ← hok] at c
  rw [← hm, ← hv, ← hok] at d
  rw [← hv, ← hok]
  clear e1 ha hb hm hv hok
  go_enter Try.func31, Try.ntmps31
  go_wp2_with fail
  refine c.out.mono ?_
  rintro e w1 ⟨rfl, h1⟩
  go_wp2_with fail
  refine (d.out w1).mono ?_
  rintro e w2 ⟨rfl, h2⟩
  go_wp2_with fail
  go_ret2
  exact ⟨rfl, belowT h1 h2⟩
theorem enters_numAdd : ∀ args w, (callFunc 31 args).run Try.prog w = .ok (.enter 31 args) w := entersE Try.func31 (by kernel_rfl) (by kernel_rfl)

theorem less_wrap (a b : Nat) (ha : a < 18446744073709551616) : (if lessOk a b = true then IntKind.u64.wrap ((a : Int) - (b : Int)) else 0) = (lessV a b : Int) := by
  unfold lessOk lessV
  by_cases h : b ≤ a
  · rw [if_pos h, if_pos (decide_eq_true h), IntKind.wrap_u64]; omega
  · rw [if_neg h, if_neg (by rw [decide_eq_true_iff]; exact h)]; rfl
set_option maxHeartbeats 400000 in
/-- num.Sub. -/
theorem numSub (a b : Nat) (ha : a < 18446744073709551616) (w : World) :
    Calls Try.prog 33 #[.int .u64 (a : Int), .int .u64 (b : Int)] w fun e w' => e = .returned (.tuple #[.int .u64 (lessV a b : Int), .bool (lessOk a b)]) ∧ Below w.heap.size w w' := by
  have c := Lib.hid (numDiff a b w)
  have d := Lib.hid (told_any (IntKind.u64.wrap ((a : Int) - (b : Int))) (lessOk a b))
  rw [less_wrap a b ha] at d
  obtain ⟨m, hm⟩ : ∃ m, m = IntKind.u64.wrap ((a : Int) - (b : Int)) := ⟨_, rfl⟩
  obtain ⟨v, hv⟩ : ∃ v, v = lessV a b := ⟨_, rfl⟩
  obtain ⟨ok, hok⟩ : ∃ x, x = lessOk a b := ⟨_, rfl⟩
  rw [← hm, ← hok] at c
  rw [← hm, ← hv, ← hok] at d
  rw [← hv, ← hok]
  clear ha hm hv hok
  go_enter Try.func33, Try.ntmps33
  go_wp2_with fail
  refine c.out.mono ?_
  rintro e w1 ⟨rfl, h1⟩
  go_wp2_with fail
  refine (d.out w1).mono ?_
  rintro e w2 ⟨rfl, h2⟩
  go_wp2_with fail
  go_ret2
  exact ⟨rfl, belowT h1 h2⟩
theorem enters_numSub : ∀ args w, (callFunc 33 args).run Try.prog w = .ok (.enter 33 args) w := entersE Try.func33 (by kernel_rfl) (by kernel_rfl)
end Go.Proofs.Ytonfmddjlhgglaa
