/-
  Package num, as other packages call it: Down, over natural numbers.
-/
import Derived.Test.YtonfmddjlhgglaaP01Num
namespace Go.Proofs.Ytonfmddjlhgglaa
open Go.RowKit
set_option maxHeartbeats 400000 in
theorem numOr0 (m : Int) (b : Bool) (w : World) :
    Calls Try.prog 39 #[.func (.func 37) #[.agg #[.int .u64 m, .bool b]] #[], .int .u64 0] w fun e w' => e = .returned (.int .u64 (if b = true then m else 0)) ∧ Below w.heap.size w w' := by
  have d := Lib.hid (told_any m b)
  cases b
  · go_enter Try.func39, Try.ntmps39
    go_wp2_with fail
    refine (d.out w).mono ?_
    rintro e w2 ⟨rfl, h2⟩
    go_wp2_with fail
    go_ret
    exact ⟨rfl, h2⟩
  · go_enter Try.func39, Try.ntmps39
    go_wp2_with fail
    refine (d.out w).mono ?_
    rintro e w2 ⟨rfl, h2⟩
    go_wp2_with fail
    go_ret
    exact ⟨rfl, h2⟩
set_option maxHeartbeats 400000 in
/-- num.Down. -/
theorem numDown (a b : Nat) (ha : a < 18446744073709551616) (w : World) :
    Calls Try.prog 34 #[.int .u64 (a : Int), .int .u64 (b : Int)] w fun e w' => e = .returned (.int .u64 (lessV a b : Int)) ∧ Below w.heap.size w w' := by
  have c := Lib.hid (numDiff a b w)
  have d := Lib.hid (numOr0 (IntKind.u64.wrap ((a : Int) - (b : Int))) (lessOk a b))
  rw [less_wrap a b ha] at d
  obtain ⟨m, hm⟩ : ∃ m, m = IntKind.u64.wrap ((a : Int) - (b : Int)) := ⟨_, rfl⟩
  obtain ⟨v, hv⟩ : ∃ v, v = lessV a b := ⟨_, rfl⟩
  obtain ⟨ok, hok⟩ : ∃ x, x = lessOk a b := ⟨_, rfl⟩
  rw [← hm, ← hok] at c
  rw [← hm, ← hv, ← hok] at d
  rw [← hv]
  clear ha hm hv hok
  go_enter Try.func34, Try.ntmps34
  go_wp2_with fail
  refine c.out.mono ?_
  rintro e w1 ⟨rfl, h1⟩
  go_wp2_with fail
  refine (d.out w1).mono ?_
  rintro e w2 ⟨rfl, h2⟩
  go_wp2_with fail
  go_ret
  exact ⟨rfl, belowT h1 h2⟩
theorem enters_numDown : ∀ args w, (callFunc 34 args).run Try.prog w = .ok (.enter 34 args) w := entersE Try.func34 (by kernel_rfl) (by kernel_rfl)
end Go.Proofs.Ytonfmddjlhgglaa
