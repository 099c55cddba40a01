/-
  Which of two roots is less: the program's root.Less and the document's own, walked; in any seat that holds both.
-/
import Derived.Test.YtjmpgphoiehdmaaRoot
import Derived.Test.YtjmpgphoiehdmaaAgg
import Derived.Test.YtjmpgphoiehdmaaLex
import Derived.Test.YtjmpgphoiehdmaaEl
import Derived.Test.YtjmpgphoiehdmaaRt
import Derived.Outline
import Derived.Deep.QuietTactic
import Derived.BigQuiet
import Derived.Lib.Hide
namespace Go.Proofs.Ytjmpgphoiehdmaa
open Go.RowKit

theorem lessB2 {w : World} {a b : Obj} : Below w.heap.size w ((w.alloc a).alloc b) := ((Below.refl _ _).alloc (Nat.le_refl _) _).alloc (by simp) _
set_option maxHeartbeats 1000000 in
theorem rootLess (a b : Rt) (w : World) :
    Calls Try.prog 21 #[.agg (rc a), .agg (rc b)] w fun e w' => e = .returned (.bool (lessR a b)) ∧ Below w.heap.size w w' := by
  have hsa := rc_size a
  have hsb := rc_size b
  go_enter Try.func21, Try.ntmps21
  go_wp2
  go_loopw [6] (fun i wr => ∃ k n : Nat, k ≤ 32 ∧ i = .int .i64 k ∧ lessR a b = lessFrom a b k ∧ wr = ((w.alloc (.cells (rc a) 41)).alloc (.cells (rc b) 41)).drewN n) (fun i _ => 32 - (intOf i).toNat)
  case atStart => exact ⟨0, 0, by omega, rfl, rfl, rfl⟩
  case round =>
    obtain ⟨k, n, hk, rfl, hl, rfl⟩ := hrel
    have HL := Lib.hid hl; clear hl
    by_cases hlt : k < 32
    · have i0 : (0 : Int) ≤ (k : Int) := by omega
      have i1 : (k : Int) < 32 := by omega
      by_cases hs : at8 a k = at8 b k
      · have e : (at8 a k != at8 b k) = false := by simp [hs]
        have HE := Lib.hid (lessFrom_same a b k hlt hs); clear hs
        go_wp2
        go_quiet (fail)
        go_wp2
        go_roundw
        case rel => exact ⟨k + 1, _, by omega, by go_num, by rw [HL.out, HE.out], rfl⟩
        case measure => simp [intOf]; omega
      · have e : (at8 a k != at8 b k) = true := by simp [hs]
        have HE := Lib.hid (lessFrom_other a b k hlt hs); clear hs
        go_wp2
        go_quiet (fail)
        go_wp2
        go_quiet (fail)
        go_wp2
        go_ret
        exact ⟨by rw [HL.out, HE.out]; rfl, belowD (belowD (belowD lessB2 _) _) _⟩
    · obtain rfl : k = 32 := by omega
      go_wp2
      go_ret
      exact ⟨by rw [HL.out, lessFrom_end]; rfl, belowD lessB2 _⟩

theorem enters_rootLess : ∀ args w, (callFunc 21 args).run Try.prog w = .ok (.enter 21 args) w := entersE Try.func21 (by kernel_rfl) (by kernel_rfl)
set_option maxHeartbeats 1000000 in
theorem ref02Less (a b : Rt) (w : World) :
    Calls Try.prog 29 #[.agg (rc a), .agg (rc b)] w fun e w' => e = .returned (.bool (lessR a b)) ∧ Below w.heap.size w w' := by
  have hsa := rc_size a
  have hsb := rc_size b
  go_enter Try.func29, Try.ntmps29
  go_wp2
  go_loopw [5] (fun i wr => ∃ k n : Nat, k ≤ 32 ∧ i = .int .i64 k ∧ lessR a b = lessFrom a b k ∧ wr = ((w.alloc (.cells (rc a) 41)).alloc (.cells (rc b) 41)).drewN n) (fun i _ => 32 - (intOf i).toNat)
  case atStart => exact ⟨0, 0, by omega, rfl, rfl, rfl⟩
  case round =>
    obtain ⟨k, n, hk, rfl, hl, rfl⟩ := hrel
    have HL := Lib.hid hl; clear hl
    by_cases hlt : k < 32
    · have i0 : (0 : Int) ≤ (k : Int) := by omega
      have i1 : (k : Int) < 32 := by omega
      by_cases hs : at8 a k = at8 b k
      · have e : (at8 a k != at8 b k) = false := by simp [hs]
        have HE := Lib.hid (lessFrom_same a b k hlt hs); clear hs
        go_wp2
        go_quiet (fail)
        go_wp2
        go_roundw
        case rel => exact ⟨k + 1, _, by omega, by go_num, by rw [HL.out, HE.out], rfl⟩
        case measure => simp [intOf]; omega
      · have e : (at8 a k != at8 b k) = true := by simp [hs]
        have HE := Lib.hid (lessFrom_other a b k hlt hs); clear hs
        go_wp2
        go_quiet (fail)
        go_wp2
        go_quiet (fail)
        go_wp2
        go_ret
        exact ⟨by rw [HL.out, HE.out]; rfl, belowD (belowD (belowD lessB2 _) _) _⟩
    · obtain rfl : k = 32 := by omega
      go_wp2
      go_ret
      exact ⟨by rw [HL.out, lessFrom_end]; rfl, belowD lessB2 _⟩

theorem enters_ref02Less : ∀ args w, (callFunc 29 args).run Try.prog w = .ok (.enter 29 args) w := entersE Try.func29 (by kernel_rfl) (by kernel_rfl)
theorem strict_less : (∀ a : Rt, lessR a a = false) ∧ (∀ a b c : Rt, lessR a b = true → lessR b c = true → lessR a c = true) ∧ (∀ a b : Rt, a ≠ b → lessR a b = true ∨ lessR b a = true) := by
  refine ⟨lessR_irrefl, fun a b c h k => lessR_trans h k, fun a b hab => ?_⟩
  cases h : lessR a b
  · cases k : lessR b a
    · exact absurd (lessR_tri h k) hab
    · exact .inr rfl
  · exact .inl rfl
end Go.Proofs.Ytjmpgphoiehdmaa
