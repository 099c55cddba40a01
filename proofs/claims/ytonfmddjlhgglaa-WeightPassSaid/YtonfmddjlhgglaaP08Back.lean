/-
  Package weight: backward, over handOn, walked.
-/
import Derived.Test.YtonfmddjlhgglaaP08Hand
namespace Go.Proofs.Ytonfmddjlhgglaa
open Go.RowKit

set_option maxRecDepth 100000 in
set_option maxHeartbeats 4000000 in
theorem backHand (x : Value) (p : Option Addr) (n cp : Nat) (w : World) (R : Nat → World → Prop) (B : World → Prop) (hn : n ≤ 1000)
    (H : ∀ m W, m < n → R (m + 1) W → Calls Try.prog 21 #[x, .int .i64 (m : Int)] W fun e w' => ∃ ok, e = .returned (.bool ok) ∧ (ok = true → R m w') ∧ (ok = false → B w'))
    (h : R n w) :
    Calls Try.prog 20 #[.slice p n cp, .func (.func 21) #[x] #[]] w fun e w' => ∃ v ok, e = .returned (.tuple #[v, .bool ok]) ∧ (ok = true → v = .slice p n cp ∧ R 0 w') ∧ (ok = false → v = .slice none 0 0 ∧ B w') := by
  have HH := Lib.hid H
  have HR := Lib.hid h
  have HN := Lib.hid hn
  clear H h hn
  go_enter Try.func20, Try.ntmps20
  go_wp2_with fail
  go_loopw [6, 9] (fun _ k wr => ∃ j : Nat, j ≤ n ∧ k = .int .i64 (j : Int) ∧ R (n - j) wr) (fun _ k _ => n - (intOf k).toNat)
  case atStart => exact ⟨0, Nat.zero_le _, rfl, HR.out⟩
  case round =>
    obtain ⟨j, hj, rfl, hr⟩ := hrel
    have KR := Lib.hid hr
    clear hr
    by_cases hlt : j < n
    · have i0 : (0 : Int) ≤ (j : Int) := by omega
      have i1 : (j : Int) < (n : Int) := by omega
      have u1 : (j : Int) + 1 < 10000 := by have := HN.out; omega
      have u2 : (n : Int) < 10000 := by have := HN.out; omega
      obtain ⟨m, hm⟩ : ∃ m, m = n - 1 - j := ⟨_, rfl⟩
      have hmi : (n : Int) - 1 - (j : Int) = (m : Int) := by omega
      have HC := Lib.hid (HH.out m wr (by omega) (by rw [show m + 1 = n - j by omega]; exact KR.out))
      have HM : Hid (n - (j + 1) = m) := by show n - (j + 1) = m; omega
      have HL := Lib.hid hlt
      clear hm hlt
      go_wp2_with fail
      refine HC.out.mono ?_
      rintro e w1 ⟨ok, rfl, hy, hz⟩
      have HY := Lib.hid hy
      have HZ := Lib.hid hz
      clear hy hz
      cases ok
      · go_wp2_with fail
        go_ret2
        exact ⟨_, _, rfl, (fun e => by cases e), (fun _ => ⟨rfl, HZ.out (by simp)⟩)⟩
      · go_wp2_with fail
        go_roundw
        case rel => exact ⟨j + 1, HL.out, by go_num, by rw [HM.out]; exact HY.out (by simp)⟩
        case measure => simp [intOf]; have := HL.out; omega
    · obtain rfl : j = n := by omega
      clear hlt
      go_wp2_with fail
      go_ret2
      exact ⟨_, _, rfl, (fun _ => ⟨rfl, by have := KR.out; rwa [Nat.sub_self] at this⟩), (fun e => by cases e)⟩
theorem enters_backHand : ∀ args w, (callFunc 20 args).run Try.prog w = .ok (.enter 20 args) w := entersE Try.func20 (by kernel_rfl) (by kernel_rfl)
end Go.Proofs.Ytonfmddjlhgglaa
