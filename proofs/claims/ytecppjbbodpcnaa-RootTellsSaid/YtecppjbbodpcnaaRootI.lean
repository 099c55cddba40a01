/-
  The laws RootOrder and RootDigits, walked.
-/
import Derived.Test.YtecppjbbodpcnaaRootH
namespace Go.Proofs.Ytecppjbbodpcnaa
open Go.RowKit

theorem less_b (a b : Rt) (W : World) : Calls Try.prog 16 #[.agg (rc a), .agg (rc b)] W fun e w' => e = .returned (.bool (lessR a b)) ∧ Below W.heap.size W w' := by
  refine (less_any a b W).mono ?_
  rintro e w' ⟨rfl, n, os, rfl⟩
  exact ⟨rfl, below_grow _ _ _⟩

set_option maxRecDepth 100000 in
set_option maxHeartbeats 2000000 in
theorem rootOrder_walk (a b c : Rt) (w : World) :
    Calls Try.prog 5 #[.agg (rc a), .agg (rc b), .agg (rc c)] w fun e w' => e = .returned (.bool true) ∧ Below w.heap.size w w' := by
  have cx := fun W => less_b a b W
  have cy := fun W => less_b b a W
  have cu := fun W => less_b b c W
  have cv := fun W => less_b a c W
  have hcase : (lessR a b = true ∧ lessR b a = false ∧ eqB a b = false) ∨ (lessR a b = false ∧ lessR b a = true ∧ eqB a b = false) ∨ (lessR a b = false ∧ lessR b a = false ∧ eqB a b = true) := by
    cases h1 : lessR a b
    · cases h2 : lessR b a
      · right; right
        have := lessR_tri h1 h2
        subst this
        exact ⟨rfl, rfl, eqB_self a⟩
      · right; left
        refine ⟨rfl, rfl, ?_⟩
        unfold eqB
        rw [decide_eq_false_iff_not]
        rintro rfl
        rw [lessR_irrefl] at h2; cases h2
    · left
      refine ⟨rfl, lessR_asymm h1, ?_⟩
      unfold eqB
      rw [decide_eq_false_iff_not]
      rintro rfl
      rw [lessR_irrefl] at h1; cases h1
  have htr : lessR a b = true → lessR b c = true → lessR a c = true := fun h k => lessR_trans h k
  rcases hcase with ⟨h1, h2, h3⟩ | ⟨h1, h2, h3⟩ | ⟨h1, h2, h3⟩
  · cases h4 : lessR b c
    · clear htr cv
      rw [h1] at cx; rw [h2] at cy; rw [h4] at cu
      clear h1 h2 h4
      go_enter Try.func5, Try.ntmps5
      go_wp2_with fail
      refine (awake_any _).mono ?_
      rintro e w0 ⟨rfl, g0⟩
      have a0 : ldA w0 (.pointer (some ⟨w.heap.size, 0, none⟩)) 32 = some (rc a) := keep g0 (by go_simp)
      have b0 : ldA w0 (.pointer (some ⟨w.heap.size + 1, 0, none⟩)) 32 = some (rc b) := keep g0 (by go_simp)
      have c0 : ldA w0 (.pointer (some ⟨w.heap.size + 1 + 1, 0, none⟩)) 32 = some (rc c) := keep g0 (by go_simp)
      go_wp2_with fail
      refine (cx _).mono ?_
      rintro e w1 ⟨rfl, g1⟩
      have a1 := keep g1 a0
      have b1 := keep g1 b0
      have c1 := keep g1 c0
      go_wp2_with fail
      refine (cy _).mono ?_
      rintro e w2 ⟨rfl, g2⟩
      have a2 := keep g2 a1
      have b2 := keep g2 b1
      have c2 := keep g2 c1
      go_wp2_with fail
      refine (cu _).mono ?_
      rintro e w3 ⟨rfl, g3⟩
      go_wp2_with fail
      go_ret
      exact ⟨rfl, belowT (belowT (belowT (belowT (belowA (belowA (belowA (Below.refl _ _) _) _) _) g0) g1) g2) g3⟩
    · rw [htr h1 h4] at cv
      clear htr
      rw [h1] at cx; rw [h2] at cy; rw [h4] at cu
      clear h1 h2 h4
      go_enter Try.func5, Try.ntmps5
      go_wp2_with fail
      refine (awake_any _).mono ?_
      rintro e w0 ⟨rfl, g0⟩
      have a0 : ldA w0 (.pointer (some ⟨w.heap.size, 0, none⟩)) 32 = some (rc a) := keep g0 (by go_simp)
      have b0 : ldA w0 (.pointer (some ⟨w.heap.size + 1, 0, none⟩)) 32 = some (rc b) := keep g0 (by go_simp)
      have c0 : ldA w0 (.pointer (some ⟨w.heap.size + 1 + 1, 0, none⟩)) 32 = some (rc c) := keep g0 (by go_simp)
      go_wp2_with fail
      refine (cx _).mono ?_
      rintro e w1 ⟨rfl, g1⟩
      have a1 := keep g1 a0
      have b1 := keep g1 b0
      have c1 := keep g1 c0
      go_wp2_with fail
      refine (cy _).mono ?_
      rintro e w2 ⟨rfl, g2⟩
      have a2 := keep g2 a1
      have b2 := keep g2 b1
      have c2 := keep g2 c1
      go_wp2_with fail
      refine (cu _).mono ?_
      rintro e w3 ⟨rfl, g3⟩
      have a3 := keep g3 a2
      have c3 := keep g3 c2
      go_wp2_with fail
      refine (cv _).mono ?_
      rintro e w4 ⟨rfl, g4⟩
      go_wp2_with fail
      go_ret
      exact ⟨rfl, belowT (belowT (belowT (belowT (belowT (belowA (belowA (belowA (Below.refl _ _) _) _) _) g0) g1) g2) g3) g4⟩
  · clear htr cu cv
    rw [h1] at cx; rw [h2] at cy
    clear h1 h2
    · skip
      go_enter Try.func5, Try.ntmps5
      go_wp2_with fail
      refine (awake_any _).mono ?_
      rintro e w0 ⟨rfl, g0⟩
      have a0 : ldA w0 (.pointer (some ⟨w.heap.size, 0, none⟩)) 32 = some (rc a) := keep g0 (by go_simp)
      have b0 : ldA w0 (.pointer (some ⟨w.heap.size + 1, 0, none⟩)) 32 = some (rc b) := keep g0 (by go_simp)
      have c0 : ldA w0 (.pointer (some ⟨w.heap.size + 1 + 1, 0, none⟩)) 32 = some (rc c) := keep g0 (by go_simp)
      go_wp2_with fail
      refine (cx _).mono ?_
      rintro e w1 ⟨rfl, g1⟩
      have a1 := keep g1 a0
      have b1 := keep g1 b0
      have c1 := keep g1 c0
      go_wp2_with fail
      refine (cy _).mono ?_
      rintro e w2 ⟨rfl, g2⟩
      have a2 := keep g2 a1
      have b2 := keep g2 b1
      have c2 := keep g2 c1
      go_wp2_with fail
      go_ret
      exact ⟨rfl, belowT (belowT (belowT (belowA (belowA (belowA (Below.refl _ _) _) _) _) g0) g1) g2⟩
  · clear htr cu cv
    rw [h1] at cx; rw [h2] at cy
    clear h1 h2
    · skip
      go_enter Try.func5, Try.ntmps5
      go_wp2_with fail
      refine (awake_any _).mono ?_
      rintro e w0 ⟨rfl, g0⟩
      have a0 : ldA w0 (.pointer (some ⟨w.heap.size, 0, none⟩)) 32 = some (rc a) := keep g0 (by go_simp)
      have b0 : ldA w0 (.pointer (some ⟨w.heap.size + 1, 0, none⟩)) 32 = some (rc b) := keep g0 (by go_simp)
      have c0 : ldA w0 (.pointer (some ⟨w.heap.size + 1 + 1, 0, none⟩)) 32 = some (rc c) := keep g0 (by go_simp)
      go_wp2_with fail
      refine (cx _).mono ?_
      rintro e w1 ⟨rfl, g1⟩
      have a1 := keep g1 a0
      have b1 := keep g1 b0
      have c1 := keep g1 c0
      go_wp2_with fail
      refine (cy _).mono ?_
      rintro e w2 ⟨rfl, g2⟩
      have a2 := keep g2 a1
      have b2 := keep g2 b1
      have c2 := keep g2 c1
      go_wp2_with fail
      go_ret
      exact ⟨rfl, belowT (belowT (belowT (belowA (belowA (belowA (Below.refl _ _) _) _) _) g0) g1) g2⟩

theorem belowD {B : Nat} {a w : World} (h : Below B a w) (n : Nat) : Below B a (w.drewN n) := ⟨h.os, h.tape, h.output, h.size, h.block⟩
theorem string_index (T : ByteArray) (i : Nat) (h : i < T.size) (w : World) : (Instr.index 9 (.string T) (.int .i64 (i : Int))).run Try.prog w = .ok (.int .u8 ((T[i]'h).toNat : Int)) w := by
  have u := Try.underlying9
  have g : T[i]? = some (T[i]'h) := by simp [h]
  unfold Instr.index
  simp [asIntOf, run_underlying u, g]
theorem text_size (a : Rt) : (⟨(textL a.toList).toArray⟩ : ByteArray).size = 64 := by
  show (textL a.toList).toArray.size = 64
  rw [List.size_toArray, textR_length]
theorem text_at (a : Rt) (k : Nat) (hk : k < 32) (w : World) :
    (Instr.index 9 (.string ⟨(textL a.toList).toArray⟩) (.int .i64 ((2 * k : Nat) : Int))).run Try.prog w = .ok (.int .u8 (dgI (at8 a k / 16))) w ∧ (Instr.index 9 (.string ⟨(textL a.toList).toArray⟩) (.int .i64 ((2 * k + 1 : Nat) : Int))).run Try.prog w = .ok (.int .u8 (dgI (at8 a k % 16))) w := by
  have hl : k < a.toList.length := by simp; exact hk
  obtain ⟨h1, h2⟩ := textL_get a.toList k hl
  have hs := text_size a
  have e1 : ∀ n : Nat, ((n : Int) / 16).toNat = n / 16 := fun n => by omega
  have e2 : ∀ n : Nat, ((n : Int) % 16).toNat = n % 16 := fun n => by omega
  rw [string_index _ (2 * k) (by omega), string_index _ (2 * k + 1) (by omega), at8_get a k hk]
  have g1 : (⟨(textL a.toList).toArray⟩ : ByteArray)[2 * k]'(by omega) = dg (a.toList[k].toNat / 16) := by
    have : ((textL a.toList)[2 * k]'(by rw [textR_length]; omega)) = dg (a.toList[k].toNat / 16) := by
      rw [List.getElem?_eq_getElem (by rw [textR_length]; omega)] at h1
      exact Option.some.inj h1
    exact this
  have g2 : (⟨(textL a.toList).toArray⟩ : ByteArray)[2 * k + 1]'(by omega) = dg (a.toList[k].toNat % 16) := by
    have : ((textL a.toList)[2 * k + 1]'(by rw [textR_length]; omega)) = dg (a.toList[k].toNat % 16) := by
      rw [List.getElem?_eq_getElem (by rw [textR_length]; omega)] at h2
      exact Option.some.inj h2
    exact this
  rw [g1, g2]
  simp only [dgI, e1, e2, and_self]

set_option maxRecDepth 100000 in
set_option maxHeartbeats 2000000 in
theorem rootDigits_in (a : Rt) (k : Nat) (hk : k < 32) (w : World) :
    Calls Try.prog 8 #[.agg (rc a), .int .i64 (k : Int)] w fun e w' => e = .returned (.bool true) ∧ Below w.heap.size w w' := by
  have ct := fun W => text_any a W
  have hz : ((⟨(textL a.toList).toArray⟩ : ByteArray).size : Int) = 64 := by rw [text_size]; rfl
  have t1 := fun W => (text_at a k hk W).1
  have t2 := fun W => (text_at a k hk W).2
  simp only [show ((2 * k : Nat) : Int) = 2 * (k : Int) by omega, show ((2 * k + 1 : Nat) : Int) = 2 * (k : Int) + 1 by omega] at t1 t2
  have ab := at8_bd a k
  have d1 := fun W => digit_at (at8 a k / 16) (by omega) (by omega) W
  have d2 := fun W => digit_at (at8 a k % 16) (by omega) (by omega) W
  have i0 : (0 : Int) ≤ (k : Int) := by omega
  have i1 : (k : Int) < 32 := by omega
  have i2 : decide ((k : Int) < 0) = false := by simp
  have i3 : decide ((31 : Int) < (k : Int)) = false := by simp; omega
  generalize (⟨(textL a.toList).toArray⟩ : ByteArray) = T at *
  go_enter Try.func8, Try.ntmps8
  go_wp2_with fail
  refine (awake_any _).mono ?_
  rintro e w0 ⟨rfl, g0⟩
  have a0 : ldA w0 (.pointer (some ⟨w.heap.size, 0, none⟩)) 32 = some (rc a) := keep g0 (by go_simp)
  go_wp2_with fail
  refine (ct _).mono ?_
  rintro e w1 ⟨rfl, g1⟩
  have a1 := keep g1 a0
  have ac : w1.cell? ⟨w.heap.size, k, none⟩ = some (.int .u8 (at8 a k)) := by
    have := (ldA_range a1).2 k _ (by rw [Array.getElem?_toList]; exact rc_get a k hk)
    rwa [Nat.zero_add] at this
  have x1 : IntKind.i64.wrap (2 * (k : Int)) = 2 * (k : Int) := IntWalk.i64_in _ (by omega)
  have x2 : IntKind.i64.wrap (2 * (k : Int) + 1) = 2 * (k : Int) + 1 := IntWalk.i64_in _ (by omega)
  go_wp2_with fail
  go_quiet (fail)
  go_wp2
  go_ret
  exact ⟨rfl, belowD (belowT (belowT (belowA (Below.refl _ _) _) g0) g1) _⟩

set_option maxRecDepth 100000 in
set_option maxHeartbeats 2000000 in
theorem rootDigits_out (a : Rt) (i : Int) (hi : i < 0 ∨ 31 < i) (w : World) :
    Calls Try.prog 8 #[.agg (rc a), .int .i64 i] w fun e w' => e = .returned (.bool true) ∧ Below w.heap.size w w' := by
  have ct := fun W => text_any a W
  have hz : ((⟨(textL a.toList).toArray⟩ : ByteArray).size : Int) = 64 := by rw [text_size]; rfl
  generalize (⟨(textL a.toList).toArray⟩ : ByteArray) = T at *
  rcases hi with hi | hi
  · have i2 : decide (i < 0) = true := by simpa using hi
    go_enter Try.func8, Try.ntmps8
    go_wp2_with fail
    refine (awake_any _).mono ?_
    rintro e w0 ⟨rfl, g0⟩
    have a0 : ldA w0 (.pointer (some ⟨w.heap.size, 0, none⟩)) 32 = some (rc a) := keep g0 (by go_simp)
    go_wp2_with fail
    refine (ct _).mono ?_
    rintro e w1 ⟨rfl, g1⟩
    go_wp2_with fail
    go_ret
    exact ⟨rfl, belowT (belowT (belowA (Below.refl _ _) _) g0) g1⟩
  · have i2 : decide (i < 0) = false := by simp; omega
    have i3 : decide ((31 : Int) < i) = true := by simpa using hi
    go_enter Try.func8, Try.ntmps8
    go_wp2_with fail
    refine (awake_any _).mono ?_
    rintro e w0 ⟨rfl, g0⟩
    have a0 : ldA w0 (.pointer (some ⟨w.heap.size, 0, none⟩)) 32 = some (rc a) := keep g0 (by go_simp)
    go_wp2_with fail
    refine (ct _).mono ?_
    rintro e w1 ⟨rfl, g1⟩
    go_wp2_with fail
    go_ret
    exact ⟨rfl, belowT (belowT (belowA (Below.refl _ _) _) g0) g1⟩
theorem rootDigits_walk (a : Rt) (i : Int) (w : World) (_ : (Lit.int .i64 i).wf = true) :
    Calls Try.prog 8 #[.agg (rc a), .int .i64 i] w fun e w' => e = .returned (.bool true) ∧ Below w.heap.size w w' := by
  by_cases h : i < 0 ∨ 31 < i
  · exact rootDigits_out a i h w
  · obtain ⟨k, rfl⟩ := Int.eq_ofNat_of_zero_le (show 0 ≤ i by omega)
    exact rootDigits_in a k (by omega) w
end Go.Proofs.Ytecppjbbodpcnaa
