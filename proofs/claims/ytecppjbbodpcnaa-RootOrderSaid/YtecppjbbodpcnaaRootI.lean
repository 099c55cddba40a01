/-
  The laws RootOrder and RootDigits, walked.
-/
import Derived.Test.YtecppjbbodpcnaaRootH
namespace Go.Proofs.Ytecppjbbodpcnaa
open Go.RowKit

theorem less_b (a b : Rt) (W : World) : Calls Try.prog 16 #[.agg (rc a), .agg (rc b)] W fun e w' => e = .returned (.bool (lessR a b)) ∧ Below W.heap.size W w' := by
  refine (less_any a b W).mono ?_
  rintro e w' ⟨rfl, n, os, rfl⟩
  exact ⟨rfl, below_grow _ _ _⟩

set_option maxRecDepth 100000 in
set_option maxHeartbeats 2000000 in
theorem rootOrder_walk (a b c : Rt) (w : World) :
    Calls Try.prog 5 #[.agg (rc a), .agg (rc b), .agg (rc c)] w fun e w' => e = .returned (.bool true) ∧ Below w.heap.size w w' := by
  have cx := fun W => less_b a b W
  have cy := fun W => less_b b a W
  have cu := fun W => less_b b c W
  have cv := fun W => less_b a c W
  have hcase : (lessR a b = true ∧ lessR b a = false ∧ eqB a b = false) ∨ (lessR a b = false ∧ lessR b a = true ∧ eqB a b = false) ∨ (lessR a b = false ∧ lessR b a = false ∧ eqB a b = true) := by
    cases h1 : lessR a b
    · cases h2 : lessR b a
      · right; right
        have := lessR_tri h1 h2
        subst this
        exact ⟨rfl, rfl, eqB_self a⟩
      · right; left
        refine ⟨rfl, rfl, ?_⟩
        unfold eqB
        rw [decide_eq_false_iff_not]
        rintro rfl
        rw [lessR_irrefl] at h2; cases h2
    · left
      refine ⟨rfl, lessR_asymm h1, ?_⟩
      unfold eqB
      rw [decide_eq_false_iff_not]
      rintro rfl
      rw [lessR_irrefl] at h1; cases h1
  have htr : lessR a b = true → lessR b c = true → lessR a c = true := fun h k => lessR_trans h k
  rcases hcase with ⟨h1, h2, h3⟩ | ⟨h1, h2, h3⟩ | ⟨h1, h2, h3⟩
  · cases h4 : lessR b c
    · clear htr cv
      rw [h1] at cx; rw [h2] at cy; rw [h4] at cu
      clear h1 h2 h4
      go_enter Try.func5, Try.ntmps5
      go_wp2_with fail
      refine (awake_any _).mono ?_
      rintro e w0 ⟨rfl, g0⟩
      have a0 : ldA w0 (.pointer (some ⟨w.heap.size, 0, none⟩)) 32 = some (rc a) := keep g0 (by go_simp)
      have b0 : ldA w0 (.pointer (some ⟨w.heap.size + 1, 0, none⟩)) 32 = some (rc b) := keep g0 (by go_simp)
      have c0 : ldA w0 (.pointer (some ⟨w.heap.size + 1 + 1, 0, none⟩)) 32 = some (rc c) := keep g0 (by go_simp)
      go_wp2_with fail
      refine (cx _).mono ?_
      rintro e w1 ⟨rfl, g1⟩
      have a1 := keep g1 a0
      have b1 := keep g1 b0
      have c1 := keep g1 c0
      go_wp2_with fail
      refine (cy _).mono ?_
      rintro e w2 ⟨rfl, g2⟩
      have a2 := keep g2 a1
      have b2 := keep g2 b1
      have c2 := keep g2 c1
      go_wp2_with fail
      refine (cu _).mono ?_
      rintro e w3 ⟨rfl, g3⟩
      go_wp2_with fail
      go_ret
      exact ⟨rfl, belowT (belowT (belowT (belowT (belowA (belowA (belowA (Below.refl _ _) _) _) _) g0) g1) g2) g3⟩
    · rw [htr h1 h4] at cv
      clear htr
      rw [h1] at cx; rw [h2] at cy; rw [h4] at cu
      clear h1 h2 h4
      go_enter Try.func5, Try.ntmps5
      go_wp2_with fail
      refine (awake_any _).mono ?_
      rintro e w0 ⟨rfl, g0⟩
      have a0 : ldA w0 (.pointer (some ⟨w.heap.size, 0, none⟩)) 32 = some (rc a) := keep g0 (by go_simp)
      have b0 : ldA w0 (.pointer (some ⟨w.heap.size + 1, 0, none⟩)) 32 = some (rc b) := keep g0 (by go_simp)
      have c0 : ldA w0 (.pointer (some ⟨w.heap.size + 1 + 1, 0, none⟩)) 32 = some (rc c) := keep g0 (by go_simp)
      go_wp2_with fail
      refine (cx _).mono ?_
      rintro e w1 ⟨rfl, g1⟩
      have a1 := keep g1 a0
      have b1 := keep g1 b0
      have c1 := keep g1 c0
      go_wp2_with fail
      refine (cy _).mono ?_
      rintro e w2 ⟨rfl, g2⟩
      have a2 := keep g2 a1
      have b2 := keep g2 b1
      have c2 := keep g2 c1
      go_wp2_with fail
      refine (cu _).mono ?_
      rintro e w3 ⟨rfl, g3⟩
      have a3 := keep g3 a2
      have c3 := keep g3 c2
      go_wp2_with fail
      refine (cv _).mono ?_
      rintro e w4 ⟨rfl, g4⟩
      go_wp2_with fail
      go_ret
      exact ⟨rfl, belowT (belowT (belowT (belowT (belowT (belowA (belowA (belowA (Below.refl _ _) _) _) _) g0) g1) g2) g3) g4⟩
  · clear htr cu cv
    rw [h1] at cx; rw [h2] at cy
    clear h1 h2
    · skip
      go_enter Try.func5, Try.ntmps5
      go_wp2_with fail
      refine (awake_any _).mono ?_
      rintro e w0 ⟨rfl, g0⟩
      have a0 : ldA w0 (.pointer (some ⟨w.heap.size, 0, none⟩)) 32 = some (rc a) := keep g0 (by go_simp)
      have b0 : ldA w0 (.pointer (some ⟨w.heap.size + 1, 0, none⟩)) 32 = some (rc b) := keep g0 (by go_simp)
      have c0 : ldA w0 (.pointer (some ⟨w.heap.size + 1 + 1, 0, none⟩)) 32 = some (rc c) := keep g0 (by go_simp)
      go_wp2_with fail
      refine (cx _).mono ?_
      rintro e w1 ⟨rfl, g1⟩
      have a1 := keep g1 a0
      have b1 := keep g1 b0
      have c1 := keep g1 c0
      go_wp2_with fail
      refine (cy _).mono ?_
      rintro e w2 ⟨rfl, g2⟩
      have a2 := keep g2 a1
      have b2 := keep g2 b1
      have c2 := keep g2 c1
      go_wp2_with fail
      go_ret
      exact ⟨rfl, belowT (belowT (belowT (belowA (belowA (belowA (Below.refl _ _) _) _) _) g0) g1) g2⟩
  · clear htr cu cv
    rw [h1] at cx; rw [h2] at cy
    clear h1 h2
    · skip
      go_enter Try.func5, Try.ntmps5
      go_wp2_with fail
      refine (awake_any _).mono ?_
      rintro e w0 ⟨rfl, g0⟩
      have a0 : ldA w0 (.pointer (some ⟨w.heap.size, 0, none⟩)) 32 = some (rc a) := keep g0 (by go_simp)
      have b0 : ldA w0 (.pointer (some ⟨w.heap.size + 1, 0, none⟩)) 32 = some (rc b) := keep g0 (by go_simp)
      have c0 : ldA w0 (.pointer (some ⟨w.heap.size + 1 + 1, 0, none⟩)) 32 = some (rc c) := keep g0 (by go_simp)
      go_wp2_with fail
      refine (cx _).mono ?_
      rintro e w1 ⟨rfl, g1⟩
      have a1 := keep g1 a0
      have b1 := keep g1 b0
      have c1 := keep g1 c0
      go_wp2_with fail
      refine (cy _).mono ?_
      rintro e w2 ⟨rfl, g2⟩
      have a2 := keep g2 a1
      have b2 := keep g2 b1
      have c2 := keep g2 c1
      go_wp2_with fail
      go_ret
      exact ⟨rfl, belowT (belowT (belowT (belowA (belowA (belowA (Below.refl _ _) _) _) _) g0) g1) g2⟩
end Go.Proofs.Ytecppjbbodpcnaa
