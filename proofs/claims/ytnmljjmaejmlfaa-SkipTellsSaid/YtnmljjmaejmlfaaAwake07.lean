/-
  awake of layer 7, walked.
-/
import Derived.Test.YtnmljjmaejmlfaaThree
import Derived.Test.YtnmljjmaejmlfaaP07Up
import Derived.Test.YtnmljjmaejmlfaaP07At
namespace Go.Proofs.Ytnmljjmaejmlfaa
open Go.RowKit

theorem three_up : upZ threeL 2 2 = 0 := by decide +kernel
theorem three_deep : deepZ threeL 2 = 2 := by decide +kernel
theorem three_at3 : atZ threeL 2 3 = 1 := by decide +kernel
theorem three_meet : meetZ threeL 1 2 = 1 := by decide +kernel
theorem three_tab : tabT threeL = [⟨-1, -1, -1, -1⟩, ⟨0, -1, -1, -1⟩, ⟨1, 0, -1, -1⟩] := by decide +kernel

set_option maxRecDepth 100000 in
set_option maxHeartbeats 4000000 in
theorem awake_any (w : World) : Calls Try.prog 9 #[] w fun e w' => e = .returned (.bool true) ∧ Below w.heap.size w w' := by
  have HT : Hid (∀ (s : SlV) (W : World), SlE Ene W (sv s) threeL → Calls Try.prog 11 #[.agg (tr ⟨s⟩)] W (TabIs threeL W)) := fun s W h => skipTable s threeL W h
  have HU : Hid (∀ (s : SlV) (W : World), SlE Ene W (sv s) threeL → Calls Try.prog 13 #[.agg (tr ⟨s⟩), .int .i64 2, .int .i64 2] W fun e w' => e = .returned (.int .i64 0) ∧ Below W.heap.size W w') := fun s W h => by
    have := skipUp s threeL 2 2 W h
    rwa [three_up] at this
  have HD : Hid (∀ (s : SlV) (W : World), SlE Ene W (sv s) threeL → Calls Try.prog 15 #[.agg (tr ⟨s⟩), .int .i64 2] W fun e w' => e = .returned (.int .i64 2) ∧ Below W.heap.size W w') := fun s W h => by
    have := skipDeep s threeL 2 W h
    rwa [three_deep] at this
  have HA : Hid (∀ (s : SlV) (W : World), SlE Ene W (sv s) threeL → Calls Try.prog 17 #[.agg (tr ⟨s⟩), .int .i64 2, .int .u64 3] W fun e w' => e = .returned (.int .i64 1) ∧ Below W.heap.size W w') := fun s W h => by
    have := skipAt s threeL 2 3 W h
    rwa [show (3 : UInt64).toNat = 3 from rfl, three_at3] at this
  have HM : Hid (∀ (s : SlV) (W : World), SlE Ene W (sv s) threeL → Calls Try.prog 19 #[.agg (tr ⟨s⟩), .int .i64 1, .int .i64 2] W fun e w' => e = .returned (.int .i64 1) ∧ Below W.heap.size W w') := fun s W h => by
    have := skipMeet s threeL 1 2 W h
    rwa [three_meet] at this
  go_enter Try.func9, Try.ntmps9
  go_wp2_with fail
  refine (three _).mono ?_
  rintro e w1 ⟨s, rfl, hs, g1⟩
  obtain ⟨W1, hW1⟩ : ∃ W1, W1 = w1.alloc (.cells (tr ⟨s⟩) 24) := ⟨_, rfl⟩
  have G1 : Hid (Below w.heap.size w W1) := by rw [hW1]; exact belowT g1 below1
  have S1 : Hid (SlE Ene W1 (sv s) threeL) := by rw [hW1]; exact slE_keep below1 hs
  have M1 : Hid (W1.heap[w1.heap.size]? = some (.cells (tr ⟨s⟩) 24 (0, 0))) := by rw [hW1]; exact heap_alloc_last w1 _
  have HW := Lib.hid hW1
  clear hs g1 hW1
  go_wp2_with fail
  rw [← HW.out]
  refine (HT.out s W1 S1.out).mono ?_
  rintro e w2 ⟨v, rfl, ho, g2⟩
  have HV := Lib.hid (ownE_slE ho)
  rw [three_tab] at HV
  obtain ⟨pv, cv, rfl⟩ := slE_len HV.out (n := 3) rfl
  obtain ⟨b2, o2, c2, e2, _, hb2, hx2⟩ := slE_ne HV.out (by simp)
  have e2' : pv = some ⟨b2, o2, none⟩ := by injection e2
  subst e2'
  have X2 := Lib.hid hx2
  have G2 := Lib.hid g2
  have z2 := (tr_cells (blk_keep g2 M1.out)).2.1
  clear ho g2 e2 hb2 hx2
  go_wp2_with fail
  refine (HU.out s w2 (slE_keep G2.out S1.out)).mono ?_
  rintro e w3 ⟨rfl, g3⟩
  have G3 := Lib.hid (belowT G2.out g3)
  have X3 := Lib.hid (keepR g3 X2.out)
  have z3 := (tr_cells (blk_keep G3.out M1.out)).2.1
  clear g3 z2
  go_wp2_with fail
  refine (HD.out s w3 (slE_keep G3.out S1.out)).mono ?_
  rintro e w4 ⟨rfl, g4⟩
  have G4 := Lib.hid (belowT G3.out g4)
  have X4 := Lib.hid (keepR g4 X3.out)
  have z4 := (tr_cells (blk_keep G4.out M1.out)).2.1
  clear g4 z3
  go_wp2_with fail
  refine (HA.out s w4 (slE_keep G4.out S1.out)).mono ?_
  rintro e w5 ⟨rfl, g5⟩
  have G5 := Lib.hid (belowT G4.out g5)
  have X5 := Lib.hid (keepR g5 X4.out)
  have z5 := (tr_cells (blk_keep G5.out M1.out)).2.1
  clear g5 z4
  go_wp2_with fail
  refine (HM.out s w5 (slE_keep G5.out S1.out)).mono ?_
  rintro e w6 ⟨rfl, g6⟩
  have G6 := Lib.hid (belowT G5.out g6)
  have x6 : ldA w6 (.pointer (some ⟨b2, o2 + 2 * 4, none⟩)) 4 = some (qd ⟨1, 0, -1, -1⟩) := qd_ld (keepR g6 X5.out) (i := 2) rfl
  have x6' : ldA w6 (.pointer (some ⟨b2, o2 + 8, none⟩)) 4 = some (qd ⟨1, 0, -1, -1⟩) := x6
  clear g6 z5
  go_wp2_with fail
  go_ret
  exact ⟨rfl, belowT G1.out G6.out⟩
theorem enters_awake : ∀ args w, (callFunc 9 args).run Try.prog w = .ok (.enter 9 args) w := entersE Try.func9 (by kernel_rfl) (by kernel_rfl)
end Go.Proofs.Ytnmljjmaejmlfaa
