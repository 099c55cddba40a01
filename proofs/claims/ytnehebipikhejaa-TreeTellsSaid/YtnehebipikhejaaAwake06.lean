/-
  awake of layer 6, walked.
-/
import Derived.Test.YtnehebipikhejaaThree06
import Derived.Test.YtnehebipikhejaaP06May
import Derived.Test.YtnehebipikhejaaP06Above
import Derived.Test.YtnehebipikhejaaP06At
import Derived.Test.YtnehebipikhejaaP06Find
import Derived.Test.YtnehebipikhejaaP06Kids
import Derived.Test.YtnehebipikhejaaP06Cut
namespace Go.Proofs.Ytnehebipikhejaa
open Go.RowKit

set_option maxRecDepth 100000 in
set_option maxHeartbeats 4000000 in
theorem awake_any (w : World) : Calls Try.prog 11 #[] w fun e w' => e = .returned (.bool true) ∧ Below w.heap.size w w' := by
  have HC : Hid (∀ (s : SlV) (W : World), SlE Ene W (sv s) threeL → Calls Try.prog 17 #[.agg (tr ⟨s⟩), .int .i64 1] W (TreeIs [⟨r2, -1, 3, 0⟩, ⟨r3, 0, 5, 0⟩] W)) := fun s W h => by
    have := treeCut s threeL 1 W h
    rwa [three_cut] at this
  have HM : Hid (∀ (s : SlV) (W : World), SlE Ene W (sv s) threeL → Calls Try.prog 24 #[.agg (tr ⟨s⟩)] W fun e w' => e = .returned (.bool true) ∧ Below W.heap.size W w') := fun s W h => by
    have := treeMay s threeL W h
    rwa [three_may] at this
  have HA : Hid (∀ (s : SlV) (W : World), SlE Ene W (sv s) threeL → Calls Try.prog 26 #[.agg (tr ⟨s⟩), .int .i64 0, .int .i64 2] W fun e w' => e = .returned (.bool true) ∧ Below W.heap.size W w') := fun s W h => by
    have := treeAbove s threeL 0 2 W h
    rwa [three_above] at this
  have HT : Hid (∀ (s : SlV) (W : World), SlE Ene W (sv s) threeL → Calls Try.prog 27 #[.agg (tr ⟨s⟩), .int .i64 2, .int .u64 4] W fun e w' => e = .returned (.int .i64 1) ∧ Below W.heap.size W w') := fun s W h => by
    have := treeAt s threeL 2 4 W h
    rwa [show (4 : UInt64).toNat = 4 from rfl, three_at] at this
  have HF : Hid (∀ (s : SlV) (W : World), SlE Ene W (sv s) threeL → Calls Try.prog 29 #[.agg (tr ⟨s⟩), .agg (rc r3)] W fun e w' => e = .returned (.int .i64 2) ∧ Below W.heap.size W w') := fun s W h => by
    have := treeFind s threeL r3 W h
    rwa [three_find] at this
  have HK : Hid (∀ (s : SlV) (W : World), SlE Ene W (sv s) threeL → Calls Try.prog 20 #[.agg (tr ⟨s⟩), .int .i64 0] W (IntsIs [1] W)) := fun s W h => by
    have := treeKids s threeL 0 W h
    rwa [three_kids] at this
  go_enter Try.func11, Try.ntmps11
  go_wp2_with fail
  refine (three _).mono ?_
  rintro e w1 ⟨s, rfl, hs, g1⟩
  obtain ⟨W1, hW1⟩ : ∃ W1, W1 = w1.alloc (.cells (tr ⟨s⟩) 24) := ⟨_, rfl⟩
  have G1 : Hid (Below w.heap.size w W1) := by rw [hW1]; exact belowT g1 below1
  have S1 : Hid (SlE Ene W1 (sv s) threeL) := by rw [hW1]; exact slE_keep below1 hs
  have M1 : Hid (W1.heap[w1.heap.size]? = some (.cells (tr ⟨s⟩) 24 (0, 0))) := by rw [hW1]; exact heap_alloc_last w1 _
  have HW := Lib.hid hW1
  clear hs g1 hW1
  go_wp2_with fail
  rw [← HW.out]
  refine (HC.out s W1 S1.out).mono ?_
  rintro e w2 ⟨⟨p, n, cp⟩, rfl, hs2, g2⟩
  obtain rfl : n = 2 := (sv_lenN hs2).symm
  obtain ⟨W2, hW2⟩ : ∃ W2, W2 = w2.alloc (.cells (tr ⟨⟨p, 2, cp⟩⟩) 24) := ⟨_, rfl⟩
  have G2 : Hid (Below W1.heap.size W1 W2) := by rw [hW2]; exact belowT g2 below1
  have S2 : Hid (SlE Ene W2 (sv s) threeL) := slE_keep G2.out S1.out
  have C2 : Hid (SlE Ene W2 (.slice p 2 cp) [⟨r2, -1, 3, 0⟩, ⟨r3, 0, 5, 0⟩]) := by rw [hW2]; exact slE_keep below1 hs2
  have M2 := Lib.hid (blk_keep G2.out M1.out)
  have N2 : Hid (W2.heap[w2.heap.size]? = some (.cells (tr ⟨⟨p, 2, cp⟩⟩) 24 (0, 0))) := by rw [hW2]; exact heap_alloc_last w2 _
  have HW2 := Lib.hid hW2
  have z0 : ldA (w2.alloc (.cells (tr ⟨⟨p, 2, cp⟩⟩) 24)) (.pointer (some ⟨w1.heap.size, 0, none⟩)) 1 = some (tr ⟨s⟩) := by rw [← hW2]; exact (tr_cells M2.out).2.1
  clear hs2 g2 hW2
  go_wp2_with fail
  rw [← HW2.out]
  obtain ⟨b2, o2, rfl, hb2, hx2⟩ := slE_ptr C2.out (by simp)
  have X2 := Lib.hid hx2
  clear hb2 hx2
  refine (HM.out s W2 S2.out).mono ?_
  rintro e w3 ⟨rfl, g3⟩
  have G3 := Lib.hid g3
  have z3 := (tr_cells (blk_keep G3.out M2.out)).2.1
  clear g3 z0
  go_wp2_with fail
  refine (HA.out s w3 (slE_keep G3.out S2.out)).mono ?_
  rintro e w4 ⟨rfl, g4⟩
  have G4 := Lib.hid (belowT G3.out g4)
  have z4 := (tr_cells (blk_keep G4.out M2.out)).2.1
  clear g4 z3
  go_wp2_with fail
  refine (HT.out s w4 (slE_keep G4.out S2.out)).mono ?_
  rintro e w5 ⟨rfl, g5⟩
  have G5 := Lib.hid (belowT G4.out g5)
  have z5 := (tr_cells (blk_keep G5.out M2.out)).2.1
  clear g5 z4
  go_wp2_with fail
  refine (HF.out s w5 (slE_keep G5.out S2.out)).mono ?_
  rintro e w6 ⟨rfl, g6⟩
  have G6 := Lib.hid (belowT G5.out g6)
  have z6 := (tr_cells (blk_keep G6.out M2.out)).2.1
  obtain ⟨y6, _, _⟩ := tr_cells (blk_keep G6.out N2.out)
  dsimp only at y6
  rw [sv_mk] at y6
  have x6 : w6.cell? ⟨b2, o2 + 35 + 32, none⟩ = some (.int .i64 0) := nds_par (keepR G6.out X2.out) (i := 1) (by simp)
  clear g6 z5
  go_wp2_with fail
  refine (HK.out s w6 (slE_keep G6.out S2.out)).mono ?_
  rintro e w7 ⟨v, rfl, ho, g7⟩
  obtain ⟨pv, cv, rfl⟩ := ownE_len ho (n := 1) rfl
  go_wp2_with fail
  go_ret
  exact ⟨rfl, belowT G1.out (belowT G2.out (belowT G6.out g7))⟩
end Go.Proofs.Ytnehebipikhejaa
