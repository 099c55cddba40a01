/-
  The law WireNone, walked.
-/
import Derived.Test.YtjdpndclgmdahaaWireG
namespace Go.Proofs.Ytjdpndclgmdahaa
open Go.RowKit

theorem none_cases (l : List UInt8) : (isB l = true ∧ isA l = false ∧ l.length = 81 ∧ bt l 0 = 1) ∨ (isB l = false ∧ isA l = false ∧ l.length = 81 ∧ ¬ bt l 0 = 1) ∨ (isB l = false ∧ isA l = true ∧ l.length = 123 ∧ bt l 0 = 2) ∨ (isB l = false ∧ isA l = false ∧ l.length = 123 ∧ ¬ bt l 0 = 2) ∨ (isB l = false ∧ isA l = false ∧ ¬ l.length = 81 ∧ ¬ l.length = 123) := by
  unfold isB isA
  by_cases h1 : l.length = 81
  · by_cases h2 : bt l 0 = 1
    · left; simp [h1, h2]
    · right; left; simp [h1, h2]
  · by_cases h3 : l.length = 123
    · by_cases h2 : bt l 0 = 2
      · right; right; left; simp [h3, h2]
      · right; right; right; left; simp [h3, h2]
    · right; right; right; right; simp [h1, h3]

set_option maxRecDepth 100000 in
set_option maxHeartbeats 4000000 in
theorem wireNone_short (v : Value) (l : List UInt8) (w : World) (h : SlB w v l) (hlen : l.length ≤ 300) :
    Calls Try.prog 6 #[v] w fun e w' => e = .returned (.bool true) ∧ Below w.heap.size w w' := by
  have HS := Lib.hid h; clear h
  rcases none_cases l with ⟨h1, h2, h3, h4⟩ | ⟨h1, h2, h3, h4⟩ | ⟨h1, h2, h3, h4⟩ | ⟨h1, h2, h3, h4⟩ | ⟨h1, h2, h3, h4⟩
  · have cB := fun W hW => block_any v l W hW
    have cA := fun W hW => att_any v l W hW
    unfold BlockIs at cB
    unfold AttIs at cA
    rw [h1] at cB
    rw [h2] at cA
    rw [attOf_not h2] at cA
    have HCB := Lib.hid cB
    have HCA := Lib.hid cA
    clear cB cA h1 h2
    obtain ⟨b, off, cap, rfl, hcap, hb, hx⟩ := slB_ne HS.out (by omega)
    have HX := Lib.hid (hx 0 (by omega)); clear hx
    have z1 : decide ((300 : Int) < (l.length : Int)) = false := by simp; omega
    have e81 : ((l.length : Int) == 81) = true := by simp; omega
    have e123 : ((l.length : Int) == 123) = false := by simp; omega
    have qb := eqBlk_self zb
    have qa := eqAt_self za
    have i1 : (0 : Int) < (l.length : Int) := by omega
    have t1 : (bt l 0 == 1) = true := by rw [h4]; rfl
    clear h3 h4 hlen
    go_enter Try.func6, Try.ntmps6
    go_wp2_with fail
    refine (awake_any _).mono ?_
    rintro e w0 ⟨rfl, g0⟩
    have G0 := Lib.hid g0; clear g0
    go_wp2_with fail
    refine (HCB.out _ (slB_keep G0.out HS.out)).mono ?_
    rintro e w1 ⟨rfl, g1⟩
    have G1 := Lib.hid (belowT G0.out g1); clear g1
    go_wp2_with fail
    refine (HCA.out _ (slB_keep (belowT G1.out ((Below.refl _ _).alloc (Nat.le_refl _) _)) HS.out)).mono ?_
    rintro e w2 ⟨rfl, g2⟩
    have lx : ldA w2 (.pointer (some ⟨w1.heap.size, 0, none⟩)) 66 = some (bc (blkOf l)) := keep g2 (ldA_alloc_new _ _ _ _ _ rfl (bc_size _))
    have lx2 : ldA (w2.alloc (.cells (ac za) 30)) (.pointer (some ⟨w1.heap.size, 0, none⟩)) 66 = some (bc (blkOf l)) := (ldA_alloc _ _ _ _ _ (ldA_lt lx (by decide))).trans lx
    have ly2 : ldA (w2.alloc (.cells (ac za) 30)) (.pointer (some ⟨w2.heap.size, 0, none⟩)) 100 = some (ac za) := ldA_alloc_new _ _ _ _ _ rfl (ac_size _)
    have G2 := Lib.hid (belowT (belowT (belowT G1.out ((Below.refl _ _).alloc (Nat.le_refl _) (.cells (bc (blkOf l)) 26))) g2) ((Below.refl _ _).alloc (Nat.le_refl _) (.cells (ac za) 30)))
    clear g2 lx
    have hc : (w2.alloc (.cells (ac za) 30)).cell? ⟨b, off, none⟩ = some (.int .u8 (bt l 0)) := (G2.out.cell (p := ⟨b, off, none⟩) hb).trans HX.out
    go_wp2_with fail
    go_ret
    exact ⟨rfl, G2.out⟩
  · have cB := fun W hW => block_any v l W hW
    have cA := fun W hW => att_any v l W hW
    unfold BlockIs at cB
    unfold AttIs at cA
    rw [h1] at cB
    rw [h2] at cA
    rw [attOf_not h2] at cA
    rw [blkOf_not h1] at cB
    have HCB := Lib.hid cB
    have HCA := Lib.hid cA
    clear cB cA h1 h2
    obtain ⟨b, off, cap, rfl, hcap, hb, hx⟩ := slB_ne HS.out (by omega)
    have HX := Lib.hid (hx 0 (by omega)); clear hx
    have z1 : decide ((300 : Int) < (l.length : Int)) = false := by simp; omega
    have e81 : ((l.length : Int) == 81) = true := by simp; omega
    have e123 : ((l.length : Int) == 123) = false := by simp; omega
    have qb := eqBlk_self zb
    have qa := eqAt_self za
    have i1 : (0 : Int) < (l.length : Int) := by omega
    have t1 : (bt l 0 == 1) = false := by simpa using h4
    clear h3 h4 hlen
    go_enter Try.func6, Try.ntmps6
    go_wp2_with fail
    refine (awake_any _).mono ?_
    rintro e w0 ⟨rfl, g0⟩
    have G0 := Lib.hid g0; clear g0
    go_wp2_with fail
    refine (HCB.out _ (slB_keep G0.out HS.out)).mono ?_
    rintro e w1 ⟨rfl, g1⟩
    have G1 := Lib.hid (belowT G0.out g1); clear g1
    go_wp2_with fail
    refine (HCA.out _ (slB_keep (belowT G1.out ((Below.refl _ _).alloc (Nat.le_refl _) _)) HS.out)).mono ?_
    rintro e w2 ⟨rfl, g2⟩
    have lx : ldA w2 (.pointer (some ⟨w1.heap.size, 0, none⟩)) 66 = some (bc zb) := keep g2 (ldA_alloc_new _ _ _ _ _ rfl (bc_size _))
    have lx2 : ldA (w2.alloc (.cells (ac za) 30)) (.pointer (some ⟨w1.heap.size, 0, none⟩)) 66 = some (bc zb) := (ldA_alloc _ _ _ _ _ (ldA_lt lx (by decide))).trans lx
    have ly2 : ldA (w2.alloc (.cells (ac za) 30)) (.pointer (some ⟨w2.heap.size, 0, none⟩)) 100 = some (ac za) := ldA_alloc_new _ _ _ _ _ rfl (ac_size _)
    have G2 := Lib.hid (belowT (belowT (belowT G1.out ((Below.refl _ _).alloc (Nat.le_refl _) (.cells (bc zb) 26))) g2) ((Below.refl _ _).alloc (Nat.le_refl _) (.cells (ac za) 30)))
    clear g2 lx
    have hc : (w2.alloc (.cells (ac za) 30)).cell? ⟨b, off, none⟩ = some (.int .u8 (bt l 0)) := (G2.out.cell (p := ⟨b, off, none⟩) hb).trans HX.out
    go_wp2_with fail
    go_ret
    exact ⟨rfl, G2.out⟩
  · have cB := fun W hW => block_any v l W hW
    have cA := fun W hW => att_any v l W hW
    unfold BlockIs at cB
    unfold AttIs at cA
    rw [h1] at cB
    rw [h2] at cA
    rw [blkOf_not h1] at cB
    have HCB := Lib.hid cB
    have HCA := Lib.hid cA
    clear cB cA h1 h2
    obtain ⟨b, off, cap, rfl, hcap, hb, hx⟩ := slB_ne HS.out (by omega)
    have HX := Lib.hid (hx 0 (by omega)); clear hx
    have z1 : decide ((300 : Int) < (l.length : Int)) = false := by simp; omega
    have e81 : ((l.length : Int) == 81) = false := by simp; omega
    have e123 : ((l.length : Int) == 123) = true := by simp; omega
    have qb := eqBlk_self zb
    have qa := eqAt_self za
    have i1 : (0 : Int) < (l.length : Int) := by omega
    have t2 : (bt l 0 == 2) = true := by rw [h4]; rfl
    clear h3 h4 hlen
    go_enter Try.func6, Try.ntmps6
    go_wp2_with fail
    refine (awake_any _).mono ?_
    rintro e w0 ⟨rfl, g0⟩
    have G0 := Lib.hid g0; clear g0
    go_wp2_with fail
    refine (HCB.out _ (slB_keep G0.out HS.out)).mono ?_
    rintro e w1 ⟨rfl, g1⟩
    have G1 := Lib.hid (belowT G0.out g1); clear g1
    go_wp2_with fail
    refine (HCA.out _ (slB_keep (belowT G1.out ((Below.refl _ _).alloc (Nat.le_refl _) _)) HS.out)).mono ?_
    rintro e w2 ⟨rfl, g2⟩
    have lx : ldA w2 (.pointer (some ⟨w1.heap.size, 0, none⟩)) 66 = some (bc zb) := keep g2 (ldA_alloc_new _ _ _ _ _ rfl (bc_size _))
    have lx2 : ldA (w2.alloc (.cells (ac (attOf l)) 30)) (.pointer (some ⟨w1.heap.size, 0, none⟩)) 66 = some (bc zb) := (ldA_alloc _ _ _ _ _ (ldA_lt lx (by decide))).trans lx
    have ly2 : ldA (w2.alloc (.cells (ac (attOf l)) 30)) (.pointer (some ⟨w2.heap.size, 0, none⟩)) 100 = some (ac (attOf l)) := ldA_alloc_new _ _ _ _ _ rfl (ac_size _)
    have G2 := Lib.hid (belowT (belowT (belowT G1.out ((Below.refl _ _).alloc (Nat.le_refl _) (.cells (bc zb) 26))) g2) ((Below.refl _ _).alloc (Nat.le_refl _) (.cells (ac (attOf l)) 30)))
    clear g2 lx
    have hc : (w2.alloc (.cells (ac (attOf l)) 30)).cell? ⟨b, off, none⟩ = some (.int .u8 (bt l 0)) := (G2.out.cell (p := ⟨b, off, none⟩) hb).trans HX.out
    go_wp2_with fail
    go_ret
    exact ⟨rfl, G2.out⟩
  · have cB := fun W hW => block_any v l W hW
    have cA := fun W hW => att_any v l W hW
    unfold BlockIs at cB
    unfold AttIs at cA
    rw [h1] at cB
    rw [h2] at cA
    rw [attOf_not h2] at cA
    rw [blkOf_not h1] at cB
    have HCB := Lib.hid cB
    have HCA := Lib.hid cA
    clear cB cA h1 h2
    obtain ⟨b, off, cap, rfl, hcap, hb, hx⟩ := slB_ne HS.out (by omega)
    have HX := Lib.hid (hx 0 (by omega)); clear hx
    have z1 : decide ((300 : Int) < (l.length : Int)) = false := by simp; omega
    have e81 : ((l.length : Int) == 81) = false := by simp; omega
    have e123 : ((l.length : Int) == 123) = true := by simp; omega
    have qb := eqBlk_self zb
    have qa := eqAt_self za
    have i1 : (0 : Int) < (l.length : Int) := by omega
    have t2 : (bt l 0 == 2) = false := by simpa using h4
    clear h3 h4 hlen
    go_enter Try.func6, Try.ntmps6
    go_wp2_with fail
    refine (awake_any _).mono ?_
    rintro e w0 ⟨rfl, g0⟩
    have G0 := Lib.hid g0; clear g0
    go_wp2_with fail
    refine (HCB.out _ (slB_keep G0.out HS.out)).mono ?_
    rintro e w1 ⟨rfl, g1⟩
    have G1 := Lib.hid (belowT G0.out g1); clear g1
    go_wp2_with fail
    refine (HCA.out _ (slB_keep (belowT G1.out ((Below.refl _ _).alloc (Nat.le_refl _) _)) HS.out)).mono ?_
    rintro e w2 ⟨rfl, g2⟩
    have lx : ldA w2 (.pointer (some ⟨w1.heap.size, 0, none⟩)) 66 = some (bc zb) := keep g2 (ldA_alloc_new _ _ _ _ _ rfl (bc_size _))
    have lx2 : ldA (w2.alloc (.cells (ac za) 30)) (.pointer (some ⟨w1.heap.size, 0, none⟩)) 66 = some (bc zb) := (ldA_alloc _ _ _ _ _ (ldA_lt lx (by decide))).trans lx
    have ly2 : ldA (w2.alloc (.cells (ac za) 30)) (.pointer (some ⟨w2.heap.size, 0, none⟩)) 100 = some (ac za) := ldA_alloc_new _ _ _ _ _ rfl (ac_size _)
    have G2 := Lib.hid (belowT (belowT (belowT G1.out ((Below.refl _ _).alloc (Nat.le_refl _) (.cells (bc zb) 26))) g2) ((Below.refl _ _).alloc (Nat.le_refl _) (.cells (ac za) 30)))
    clear g2 lx
    have hc : (w2.alloc (.cells (ac za) 30)).cell? ⟨b, off, none⟩ = some (.int .u8 (bt l 0)) := (G2.out.cell (p := ⟨b, off, none⟩) hb).trans HX.out
    go_wp2_with fail
    go_ret
    exact ⟨rfl, G2.out⟩
  · have cB := fun W hW => block_any v l W hW
    have cA := fun W hW => att_any v l W hW
    unfold BlockIs at cB
    unfold AttIs at cA
    rw [h1] at cB
    rw [h2] at cA
    rw [attOf_not h2] at cA
    rw [blkOf_not h1] at cB
    have HCB := Lib.hid cB
    have HCA := Lib.hid cA
    clear cB cA h1 h2
    obtain ⟨p, cap, rfl, hcap⟩ := slB_shape HS.out
    have z1 : decide ((300 : Int) < (l.length : Int)) = false := by simp; omega
    have e81 : ((l.length : Int) == 81) = false := by simp; omega
    have e123 : ((l.length : Int) == 123) = false := by simp; omega
    have qb := eqBlk_self zb
    have qa := eqAt_self za
    clear h3 h4 hlen
    go_enter Try.func6, Try.ntmps6
    go_wp2_with fail
    refine (awake_any _).mono ?_
    rintro e w0 ⟨rfl, g0⟩
    have G0 := Lib.hid g0; clear g0
    go_wp2_with fail
    refine (HCB.out _ (slB_keep G0.out HS.out)).mono ?_
    rintro e w1 ⟨rfl, g1⟩
    have G1 := Lib.hid (belowT G0.out g1); clear g1
    go_wp2_with fail
    refine (HCA.out _ (slB_keep (belowT G1.out ((Below.refl _ _).alloc (Nat.le_refl _) _)) HS.out)).mono ?_
    rintro e w2 ⟨rfl, g2⟩
    have lx : ldA w2 (.pointer (some ⟨w1.heap.size, 0, none⟩)) 66 = some (bc zb) := keep g2 (ldA_alloc_new _ _ _ _ _ rfl (bc_size _))
    have lx2 : ldA (w2.alloc (.cells (ac za) 30)) (.pointer (some ⟨w1.heap.size, 0, none⟩)) 66 = some (bc zb) := (ldA_alloc _ _ _ _ _ (ldA_lt lx (by decide))).trans lx
    have ly2 : ldA (w2.alloc (.cells (ac za) 30)) (.pointer (some ⟨w2.heap.size, 0, none⟩)) 100 = some (ac za) := ldA_alloc_new _ _ _ _ _ rfl (ac_size _)
    have G2 := Lib.hid (belowT (belowT (belowT G1.out ((Below.refl _ _).alloc (Nat.le_refl _) (.cells (bc zb) 26))) g2) ((Below.refl _ _).alloc (Nat.le_refl _) (.cells (ac za) 30)))
    clear g2 lx
    go_wp2_with fail
    go_ret
    exact ⟨rfl, G2.out⟩

set_option maxRecDepth 100000 in
set_option maxHeartbeats 1000000 in
theorem wireNone_long (p : Option Addr) (n cap : Nat) (w : World) (h : 300 < n) :
    Calls Try.prog 6 #[.slice p n cap] w fun e w' => e = .returned (.bool true) ∧ Below w.heap.size w w' := by
  have z1 : decide ((300 : Int) < (n : Int)) = true := by simp; omega
  go_enter Try.func6, Try.ntmps6
  go_wp2_with fail
  refine (awake_any _).mono ?_
  rintro e w0 ⟨rfl, g0⟩
  go_wp2_with fail
  go_ret
  exact ⟨rfl, g0⟩
theorem wireNone_walk (v : Value) (l : List UInt8) (w : World) (h : SlB w v l) :
    Calls Try.prog 6 #[v] w fun e w' => e = .returned (.bool true) ∧ Below w.heap.size w w' := by
  by_cases hl : 300 < l.length
  · obtain ⟨p, cap, rfl, _⟩ := slB_shape h
    exact wireNone_long p _ cap w hl
  · exact wireNone_short v l w h (by omega)
end Go.Proofs.Ytjdpndclgmdahaa
