/-
  The law WireSpoils, walked.
-/
import Derived.Test.YtjdpndclgmdahaaWireG
namespace Go.Proofs.Ytjdpndclgmdahaa
open Go.RowKit

/-- Bytes with another one at a place. -/
def spoil (l : List UInt8) (i : Nat) (k : Int) : List UInt8 := l.set i (UInt8.ofNat ((bt l i + k) % 256).toNat)
theorem spoil_length (l : List UInt8) (i : Nat) (k : Int) : (spoil l i k).length = l.length := by simp [spoil]
theorem spoil_at (l : List UInt8) (i : Nat) (k : Int) (h : i < l.length) : bt (spoil l i k) i = (bt l i + k) % 256 := by
  unfold spoil
  have hl : i < (l.set i (UInt8.ofNat ((bt l i + k) % 256).toNat)).length := by simpa using h
  show (((l.set i (UInt8.ofNat ((bt l i + k) % 256).toNat)).getD i 0).toNat : Int) = _
  rw [getD_in _ hl, List.getElem_set_self, UInt8.toNat_ofNat', Nat.mod_eq_of_lt (by omega)]
  omega
theorem spoil_other (l : List UInt8) (i j : Nat) (k : Int) (h : j ≠ i) : bt (spoil l i k) j = bt l j := by
  unfold spoil bt
  rw [List.getD_eq_getElem?_getD, List.getElem?_set_ne (Ne.symm h), ← List.getD_eq_getElem?_getD]
theorem spoil_ne (l : List UInt8) (i : Nat) (k : Int) (h : i < l.length) (h0 : 0 < k) (h1 : k < 256) : spoil l i k ≠ l := fun e => by
  have h2 := spoil_at l i k h
  rw [e] at h2
  have := bt_bd l i
  omega
theorem spoil_isB (l : List UInt8) (i : Nat) (k : Int) (h : 1 ≤ i) : isB (spoil l i k) = isB l := by
  unfold isB
  rw [spoil_length, spoil_other l i 0 k (by omega)]
theorem spoil_isA (l : List UInt8) (i : Nat) (k : Int) (h : 1 ≤ i) : isA (spoil l i k) = isA l := by
  unfold isA
  rw [spoil_length, spoil_other l i 0 k (by omega)]
theorem spoil_blk (l : List UInt8) (i : Nat) (k : Int) (h : 1 ≤ i) (hi : i < l.length) (h0 : 0 < k) (h1 : k < 256) (hB : isB l = true) : eqBlk (blkOf l) (blkOf (spoil l i k)) = false := by
  unfold eqBlk
  rw [decide_eq_false_iff_not]
  intro e
  have h2 := putB_blkOf hB
  have h3 := putB_blkOf (l := spoil l i k) (by rw [spoil_isB l i k h]; exact hB)
  exact spoil_ne l i k hi h0 h1 (by rw [← h3, ← e, h2])
theorem spoil_att (l : List UInt8) (i : Nat) (k : Int) (h : 1 ≤ i) (hi : i < l.length) (h0 : 0 < k) (h1 : k < 256) (hB : isA l = true) : eqAt (attOf l) (attOf (spoil l i k)) = false := by
  unfold eqAt
  rw [decide_eq_false_iff_not]
  intro e
  have h2 := putA_attOf hB
  have h3 := putA_attOf (l := spoil l i k) (by rw [spoil_isA l i k h]; exact hB)
  exact spoil_ne l i k hi h0 h1 (by rw [← h3, ← e, h2])
theorem spoil_slB {w : World} {g cap : Nat} {l : List UInt8} {i : Nat} {k : Int} {base : Nat} (ho : Own w base (.slice (some ⟨g, 0, none⟩) l.length cap) l) (hi : i < l.length) : SlB (w.setCell ⟨g, i, none⟩ (.int .u8 ((bt l i + k) % 256))) (.slice (some ⟨g, 0, none⟩) l.length cap) (spoil l i k) := by
  obtain ⟨b, off, c, e1, hc, hb, hx⟩ := slB_ne (own_slB ho) (by omega)
  injection e1 with e2 _ e3
  injection e2 with e2
  injection e2 with e4 e5
  subst e3 e4 e5
  refine ⟨some ⟨g, 0, none⟩, cap, by rw [spoil_length], by rw [spoil_length]; exact hc, .inr ⟨g, 0, rfl, by simpa [World.setCell] using hb, fun j hj => ?_⟩⟩
  rw [spoil_length] at hj
  rw [Nat.zero_add]
  have hj0 := hx j hj
  rw [Nat.zero_add] at hj0
  by_cases e : j = i
  · subst e
    rw [spoil_at l j k hi, World.cell?_setCell_same _ _ _ hj0]
  · rw [spoil_other l i j k e, World.cell?_setCell_other _ _ _ _ (by intro h; injection h with _ h; exact e h.symm), hj0]


set_option maxRecDepth 100000 in
set_option maxHeartbeats 4000000 in
theorem wireSpoils_in (p : Option Addr) (cap0 : Nat) (l : List UInt8) (i : Nat) (k : Int) (w : World) (h : SlB w (.slice p l.length cap0) l) (hlen : l.length ≤ 300) (h1 : 1 ≤ i) (hi : i < l.length) (h0 : 0 < k) (hk : k < 256) :
    Calls Try.prog 8 #[.slice p l.length cap0, .int .i64 (i : Int), .int .u8 k] w fun e w' => e = .returned (.bool true) ∧ Below w.heap.size w w' := by
  have HS := Lib.hid h; clear h
  have cB := fun W hW => block_any (.slice p l.length cap0) l W hW
  have cA := fun W hW => att_any (.slice p l.length cap0) l W hW
  have dB := fun v W hW => block_any v (spoil l i k) W hW
  have dA := fun v W hW => att_any v (spoil l i k) W hW
  unfold BlockIs at cB dB
  unfold AttIs at cA dA
  rw [spoil_isB l i k h1] at dB
  rw [spoil_isA l i k h1] at dA
  have HSL := Lib.hid (spoil_length l i k)
  have z1 : decide ((300 : Int) < (l.length : Int)) = false := by simp; omega
  have z2 : decide ((i : Int) < 1) = false := by simp; omega
  have z3 : decide ((l.length : Int) ≤ (i : Int)) = false := by simp; omega
  have z4 : (k == 0) = false := by simp; omega
  have i0 : (0 : Int) ≤ (i : Int) := by omega
  have i1 : (i : Int) < (l.length : Int) := by omega
  have bb := bt_bd l i
  have hcase : (isB l = true ∧ isA l = false ∧ eqBlk (blkOf l) (blkOf (spoil l i k)) = false) ∨ (isB l = false ∧ isA l = true ∧ eqAt (attOf l) (attOf (spoil l i k)) = false) ∨ (isB l = false ∧ isA l = false ∧ True) := by
    cases hB : isB l with
    | true => exact .inl ⟨rfl, not_both hB, spoil_blk l i k h1 hi h0 hk hB⟩
    | false =>
      cases hA : isA l with
      | true => exact .inr (.inl ⟨rfl, rfl, spoil_att l i k h1 hi h0 hk hA⟩)
      | false => exact .inr (.inr ⟨rfl, rfl, trivial⟩)
  obtain ⟨L, hL⟩ : ∃ L, L = spoil l i k := ⟨_, rfl⟩
  rw [← hL] at dB dA hcase HSL
  have HL := Lib.hid hL
  clear hL
  rcases hcase with ⟨k1, k2, k3⟩ | ⟨k1, k2, k3⟩ | ⟨k1, k2, k3⟩
  · rw [k1] at cB dB
    rw [k2] at cA dA
    have HCB := Lib.hid cB
    have HCA := Lib.hid cA
    have HDB := Lib.hid dB
    have HDA := Lib.hid dA
    clear cB cA dB dA k1 k2
    go_enter Try.func8, Try.ntmps8
    go_wp2_with fail
    refine (awake_any _).mono ?_
    rintro e w0 ⟨rfl, g0⟩
    have G0 := Lib.hid g0; clear g0
    go_wp2_with (at_builtin; refine wpList_append_bytes _ rfl (.const (.slice none 0 0)) (.tmp 40) rfl w0.heap.size _ [] rfl (own_nil _ _) _ l rfl (slB_keep G0.out HS.out) (by simp; omega) (Nat.le_refl _) ?_; intro v1 w1 ho1 hg1
                 rw [List.nil_append] at ho1
                 have HO1 := Lib.hid ho1
                 have G1 := Lib.hid (belowT G0.out (hg1.own (own_nil _ _) (Nat.le_refl _)))
                 obtain ⟨g, q1, cap, hv1, hc1, hb1, hx1⟩ := slB_ne (own_slB ho1) (by omega)
                 have hq : w0.heap.size ≤ g ∧ q1 = 0 := by
                   rcases ho1.2 with ⟨e, _⟩ | ⟨g', cap', cur', e, hb, _⟩
                   · rw [hv1] at e; cases e
                   · rw [hv1] at e; injection e with e1; injection e1 with e1; injection e1 with e1 e2; subst e1 e2; exact ⟨hb, rfl⟩
                 obtain ⟨hq, rfl⟩ := hq
                 subst hv1
                 have x1 := hx1 i hi
                 rw [Nat.zero_add] at x1
                 have f1 : w1.frozen? ⟨g, i, none⟩ = false := by
                   rcases ho1.2 with ⟨e, _⟩ | ⟨g', cap', cur', e, hb, hg', _⟩
                   · cases e
                   · injection e with e1; injection e1 with e1; injection e1 with e1 e2; subst e1; exact frozen_of_row _ _ _ _ _ hg'
                 have HQ := Lib.hid hq
                 clear ho1 hg1 hc1 hb1 hx1 hq)
    have HB2 : Hid (Below w.heap.size w (w1.setCell ⟨g, i, none⟩ (.int .u8 ((bt l i + k) % 256)))) := G1.out.setCell (Nat.le_trans G0.out.size HQ.out) _
    have HS2 : Hid (SlB (w1.setCell ⟨g, i, none⟩ (.int .u8 ((bt l i + k) % 256))) (.slice (some ⟨g, 0, none⟩) l.length cap) L) := by rw [HL.out]; exact spoil_slB HO1.out hi
    refine (HCB.out _ (slB_keep HB2.out HS.out)).mono ?_
    rintro e w3 ⟨rfl, g3⟩
    have lx3 : ldA (w3.alloc (.cells (bc (blkOf l)) 26)) (.pointer (some ⟨w3.heap.size, 0, none⟩)) 66 = some (bc (blkOf l)) := ldA_alloc_new _ _ _ _ _ rfl (bc_size _)
    have G3 := Lib.hid (belowT g3 ((Below.refl _ _).alloc (Nat.le_refl _) (.cells (bc (blkOf l)) 26)))
    have LX3 := Lib.hid lx3
    clear g3 lx3 x1 f1
    go_wp2_with fail
    refine (HDB.out _ _ (slB_keep G3.out HS2.out)).mono ?_
    rintro e w4 ⟨rfl, g4⟩
    have lx4 := keep g4 LX3.out
    have LX4 := Lib.hid ((ldA_alloc w4 (.cells (bc (blkOf L)) 26) _ 0 66 (ldA_lt lx4 (by decide))).trans lx4)
    have LY4 : Hid (ldA (w4.alloc (.cells (bc (blkOf L)) 26)) (.pointer (some ⟨w4.heap.size, 0, none⟩)) 66 = some (bc (blkOf L))) := ldA_alloc_new _ _ _ _ _ rfl (bc_size _)
    have G4 := Lib.hid (belowT (belowT G3.out g4) ((Below.refl _ _).alloc (Nat.le_refl _) (.cells (bc (blkOf L)) 26)))
    clear g4 lx4
    go_wp2_with fail
    refine (HCA.out _ (slB_keep (belowT HB2.out G4.out) HS.out)).mono ?_
    rintro e w5 ⟨rfl, g5⟩
    have lx5 := keep g5 LX4.out
    have ly5 := keep g5 LY4.out
    have LX5 := Lib.hid ((ldA_alloc w5 (.cells (ac (attOf l)) 30) _ 0 66 (ldA_lt lx5 (by decide))).trans lx5)
    have LY5 := Lib.hid ((ldA_alloc w5 (.cells (ac (attOf l)) 30) _ 0 66 (ldA_lt ly5 (by decide))).trans ly5)
    have LU5 : Hid (ldA (w5.alloc (.cells (ac (attOf l)) 30)) (.pointer (some ⟨w5.heap.size, 0, none⟩)) 100 = some (ac (attOf l))) := ldA_alloc_new _ _ _ _ _ rfl (ac_size _)
    have G5 := Lib.hid (belowT (belowT G4.out g5) ((Below.refl _ _).alloc (Nat.le_refl _) (.cells (ac (attOf l)) 30)))
    clear g5 lx5 ly5
    go_wp2_with fail
    refine (HDA.out _ _ (slB_keep G5.out HS2.out)).mono ?_
    rintro e w6 ⟨rfl, g6⟩
    have lx6 := keep g6 LX5.out
    have ly6 := keep g6 LY5.out
    have lu6 := keep g6 LU5.out
    have mx := (ldA_alloc w6 (.cells (ac (attOf L)) 30) _ 0 66 (ldA_lt lx6 (by decide))).trans lx6
    have my := (ldA_alloc w6 (.cells (ac (attOf L)) 30) _ 0 66 (ldA_lt ly6 (by decide))).trans ly6
    have mu := (ldA_alloc w6 (.cells (ac (attOf L)) 30) _ 0 100 (ldA_lt lu6 (by decide))).trans lu6
    have mv : ldA (w6.alloc (.cells (ac (attOf L)) 30)) (.pointer (some ⟨w6.heap.size, 0, none⟩)) 100 = some (ac (attOf L)) := ldA_alloc_new _ _ _ _ _ rfl (ac_size _)
    have G6 := Lib.hid (belowT (belowT G5.out g6) ((Below.refl _ _).alloc (Nat.le_refl _) (.cells (ac (attOf L)) 30)))
    clear g6 lx6 ly6 lu6
    go_wp2_with fail
    go_ret
    exact ⟨rfl, belowT HB2.out G6.out⟩
  · rw [k1] at cB dB
    rw [k2] at cA dA
    have HCB := Lib.hid cB
    have HCA := Lib.hid cA
    have HDB := Lib.hid dB
    have HDA := Lib.hid dA
    clear cB cA dB dA k1 k2
    go_enter Try.func8, Try.ntmps8
    go_wp2_with fail
    refine (awake_any _).mono ?_
    rintro e w0 ⟨rfl, g0⟩
    have G0 := Lib.hid g0; clear g0
    go_wp2_with (at_builtin; refine wpList_append_bytes _ rfl (.const (.slice none 0 0)) (.tmp 40) rfl w0.heap.size _ [] rfl (own_nil _ _) _ l rfl (slB_keep G0.out HS.out) (by simp; omega) (Nat.le_refl _) ?_; intro v1 w1 ho1 hg1
                 rw [List.nil_append] at ho1
                 have HO1 := Lib.hid ho1
                 have G1 := Lib.hid (belowT G0.out (hg1.own (own_nil _ _) (Nat.le_refl _)))
                 obtain ⟨g, q1, cap, hv1, hc1, hb1, hx1⟩ := slB_ne (own_slB ho1) (by omega)
                 have hq : w0.heap.size ≤ g ∧ q1 = 0 := by
                   rcases ho1.2 with ⟨e, _⟩ | ⟨g', cap', cur', e, hb, _⟩
                   · rw [hv1] at e; cases e
                   · rw [hv1] at e; injection e with e1; injection e1 with e1; injection e1 with e1 e2; subst e1 e2; exact ⟨hb, rfl⟩
                 obtain ⟨hq, rfl⟩ := hq
                 subst hv1
                 have x1 := hx1 i hi
                 rw [Nat.zero_add] at x1
                 have f1 : w1.frozen? ⟨g, i, none⟩ = false := by
                   rcases ho1.2 with ⟨e, _⟩ | ⟨g', cap', cur', e, hb, hg', _⟩
                   · cases e
                   · injection e with e1; injection e1 with e1; injection e1 with e1 e2; subst e1; exact frozen_of_row _ _ _ _ _ hg'
                 have HQ := Lib.hid hq
                 clear ho1 hg1 hc1 hb1 hx1 hq)
    have HB2 : Hid (Below w.heap.size w (w1.setCell ⟨g, i, none⟩ (.int .u8 ((bt l i + k) % 256)))) := G1.out.setCell (Nat.le_trans G0.out.size HQ.out) _
    have HS2 : Hid (SlB (w1.setCell ⟨g, i, none⟩ (.int .u8 ((bt l i + k) % 256))) (.slice (some ⟨g, 0, none⟩) l.length cap) L) := by rw [HL.out]; exact spoil_slB HO1.out hi
    refine (HCB.out _ (slB_keep HB2.out HS.out)).mono ?_
    rintro e w3 ⟨rfl, g3⟩
    have lx3 : ldA (w3.alloc (.cells (bc (blkOf l)) 26)) (.pointer (some ⟨w3.heap.size, 0, none⟩)) 66 = some (bc (blkOf l)) := ldA_alloc_new _ _ _ _ _ rfl (bc_size _)
    have G3 := Lib.hid (belowT g3 ((Below.refl _ _).alloc (Nat.le_refl _) (.cells (bc (blkOf l)) 26)))
    have LX3 := Lib.hid lx3
    clear g3 lx3 x1 f1
    go_wp2_with fail
    refine (HDB.out _ _ (slB_keep G3.out HS2.out)).mono ?_
    rintro e w4 ⟨rfl, g4⟩
    have lx4 := keep g4 LX3.out
    have LX4 := Lib.hid ((ldA_alloc w4 (.cells (bc (blkOf L)) 26) _ 0 66 (ldA_lt lx4 (by decide))).trans lx4)
    have LY4 : Hid (ldA (w4.alloc (.cells (bc (blkOf L)) 26)) (.pointer (some ⟨w4.heap.size, 0, none⟩)) 66 = some (bc (blkOf L))) := ldA_alloc_new _ _ _ _ _ rfl (bc_size _)
    have G4 := Lib.hid (belowT (belowT G3.out g4) ((Below.refl _ _).alloc (Nat.le_refl _) (.cells (bc (blkOf L)) 26)))
    clear g4 lx4
    go_wp2_with fail
    refine (HCA.out _ (slB_keep (belowT HB2.out G4.out) HS.out)).mono ?_
    rintro e w5 ⟨rfl, g5⟩
    have lx5 := keep g5 LX4.out
    have ly5 := keep g5 LY4.out
    have LX5 := Lib.hid ((ldA_alloc w5 (.cells (ac (attOf l)) 30) _ 0 66 (ldA_lt lx5 (by decide))).trans lx5)
    have LY5 := Lib.hid ((ldA_alloc w5 (.cells (ac (attOf l)) 30) _ 0 66 (ldA_lt ly5 (by decide))).trans ly5)
    have LU5 : Hid (ldA (w5.alloc (.cells (ac (attOf l)) 30)) (.pointer (some ⟨w5.heap.size, 0, none⟩)) 100 = some (ac (attOf l))) := ldA_alloc_new _ _ _ _ _ rfl (ac_size _)
    have G5 := Lib.hid (belowT (belowT G4.out g5) ((Below.refl _ _).alloc (Nat.le_refl _) (.cells (ac (attOf l)) 30)))
    clear g5 lx5 ly5
    go_wp2_with fail
    refine (HDA.out _ _ (slB_keep G5.out HS2.out)).mono ?_
    rintro e w6 ⟨rfl, g6⟩
    have lx6 := keep g6 LX5.out
    have ly6 := keep g6 LY5.out
    have lu6 := keep g6 LU5.out
    have mx := (ldA_alloc w6 (.cells (ac (attOf L)) 30) _ 0 66 (ldA_lt lx6 (by decide))).trans lx6
    have my := (ldA_alloc w6 (.cells (ac (attOf L)) 30) _ 0 66 (ldA_lt ly6 (by decide))).trans ly6
    have mu := (ldA_alloc w6 (.cells (ac (attOf L)) 30) _ 0 100 (ldA_lt lu6 (by decide))).trans lu6
    have mv : ldA (w6.alloc (.cells (ac (attOf L)) 30)) (.pointer (some ⟨w6.heap.size, 0, none⟩)) 100 = some (ac (attOf L)) := ldA_alloc_new _ _ _ _ _ rfl (ac_size _)
    have G6 := Lib.hid (belowT (belowT G5.out g6) ((Below.refl _ _).alloc (Nat.le_refl _) (.cells (ac (attOf L)) 30)))
    clear g6 lx6 ly6 lu6
    go_wp2_with fail
    go_ret
    exact ⟨rfl, belowT HB2.out G6.out⟩
  · rw [k1] at cB dB
    rw [k2] at cA dA
    have HCB := Lib.hid cB
    have HCA := Lib.hid cA
    have HDB := Lib.hid dB
    have HDA := Lib.hid dA
    clear cB cA dB dA k1 k2
    go_enter Try.func8, Try.ntmps8
    go_wp2_with fail
    refine (awake_any _).mono ?_
    rintro e w0 ⟨rfl, g0⟩
    have G0 := Lib.hid g0; clear g0
    go_wp2_with (at_builtin; refine wpList_append_bytes _ rfl (.const (.slice none 0 0)) (.tmp 40) rfl w0.heap.size _ [] rfl (own_nil _ _) _ l rfl (slB_keep G0.out HS.out) (by simp; omega) (Nat.le_refl _) ?_; intro v1 w1 ho1 hg1
                 rw [List.nil_append] at ho1
                 have HO1 := Lib.hid ho1
                 have G1 := Lib.hid (belowT G0.out (hg1.own (own_nil _ _) (Nat.le_refl _)))
                 obtain ⟨g, q1, cap, hv1, hc1, hb1, hx1⟩ := slB_ne (own_slB ho1) (by omega)
                 have hq : w0.heap.size ≤ g ∧ q1 = 0 := by
                   rcases ho1.2 with ⟨e, _⟩ | ⟨g', cap', cur', e, hb, _⟩
                   · rw [hv1] at e; cases e
                   · rw [hv1] at e; injection e with e1; injection e1 with e1; injection e1 with e1 e2; subst e1 e2; exact ⟨hb, rfl⟩
                 obtain ⟨hq, rfl⟩ := hq
                 subst hv1
                 have x1 := hx1 i hi
                 rw [Nat.zero_add] at x1
                 have f1 : w1.frozen? ⟨g, i, none⟩ = false := by
                   rcases ho1.2 with ⟨e, _⟩ | ⟨g', cap', cur', e, hb, hg', _⟩
                   · cases e
                   · injection e with e1; injection e1 with e1; injection e1 with e1 e2; subst e1; exact frozen_of_row _ _ _ _ _ hg'
                 have HQ := Lib.hid hq
                 clear ho1 hg1 hc1 hb1 hx1 hq)
    have HB2 : Hid (Below w.heap.size w (w1.setCell ⟨g, i, none⟩ (.int .u8 ((bt l i + k) % 256)))) := G1.out.setCell (Nat.le_trans G0.out.size HQ.out) _
    have HS2 : Hid (SlB (w1.setCell ⟨g, i, none⟩ (.int .u8 ((bt l i + k) % 256))) (.slice (some ⟨g, 0, none⟩) l.length cap) L) := by rw [HL.out]; exact spoil_slB HO1.out hi
    refine (HCB.out _ (slB_keep HB2.out HS.out)).mono ?_
    rintro e w3 ⟨rfl, g3⟩
    have lx3 : ldA (w3.alloc (.cells (bc (blkOf l)) 26)) (.pointer (some ⟨w3.heap.size, 0, none⟩)) 66 = some (bc (blkOf l)) := ldA_alloc_new _ _ _ _ _ rfl (bc_size _)
    have G3 := Lib.hid (belowT g3 ((Below.refl _ _).alloc (Nat.le_refl _) (.cells (bc (blkOf l)) 26)))
    have LX3 := Lib.hid lx3
    clear g3 lx3 x1 f1
    go_wp2_with fail
    refine (HDB.out _ _ (slB_keep G3.out HS2.out)).mono ?_
    rintro e w4 ⟨rfl, g4⟩
    have lx4 := keep g4 LX3.out
    have LX4 := Lib.hid ((ldA_alloc w4 (.cells (bc (blkOf L)) 26) _ 0 66 (ldA_lt lx4 (by decide))).trans lx4)
    have LY4 : Hid (ldA (w4.alloc (.cells (bc (blkOf L)) 26)) (.pointer (some ⟨w4.heap.size, 0, none⟩)) 66 = some (bc (blkOf L))) := ldA_alloc_new _ _ _ _ _ rfl (bc_size _)
    have G4 := Lib.hid (belowT (belowT G3.out g4) ((Below.refl _ _).alloc (Nat.le_refl _) (.cells (bc (blkOf L)) 26)))
    clear g4 lx4
    go_wp2_with fail
    refine (HCA.out _ (slB_keep (belowT HB2.out G4.out) HS.out)).mono ?_
    rintro e w5 ⟨rfl, g5⟩
    have lx5 := keep g5 LX4.out
    have ly5 := keep g5 LY4.out
    have LX5 := Lib.hid ((ldA_alloc w5 (.cells (ac (attOf l)) 30) _ 0 66 (ldA_lt lx5 (by decide))).trans lx5)
    have LY5 := Lib.hid ((ldA_alloc w5 (.cells (ac (attOf l)) 30) _ 0 66 (ldA_lt ly5 (by decide))).trans ly5)
    have LU5 : Hid (ldA (w5.alloc (.cells (ac (attOf l)) 30)) (.pointer (some ⟨w5.heap.size, 0, none⟩)) 100 = some (ac (attOf l))) := ldA_alloc_new _ _ _ _ _ rfl (ac_size _)
    have G5 := Lib.hid (belowT (belowT G4.out g5) ((Below.refl _ _).alloc (Nat.le_refl _) (.cells (ac (attOf l)) 30)))
    clear g5 lx5 ly5
    go_wp2_with fail
    refine (HDA.out _ _ (slB_keep G5.out HS2.out)).mono ?_
    rintro e w6 ⟨rfl, g6⟩
    have lx6 := keep g6 LX5.out
    have ly6 := keep g6 LY5.out
    have lu6 := keep g6 LU5.out
    have mx := (ldA_alloc w6 (.cells (ac (attOf L)) 30) _ 0 66 (ldA_lt lx6 (by decide))).trans lx6
    have my := (ldA_alloc w6 (.cells (ac (attOf L)) 30) _ 0 66 (ldA_lt ly6 (by decide))).trans ly6
    have mu := (ldA_alloc w6 (.cells (ac (attOf L)) 30) _ 0 100 (ldA_lt lu6 (by decide))).trans lu6
    have mv : ldA (w6.alloc (.cells (ac (attOf L)) 30)) (.pointer (some ⟨w6.heap.size, 0, none⟩)) 100 = some (ac (attOf L)) := ldA_alloc_new _ _ _ _ _ rfl (ac_size _)
    have G6 := Lib.hid (belowT (belowT G5.out g6) ((Below.refl _ _).alloc (Nat.le_refl _) (.cells (ac (attOf L)) 30)))
    clear g6 lx6 ly6 lu6
    go_wp2_with fail
    go_ret
    exact ⟨rfl, belowT HB2.out G6.out⟩

set_option maxRecDepth 100000 in
set_option maxHeartbeats 1000000 in
theorem wireSpoils_out (p : Option Addr) (n cap : Nat) (i k : Int) (w : World) (h : 300 < n ∨ i < 1 ∨ (n : Int) ≤ i ∨ k = 0) :
    Calls Try.prog 8 #[.slice p n cap, .int .i64 i, .int .u8 k] w fun e w' => e = .returned (.bool true) ∧ Below w.heap.size w w' := by
  by_cases h1 : 300 < n
  · have z1 : decide ((300 : Int) < (n : Int)) = true := by simp; omega
    clear h h1
    go_enter Try.func8, Try.ntmps8
    go_wp2_with fail
    refine (awake_any _).mono ?_
    rintro e w0 ⟨rfl, g0⟩
    go_wp2_with fail
    go_ret
    exact ⟨rfl, g0⟩
  · have z1 : decide ((300 : Int) < (n : Int)) = false := by simp; omega
    by_cases h2 : i < 1
    · have z2 : decide (i < 1) = true := by simpa using h2
      clear h h1 h2
      go_enter Try.func8, Try.ntmps8
      go_wp2_with fail
      refine (awake_any _).mono ?_
      rintro e w0 ⟨rfl, g0⟩
      go_wp2_with fail
      go_ret
      exact ⟨rfl, g0⟩
    · have z2 : decide (i < 1) = false := by simpa using h2
      by_cases h3 : (n : Int) ≤ i
      · have z3 : decide ((n : Int) ≤ i) = true := by simpa using h3
        clear h h1 h2 h3
        go_enter Try.func8, Try.ntmps8
        go_wp2_with fail
        refine (awake_any _).mono ?_
        rintro e w0 ⟨rfl, g0⟩
        go_wp2_with fail
        go_ret
        exact ⟨rfl, g0⟩
      · have z3 : decide ((n : Int) ≤ i) = false := by simpa using h3
        obtain rfl : k = 0 := by omega
        clear h h1 h2 h3
        go_enter Try.func8, Try.ntmps8
        go_wp2_with fail
        refine (awake_any _).mono ?_
        rintro e w0 ⟨rfl, g0⟩
        go_wp2_with fail
        go_ret
        exact ⟨rfl, g0⟩

theorem wireSpoils_walk (v : Value) (l : List UInt8) (i k : Int) (w : World) (h : SlB w v l) (_ : (Lit.int .i64 i).wf = true) (hk : (Lit.int .u8 k).wf = true) :
    Calls Try.prog 8 #[v, .int .i64 i, .int .u8 k] w fun e w' => e = .returned (.bool true) ∧ Below w.heap.size w w' := by
  have hb : (decide (IntKind.u8.min ≤ k) && decide (k ≤ IntKind.u8.max)) = true := hk
  rw [Bool.and_eq_true, decide_eq_true_eq, decide_eq_true_eq, show IntKind.u8.min = 0 from rfl, show IntKind.u8.max = 255 from rfl] at hb
  have hs := h
  obtain ⟨p, cap, rfl, _⟩ := slB_shape h
  by_cases hc : 300 < l.length ∨ i < 1 ∨ (l.length : Int) ≤ i ∨ k = 0
  · exact wireSpoils_out p _ cap i k w hc
  · obtain ⟨n, rfl⟩ := Int.eq_ofNat_of_zero_le (show 0 ≤ i by omega)
    exact wireSpoils_in p cap l n k w hs (by omega) (by omega) (by omega) (by omega) (by omega)
end Go.Proofs.Ytjdpndclgmdahaa
