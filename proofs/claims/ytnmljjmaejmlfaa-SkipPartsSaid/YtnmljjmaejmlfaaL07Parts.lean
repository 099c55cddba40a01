/-
  The law SkipParts, walked. (written by wip/gen/law07.py)
-/
import Derived.Test.YtnmljjmaejmlfaaLaw07
namespace Go.Proofs.Ytnmljjmaejmlfaa
open Go.RowKit

set_option maxRecDepth 100000 in
set_option maxHeartbeats 8000000 in
theorem skipParts_n (p : Option Addr) (n cp : Nat) (l : List Nd) (i a b : Int) (w : World) (h : SlE Ene w (.slice p n cp) l) (hl : l.length = n) :
    Calls Try.prog 5 #[.agg (tr ⟨⟨p, n, cp⟩⟩), .int .i64 i, .int .i64 a, .int .i64 b] w fun e w' => e = .returned (.bool true) ∧ Below w.heap.size w w' := by
  have HMay := Lib.hid (fun W (g : SlE Ene W (.slice p n cp) l) => treeMay ⟨p, n, cp⟩ l W g)
  have V : Hid (Tw w (w.alloc (.cells (tr ⟨⟨p, n, cp⟩⟩) 24)) w.heap.size ⟨p, n, cp⟩ l) := tw_one h
  obtain ⟨W0, hW0⟩ : ∃ W0, W0 = w.alloc (.cells (tr ⟨⟨p, n, cp⟩⟩) 24) := ⟨_, rfl⟩
  rw [← hW0] at V
  have A := V
  have HW := Lib.hid hW0
  have HL := Lib.hid hl
  clear V hW0 h hl
  go_enter Try.func5, Try.ntmps5
  go_wp2_with fail
  rw [← HW.out]
  refine (awake_any _).mono ?_
  rintro e w1 ⟨rfl, g⟩
  replace A := Lib.hid (A.out.keep g)
  clear g
  have z1 := A.out.z1
  have z0 := A.out.z0
  rw [sv_mk] at z0
  go_wp2_with fail
  refine (HMay.out _ A.out.s).mono ?_
  rintro e w2 ⟨rfl, g⟩
  replace A := Lib.hid (A.out.keep g)
  clear g
  replace z1 := A.out.z1
  replace z0 := A.out.z0
  rw [sv_mk] at z0
  clear HMay
  by_cases hm : MayT l
  case neg =>
    rw [decide_eq_false hm]
    clear hm
    go_wp2_with fail
    go_ret
    exact ⟨rfl, A.out.g⟩
  rw [decide_eq_true hm]
  have HN : Hid (n ≤ 12) := by show n ≤ 12; have := hm.le; have := HL.out; omega
  have HM := Lib.hid hm
  by_cases hi0 : i < 0
  · have hi0i : decide (i < 0) = true := decide_eq_true (hi0)
    clear hi0
    go_wp2_with fail
    go_ret
    exact ⟨rfl, A.out.g⟩
  have hi0i : decide (i < 0) = false := decide_eq_false (hi0)
  by_cases hi1 : (n : Int) ≤ i
  · have hi1i : decide ((n : Int) ≤ i) = true := decide_eq_true (hi1)
    clear hi1
    go_wp2_with fail
    go_ret
    exact ⟨rfl, A.out.g⟩
  have hi1i : decide ((n : Int) ≤ i) = false := decide_eq_false (hi1)
  by_cases ha0 : a < 0
  · have ha0i : decide (a < 0) = true := decide_eq_true (ha0)
    clear ha0
    go_wp2_with fail
    go_ret
    exact ⟨rfl, A.out.g⟩
  have ha0i : decide (a < 0) = false := decide_eq_false (ha0)
  by_cases hb0 : b < 0
  · have hb0i : decide (b < 0) = true := decide_eq_true (hb0)
    clear hb0
    go_wp2_with fail
    go_ret
    exact ⟨rfl, A.out.g⟩
  have hb0i : decide (b < 0) = false := decide_eq_false (hb0)
  by_cases ha2 : (1000 : Int) < a
  · have ha2i : decide ((1000 : Int) < a) = true := decide_eq_true (ha2)
    clear ha2
    go_wp2_with fail
    go_ret
    exact ⟨rfl, A.out.g⟩
  have ha2i : decide ((1000 : Int) < a) = false := decide_eq_false (ha2)
  by_cases hb2 : (1000 : Int) < b
  · have hb2i : decide ((1000 : Int) < b) = true := decide_eq_true (hb2)
    clear hb2
    go_wp2_with fail
    go_ret
    exact ⟨rfl, A.out.g⟩
  have hb2i : decide ((1000 : Int) < b) = false := decide_eq_false (hb2)
  obtain ⟨i, rfl⟩ : ∃ i' : Nat, i = i' := ⟨i.toNat, by omega⟩
  have hi : i < l.length := by have := HL.out; omega
  have Hi := Lib.hid hi
  have hi1n : decide (n ≤ i) = false := decide_eq_false (by omega)
  obtain ⟨a, rfl⟩ : ∃ k' : Nat, a = k' := ⟨a.toNat, by omega⟩
  obtain ⟨b, rfl⟩ : ∃ k' : Nat, b = k' := ⟨b.toNat, by omega⟩
  have haT : a ≤ 1000 := by omega
  have hbT : b ≤ 1000 := by omega
  have ha2n : decide (1000 < a) = false := decide_eq_false (by omega)
  have hb2n : decide (1000 < b) = false := decide_eq_false (by omega)
  obtain ⟨d1, d2, d3, d4⟩ := law_up (a := a) (b := b) hm hi
  obtain ⟨D, hD⟩ : ∃ D, D = deepT l i := ⟨_, rfl⟩
  have HUa := Lib.hid (fun W (g : SlE Ene W (.slice p n cp) l) => skipUp ⟨p, n, cp⟩ l (i : Int) (a : Int) W g)
  rw [upZ_nat hm hi] at HUa
  have HDi := Lib.hid (fun W (g : SlE Ene W (.slice p n cp) l) => skipDeep ⟨p, n, cp⟩ l (i : Int) W g)
  rw [deepZ_nat hm hi] at HDi
  rw [← hD] at d1 d2 d3 d4 HDi
  have HUd := Lib.hid (fun W (g : SlE Ene W (.slice p n cp) l) => skipUp ⟨p, n, cp⟩ l (i : Int) (D : Int) W g)
  rw [upZ_nat hm hi, d1] at HUd
  have HUe := Lib.hid (fun W (g : SlE Ene W (.slice p n cp) l) => skipUp ⟨p, n, cp⟩ l (i : Int) ((D : Int) + 1) W g)
  rw [show (D : Int) + 1 = ((D + 1 : Nat) : Int) by omega, upZ_nat hm hi, d2, show ((D + 1 : Nat) : Int) = (D : Int) + 1 by omega] at HUe
  have HUs := Lib.hid (fun W (g : SlE Ene W (.slice p n cp) l) => skipUp ⟨p, n, cp⟩ l (i : Int) ((a : Int) + (b : Int)) W g)
  rw [show (a : Int) + (b : Int) = ((a + b : Nat) : Int) by omega, upZ_nat hm hi, show ((a + b : Nat) : Int) = (a : Int) + (b : Int) by omega] at HUs
  have uD : (D : Int) < 12 := by have := HN.out; have := HL.out; omega
  have ua : (a : Int) < 10000 := by omega
  have ub : (b : Int) < 10000 := by omega
  have us : (a : Int) + (b : Int) < 10000 := by omega
  have uE : (D : Int) + 1 < 10000 := by omega
  have tD0 : decide ((0 : Int) ≤ (D : Int)) = true := decide_eq_true (by omega)
  have tDi : decide ((D : Int) ≤ (i : Int)) = true := decide_eq_true (by omega)
  have tDi' : decide (D ≤ i) = true := decide_eq_true d3
  clear hi0 hi1 ha0 hb0 ha2 hb2 haT hbT d1 d2 d3 hD
  rcases d4 with ⟨hle, X, ex, hX, exb, edx, hab⟩ | ⟨hlt, ex⟩
  case inl =>
    rw [ex] at HUa
    rw [← exb] at HUs
    have HUb := Lib.hid (fun W (g : SlE Ene W (.slice p n cp) l) => skipUp ⟨p, n, cp⟩ l (X : Int) (b : Int) W g)
    rw [upZ_nat hm hX] at HUb
    have HDx := Lib.hid (fun W (g : SlE Ene W (.slice p n cp) l) => skipDeep ⟨p, n, cp⟩ l (X : Int) W g)
    rw [deepZ_nat hm hX] at HDx
    have HAb := Lib.hid (fun W (g : SlE Ene W (.slice p n cp) l) => treeAbove ⟨p, n, cp⟩ l (X : Int) (i : Int) W g)
    rw [aboveZ_nat hm hX hi, hab] at HAb
    obtain ⟨R, hR⟩ : ∃ R, R = upT l b X := ⟨_, rfl⟩
    rw [← hR] at HUb HUs
    obtain ⟨F, hF⟩ : ∃ F, F = deepT l X := ⟨_, rfl⟩
    rw [← hF] at HDx edx
    have t1 : ((F : Int) != (D : Int) - (a : Int)) = false := by rw [bne_eq_false_iff_eq]; omega
    have tX : decide ((0 : Int) ≤ (X : Int)) = true := decide_eq_true (by omega)
    have ta : decide ((a : Int) ≤ (D : Int)) = true := decide_eq_true (by omega)
    have ta' : decide (a ≤ D) = true := decide_eq_true hle
    have uda : (0 : Int) ≤ (D : Int) - (a : Int) := by omega
    clear ex exb hab hX hR hF hm hi edx hle
    go_wp2_with fail
    refine (HUa.out _ A.out.s).mono ?_
    rintro e w3 ⟨rfl, g⟩
    replace A := Lib.hid (A.out.keep g)
    clear g
    replace z1 := A.out.z1
    replace z0 := A.out.z0
    rw [sv_mk] at z0
    go_wp2_with fail
    refine (HDi.out _ A.out.s).mono ?_
    rintro e w4 ⟨rfl, g⟩
    replace A := Lib.hid (A.out.keep g)
    clear g
    replace z1 := A.out.z1
    replace z0 := A.out.z0
    rw [sv_mk] at z0
    go_wp2_with fail
    have L0 := fun p : Wd w4.drew => wd_tr A.out.box p
    refine wp_region_lex [6, 12, 14, 17, 23, 27] (by kernel_rfl) (by kernel_rfl) (by kernel_rfl) ?_
    repeat (first | (refine wpXL_quiet rfl rfl _ cls_begin ?_; (first | go_big_quiet_step (fail) | quiet_step (fail)); refine wpQuiet_nil ?_) | refine wpXL_skip rfl ?_)
    refine wpXL_call rfl rfl rfl enters_skipUp #[.agg (tr ⟨⟨p, n, cp⟩⟩), .int .i64 (X : Int), .int .i64 (b : Int)] rfl ?_
    refine (HUb.out _ (slE_keep (belowD (Below.refl _ _) 1) A.out.s)).mono ?_
    rintro e u ⟨rfl, g⟩
    refine ⟨_, rfl, g, ?_⟩
    simp only [Act.put, List.setIfInBounds_toArray, List.set_cons_zero, List.set_cons_succ]
    have G : Hid (Below w4.heap.size w4 u) := belowT (belowD (Below.refl _ _) 1) g
    clear g
    repeat (first | (refine wpXL_quiet rfl rfl _ cls_begin ?_; (first | go_big_quiet_step (fail) | quiet_step (fail)); refine wpQuiet_nil ?_) | refine wpXL_skip rfl ?_)
    refine wpXL_call rfl rfl rfl enters_skipUp #[.agg (tr ⟨⟨p, n, cp⟩⟩), .int .i64 (i : Int), .int .i64 ((a : Int) + (b : Int))] rfl ?_
    refine (HUs.out _ (slE_keep G.out A.out.s)).mono ?_
    rintro e u ⟨rfl, g⟩
    refine ⟨_, rfl, g, ?_⟩
    simp only [Act.put, List.setIfInBounds_toArray, List.set_cons_zero, List.set_cons_succ]
    replace G : Hid (Below w4.heap.size w4 u) := belowT G.out g
    clear g
    repeat (first | (refine wpXL_quiet rfl rfl _ cls_begin ?_; (first | go_big_quiet_step (fail) | quiet_step (fail)); refine wpQuiet_nil ?_) | refine wpXL_skip rfl ?_)
    refine wpXL_eff rfl rfl (.bool false) _ rfl (Below.refl _ _) ?_
    simp only [Act.put, List.setIfInBounds_toArray, List.set_cons_zero, List.set_cons_succ]
    repeat (first | (refine wpXL_quiet rfl rfl _ cls_begin ?_; (first | go_big_quiet_step (fail) | quiet_step (fail)); refine wpQuiet_nil ?_) | refine wpXL_skip rfl ?_)
    refine wpXL_call rfl rfl rfl enters_skipDeep #[.agg (tr ⟨⟨p, n, cp⟩⟩), .int .i64 (X : Int)] rfl ?_
    refine (HDx.out _ (slE_keep G.out A.out.s)).mono ?_
    rintro e u ⟨rfl, g⟩
    refine ⟨_, rfl, g, ?_⟩
    simp only [Act.put, List.setIfInBounds_toArray, List.set_cons_zero, List.set_cons_succ]
    replace G : Hid (Below w4.heap.size w4 u) := belowT G.out g
    clear g
    repeat (first | (refine wpXL_quiet rfl rfl _ cls_begin ?_; (first | go_big_quiet_step (fail) | quiet_step (fail)); refine wpQuiet_nil ?_) | refine wpXL_skip rfl ?_)
    refine wpXL_eff rfl rfl (.bool false) _ rfl (Below.refl _ _) ?_
    simp only [Act.put, List.setIfInBounds_toArray, List.set_cons_zero, List.set_cons_succ]
    repeat (first | (refine wpXL_quiet rfl rfl _ cls_begin ?_; (first | go_big_quiet_step (fail) | quiet_step (fail)); refine wpQuiet_nil ?_) | refine wpXL_skip rfl ?_)
    refine wpXL_call rfl rfl rfl enters_above06 #[.agg (tr ⟨⟨p, n, cp⟩⟩), .int .i64 (X : Int), .int .i64 (i : Int)] rfl ?_
    refine (HAb.out _ (slE_keep G.out A.out.s)).mono ?_
    rintro e u ⟨rfl, g⟩
    refine ⟨_, rfl, g, ?_⟩
    simp only [Act.put, List.setIfInBounds_toArray, List.set_cons_zero, List.set_cons_succ]
    replace G : Hid (Below w4.heap.size w4 u) := belowT G.out g
    clear g
    repeat (first | (refine wpXL_quiet rfl rfl _ cls_begin ?_; (first | go_big_quiet_step (fail) | quiet_step (fail)); refine wpQuiet_nil ?_) | refine wpXL_skip rfl ?_)
    refine wpXL_nil ?_
    clear L0
    replace A := Lib.hid (A.out.keep G.out)
    clear G
    obtain ⟨w5, rfl⟩ : ∃ W : World, W = u := ⟨_, rfl⟩
    replace z1 := A.out.z1
    replace z0 := A.out.z0
    rw [sv_mk] at z0
    go_wp2_with fail
    refine (HUd.out _ A.out.s).mono ?_
    rintro e w6 ⟨rfl, g⟩
    replace A := Lib.hid (A.out.keep g)
    clear g
    replace z1 := A.out.z1
    replace z0 := A.out.z0
    rw [sv_mk] at z0
    go_wp2_with fail
    refine (HUe.out _ A.out.s).mono ?_
    rintro e w7 ⟨rfl, g⟩
    replace A := Lib.hid (A.out.keep g)
    clear g
    replace z1 := A.out.z1
    replace z0 := A.out.z0
    rw [sv_mk] at z0
    go_wp2_with fail
    go_ret
    exact ⟨rfl, A.out.g⟩
  rw [ex] at HUa
  have ta : decide ((a : Int) ≤ (D : Int)) = false := decide_eq_false (by omega)
  have ta' : decide (a ≤ D) = false := decide_eq_false (by omega)
  clear ex hm hi hlt HUs
  go_wp2_with fail
  refine (HUa.out _ A.out.s).mono ?_
  rintro e w3 ⟨rfl, g⟩
  replace A := Lib.hid (A.out.keep g)
  clear g
  replace z1 := A.out.z1
  replace z0 := A.out.z0
  rw [sv_mk] at z0
  go_wp2_with fail
  refine (HDi.out _ A.out.s).mono ?_
  rintro e w4 ⟨rfl, g⟩
  replace A := Lib.hid (A.out.keep g)
  clear g
  replace z1 := A.out.z1
  replace z0 := A.out.z0
  rw [sv_mk] at z0
  go_wp2_with fail
  have L0 := fun p : Wd w4.drew => wd_tr A.out.box p
  refine wp_region_lex [6, 12, 14, 17, 23, 27] (by kernel_rfl) (by kernel_rfl) (by kernel_rfl) ?_
  repeat (first | (refine wpXL_quiet rfl rfl _ cls_begin ?_; (first | go_big_quiet_step (fail) | quiet_step (fail)); refine wpQuiet_nil ?_) | refine wpXL_skip rfl ?_)
  refine wpXL_nil ?_
  clear L0
  replace A := Lib.hid (A.out.keep (belowD (Below.refl _ _) 1))
  obtain ⟨w5, hw5⟩ : ∃ W : World, W = w4.drew := ⟨_, rfl⟩
  change Hid (Tw w w4.drew _ _ _) at A
  rw [← hw5] at A ⊢
  clear hw5
  replace z1 := A.out.z1
  replace z0 := A.out.z0
  rw [sv_mk] at z0
  go_wp2_with fail
  refine (HUd.out _ A.out.s).mono ?_
  rintro e w5 ⟨rfl, g⟩
  replace A := Lib.hid (A.out.keep g)
  clear g
  replace z1 := A.out.z1
  replace z0 := A.out.z0
  rw [sv_mk] at z0
  go_wp2_with fail
  refine (HUe.out _ A.out.s).mono ?_
  rintro e w6 ⟨rfl, g⟩
  replace A := Lib.hid (A.out.keep g)
  clear g
  replace z1 := A.out.z1
  replace z0 := A.out.z0
  rw [sv_mk] at z0
  go_wp2_with fail
  go_ret
  exact ⟨rfl, A.out.g⟩
/-- The law. -/
theorem skipPartsL (s : Tr) (l : List Nd) (i a b : Int) (w : World) (h : SlE Ene w (sv s.n) l) :
    Calls Try.prog 5 #[.agg (tr s), .int .i64 i, .int .i64 a, .int .i64 b] w fun e w' => e = .returned (.bool true) ∧ Below w.heap.size w w' := by
  obtain ⟨s⟩ := s
  have hn := sv_lenN h
  obtain ⟨p, n, cp⟩ := s
  exact skipParts_n p n cp l i a b w h hn
end Go.Proofs.Ytnmljjmaejmlfaa
