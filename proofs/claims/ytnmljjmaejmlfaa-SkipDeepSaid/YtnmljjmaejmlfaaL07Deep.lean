/-
  The law SkipDeep, walked. (written by wip/gen/law07.py)
-/
import Derived.Test.YtnmljjmaejmlfaaLaw07
namespace Go.Proofs.Ytnmljjmaejmlfaa
open Go.RowKit

set_option maxRecDepth 100000 in
set_option maxHeartbeats 8000000 in
theorem skipDeep_n (p : Option Addr) (n cp : Nat) (l : List Nd) (i k : Int) (w : World) (h : SlE Ene w (.slice p n cp) l) (hl : l.length = n) :
    Calls Try.prog 7 #[.agg (tr ⟨⟨p, n, cp⟩⟩), .int .i64 i, .int .i64 k] w fun e w' => e = .returned (.bool true) ∧ Below w.heap.size w w' := by
  have HMay := Lib.hid (fun W (g : SlE Ene W (.slice p n cp) l) => treeMay ⟨p, n, cp⟩ l W g)
  have V : Hid (Tw w (w.alloc (.cells (tr ⟨⟨p, n, cp⟩⟩) 24)) w.heap.size ⟨p, n, cp⟩ l) := tw_one h
  obtain ⟨W0, hW0⟩ : ∃ W0, W0 = w.alloc (.cells (tr ⟨⟨p, n, cp⟩⟩) 24) := ⟨_, rfl⟩
  rw [← hW0] at V
  have A := V
  have HW := Lib.hid hW0
  have HL := Lib.hid hl
  clear V hW0 h hl
  go_enter Try.func7, Try.ntmps7
  go_wp2_with fail
  rw [← HW.out]
  refine (awake_any _).mono ?_
  rintro e w1 ⟨rfl, g⟩
  replace A := Lib.hid (A.out.keep g)
  clear g
  have z1 := A.out.z1
  have z0 := A.out.z0
  rw [sv_mk] at z0
  go_wp2_with fail
  refine (HMay.out _ A.out.s).mono ?_
  rintro e w2 ⟨rfl, g⟩
  replace A := Lib.hid (A.out.keep g)
  clear g
  replace z1 := A.out.z1
  replace z0 := A.out.z0
  rw [sv_mk] at z0
  clear HMay
  by_cases hm : MayT l
  case neg =>
    rw [decide_eq_false hm]
    clear hm
    go_wp2_with fail
    go_ret
    exact ⟨rfl, A.out.g⟩
  rw [decide_eq_true hm]
  have HN : Hid (n ≤ 12) := by show n ≤ 12; have := hm.le; have := HL.out; omega
  have HM := Lib.hid hm
  by_cases hi0 : i < 0
  · have hi0i : decide (i < 0) = true := decide_eq_true (hi0)
    clear hi0
    go_wp2_with fail
    go_ret
    exact ⟨rfl, A.out.g⟩
  have hi0i : decide (i < 0) = false := decide_eq_false (hi0)
  by_cases hk0 : k < 0
  · have hk0i : decide (k < 0) = true := decide_eq_true (hk0)
    clear hk0
    go_wp2_with fail
    go_ret
    exact ⟨rfl, A.out.g⟩
  have hk0i : decide (k < 0) = false := decide_eq_false (hk0)
  by_cases hi1 : (n : Int) ≤ i
  · have hi1i : decide ((n : Int) ≤ i) = true := decide_eq_true (hi1)
    clear hi1
    go_wp2_with fail
    go_ret
    exact ⟨rfl, A.out.g⟩
  have hi1i : decide ((n : Int) ≤ i) = false := decide_eq_false (hi1)
  by_cases hk1 : (n : Int) ≤ k
  · have hk1i : decide ((n : Int) ≤ k) = true := decide_eq_true (hk1)
    clear hk1
    go_wp2_with fail
    go_ret
    exact ⟨rfl, A.out.g⟩
  have hk1i : decide ((n : Int) ≤ k) = false := decide_eq_false (hk1)
  obtain ⟨i, rfl⟩ : ∃ i' : Nat, i = i' := ⟨i.toNat, by omega⟩
  have hi : i < l.length := by have := HL.out; omega
  have Hi := Lib.hid hi
  have hi1n : decide (n ≤ i) = false := decide_eq_false (by omega)
  obtain ⟨k, rfl⟩ : ∃ k' : Nat, k = k' := ⟨k.toNat, by omega⟩
  have hk : k < l.length := by have := HL.out; omega
  have Hk := Lib.hid hk
  have hk1n : decide (n ≤ k) = false := decide_eq_false (by omega)
  obtain ⟨M, eM, hM, hMi, hMk⟩ := law_deep hm hi hk
  have HDi := Lib.hid (fun W (g : SlE Ene W (.slice p n cp) l) => skipDeep ⟨p, n, cp⟩ l (i : Int) W g)
  rw [deepZ_nat hm hi] at HDi
  have HDk := Lib.hid (fun W (g : SlE Ene W (.slice p n cp) l) => skipDeep ⟨p, n, cp⟩ l (k : Int) W g)
  rw [deepZ_nat hm hk] at HDk
  have HDm := Lib.hid (fun W (g : SlE Ene W (.slice p n cp) l) => skipDeep ⟨p, n, cp⟩ l (M : Int) W g)
  rw [deepZ_nat hm hM] at HDm
  have HMe := Lib.hid (fun W (g : SlE Ene W (.slice p n cp) l) => skipMeet ⟨p, n, cp⟩ l (i : Int) (k : Int) W g)
  rw [meetZ_nat hm hi hk, eM] at HMe
  have HEi := Lib.hid (show deepT l i < 12 by have := deep_le hm i hi; have := hm.le; omega)
  by_cases hz : i = 0
  case pos =>
    subst hz
    have hq0 : decide (n = 0) = false := decide_eq_false (by have := HL.out; omega)
    have hq1 : 0 < n := by have := HL.out; omega
    have e0 : deepT l 0 = 0 := deep_zero
    have em : deepT l M = 0 := by omega
    rw [em] at HDm
    clear HDi HMe
    have HDi := Lib.hid (fun W (g : SlE Ene W (.slice p n cp) l) => skipDeep ⟨p, n, cp⟩ l 0 W g)
    rw [show deepZ l 0 = 0 from (deepZ_nat hm hi).trans (by rw [e0]; rfl)] at HDi
    have HMe := Lib.hid (fun W (g : SlE Ene W (.slice p n cp) l) => skipMeet ⟨p, n, cp⟩ l 0 (k : Int) W g)
    rw [show meetZ l 0 (k : Int) = (M : Int) from (meetZ_nat hm hi hk).trans eM] at HMe
    clear hMi hMk eM hm hi hk hM e0 em hi0 hk0 hi1 hk1 Hi Hk HEi
    go_wp2_with fail
    refine (HDi.out _ A.out.s).mono ?_
    rintro e w3 ⟨rfl, g⟩
    replace A := Lib.hid (A.out.keep g)
    clear g
    replace z1 := A.out.z1
    replace z0 := A.out.z0
    rw [sv_mk] at z0
    go_wp2_with fail
    have L0 := fun p : Wd w3.drew => wd_tr A.out.box p
    refine wp_region_lex [4, 5] (by kernel_rfl) (by kernel_rfl) (by kernel_rfl) ?_
    repeat (first | (refine wpXL_quiet rfl rfl _ cls_begin ?_; (first | go_big_quiet_step (fail) | quiet_step (fail)); refine wpQuiet_nil ?_) | refine wpXL_skip rfl ?_)
    refine wpXL_call rfl rfl rfl enters_skipMeet #[.agg (tr ⟨⟨p, n, cp⟩⟩), .int .i64 0, .int .i64 (k : Int)] rfl ?_
    refine (HMe.out _ (slE_keep (belowD (Below.refl _ _) 1) A.out.s)).mono ?_
    rintro e u ⟨rfl, g⟩
    refine ⟨_, rfl, g, ?_⟩
    simp only [Act.put, List.setIfInBounds_toArray, List.set_cons_zero, List.set_cons_succ]
    have G : Hid (Below w3.heap.size w3 u) := belowT (belowD (Below.refl _ _) 1) g
    clear g
    repeat (first | (refine wpXL_quiet rfl rfl _ cls_begin ?_; (first | go_big_quiet_step (fail) | quiet_step (fail)); refine wpQuiet_nil ?_) | refine wpXL_skip rfl ?_)
    refine wpXL_call rfl rfl rfl enters_skipDeep #[.agg (tr ⟨⟨p, n, cp⟩⟩), .int .i64 (M : Int)] rfl ?_
    refine (HDm.out _ (slE_keep G.out A.out.s)).mono ?_
    rintro e u ⟨rfl, g⟩
    refine ⟨_, rfl, g, ?_⟩
    simp only [Act.put, List.setIfInBounds_toArray, List.set_cons_zero, List.set_cons_succ]
    replace G : Hid (Below w3.heap.size w3 u) := belowT G.out g
    clear g
    repeat (first | (refine wpXL_quiet rfl rfl _ cls_begin ?_; (first | go_big_quiet_step (fail) | quiet_step (fail)); refine wpQuiet_nil ?_) | refine wpXL_skip rfl ?_)
    refine wpXL_nil ?_
    clear L0
    replace A := Lib.hid (A.out.keep G.out)
    clear G
    obtain ⟨w4, rfl⟩ : ∃ W : World, W = u := ⟨_, rfl⟩
    replace z1 := A.out.z1
    replace z0 := A.out.z0
    rw [sv_mk] at z0
    go_wp2_with fail
    go_ret
    exact ⟨rfl, A.out.g⟩
  have hz0 : 0 < i := Nat.pos_of_ne_zero hz
  obtain ⟨ep, hu, _⟩ := hm.par hz0 hi
  have ed := deep_up hm hz0 hi
  have HDu := Lib.hid (fun W (g : SlE Ene W (.slice p n cp) l) => skipDeep ⟨p, n, cp⟩ l ((up l i : Nat) : Int) W g)
  rw [deepZ_nat hm (by omega)] at HDu
  have HPx := Lib.hid ep
  obtain ⟨U, hU⟩ : ∃ U, U = deepT l (up l i) := ⟨_, rfl⟩
  obtain ⟨D, hD⟩ : ∃ D, D = deepT l i := ⟨_, rfl⟩
  obtain ⟨F, hF⟩ : ∃ F, F = deepT l M := ⟨_, rfl⟩
  obtain ⟨K, hK⟩ : ∃ K, K = deepT l k := ⟨_, rfl⟩
  rw [← hU] at HDu ed
  rw [← hD] at HDi ed HEi hMi
  rw [← hF] at HDm hMi hMk
  rw [← hK] at HDk hMk
  have hN0 : ((i : Int) == 0) = false := by simpa using hz
  have u1 : (U : Int) + 1 < 10000 := by have := HEi.out; omega
  have t1 : ((D : Int) == (U : Int) + 1) = true := by rw [beq_iff_eq]; omega
  have t2 : decide ((0 : Int) ≤ (F : Int)) = true := decide_eq_true (by omega)
  have t3 : decide ((F : Int) ≤ (D : Int)) = true := decide_eq_true (by omega)
  have t3' : decide (F ≤ D) = true := decide_eq_true hMi
  have t4 : decide ((F : Int) ≤ (K : Int)) = true := decide_eq_true (by omega)
  have t4' : decide (F ≤ K) = true := decide_eq_true hMk
  have ix0 : (0 : Int) ≤ (i : Int) := by omega
  have ix1 : (i : Int) < (n : Int) := by have := HL.out; omega
  clear hMi hMk eM hm hk hM hi0 hk0 hi1 hk1 hz hz0 ep hu ed hU hD hF hK HEi hi
  go_wp2_with fail
  refine (HDi.out _ A.out.s).mono ?_
  rintro e w3 ⟨rfl, g⟩
  replace A := Lib.hid (A.out.keep g)
  clear g
  replace z1 := A.out.z1
  replace z0 := A.out.z0
  rw [sv_mk] at z0
  go_wp2_with fail
  have L0 := fun p : Wd w3.drew => wd_tr A.out.box p
  refine wp_region_lex [4, 5] (by kernel_rfl) (by kernel_rfl) (by kernel_rfl) ?_
  repeat (first | (refine wpXL_quiet rfl rfl _ cls_begin ?_; (first | go_big_quiet_step (fail) | quiet_step (fail)); refine wpQuiet_nil ?_) | refine wpXL_skip rfl ?_)
  refine wpXL_call rfl rfl rfl enters_skipMeet #[.agg (tr ⟨⟨p, n, cp⟩⟩), .int .i64 (i : Int), .int .i64 (k : Int)] rfl ?_
  refine (HMe.out _ (slE_keep (belowD (Below.refl _ _) 1) A.out.s)).mono ?_
  rintro e u ⟨rfl, g⟩
  refine ⟨_, rfl, g, ?_⟩
  simp only [Act.put, List.setIfInBounds_toArray, List.set_cons_zero, List.set_cons_succ]
  have G : Hid (Below w3.heap.size w3 u) := belowT (belowD (Below.refl _ _) 1) g
  clear g
  repeat (first | (refine wpXL_quiet rfl rfl _ cls_begin ?_; (first | go_big_quiet_step (fail) | quiet_step (fail)); refine wpQuiet_nil ?_) | refine wpXL_skip rfl ?_)
  refine wpXL_call rfl rfl rfl enters_skipDeep #[.agg (tr ⟨⟨p, n, cp⟩⟩), .int .i64 (M : Int)] rfl ?_
  refine (HDm.out _ (slE_keep G.out A.out.s)).mono ?_
  rintro e u ⟨rfl, g⟩
  refine ⟨_, rfl, g, ?_⟩
  simp only [Act.put, List.setIfInBounds_toArray, List.set_cons_zero, List.set_cons_succ]
  replace G : Hid (Below w3.heap.size w3 u) := belowT G.out g
  clear g
  repeat (first | (refine wpXL_quiet rfl rfl _ cls_begin ?_; (first | go_big_quiet_step (fail) | quiet_step (fail)); refine wpQuiet_nil ?_) | refine wpXL_skip rfl ?_)
  refine wpXL_nil ?_
  clear L0
  replace A := Lib.hid (A.out.keep G.out)
  clear G
  obtain ⟨w4, rfl⟩ : ∃ W : World, W = u := ⟨_, rfl⟩
  replace z1 := A.out.z1
  replace z0 := A.out.z0
  rw [sv_mk] at z0
  obtain ⟨b1, o1, rfl, _, x1⟩ := slE_ptr A.out.s (by have := Hi.out; omega)
  have y1 := nds_par x1 (i := i) Hi.out
  rw [HPx.out] at y1
  go_wp2_with fail
  have L0 := fun p : Wd w4.drew => wd_tr A.out.box p
  have L1 := fun p : Wd w4.drew => wd_cell z0 p
  have L2 := fun p : Wd w4.drew => wd_cell y1 p
  refine wp_region_lex [8, 11, 15, 20, 24] (by kernel_rfl) (by kernel_rfl) (by kernel_rfl) ?_
  repeat (first | (refine wpXL_quiet rfl rfl _ cls_begin ?_; (first | go_big_quiet_step (fail) | quiet_step (fail)); refine wpQuiet_nil ?_) | refine wpXL_skip rfl ?_)
  refine wpXL_call rfl rfl rfl enters_skipDeep #[.agg (tr ⟨⟨some ⟨b1, o1, none⟩, n, cp⟩⟩), .int .i64 ((up l i : Nat) : Int)] rfl ?_
  refine (HDu.out _ (slE_keep (belowD (Below.refl _ _) 1) A.out.s)).mono ?_
  rintro e u ⟨rfl, g⟩
  refine ⟨_, rfl, g, ?_⟩
  simp only [Act.put, List.setIfInBounds_toArray, List.set_cons_zero, List.set_cons_succ]
  have G : Hid (Below w4.heap.size w4 u) := belowT (belowD (Below.refl _ _) 1) g
  clear g
  repeat (first | (refine wpXL_quiet rfl rfl _ cls_begin ?_; (first | go_big_quiet_step (fail) | quiet_step (fail)); refine wpQuiet_nil ?_) | refine wpXL_skip rfl ?_)
  refine wpXL_eff rfl rfl (.bool true) _ rfl (Below.refl _ _) ?_
  simp only [Act.put, List.setIfInBounds_toArray, List.set_cons_zero, List.set_cons_succ]
  repeat (first | (refine wpXL_quiet rfl rfl _ cls_begin ?_; (first | go_big_quiet_step (fail) | quiet_step (fail)); refine wpQuiet_nil ?_) | refine wpXL_skip rfl ?_)
  refine wpXL_eff rfl rfl (.bool true) _ rfl (Below.refl _ _) ?_
  simp only [Act.put, List.setIfInBounds_toArray, List.set_cons_zero, List.set_cons_succ]
  repeat (first | (refine wpXL_quiet rfl rfl _ cls_begin ?_; (first | go_big_quiet_step (fail) | quiet_step (fail)); refine wpQuiet_nil ?_) | refine wpXL_skip rfl ?_)
  refine wpXL_eff rfl rfl (.bool true) _ rfl (Below.refl _ _) ?_
  simp only [Act.put, List.setIfInBounds_toArray, List.set_cons_zero, List.set_cons_succ]
  repeat (first | (refine wpXL_quiet rfl rfl _ cls_begin ?_; (first | go_big_quiet_step (fail) | quiet_step (fail)); refine wpQuiet_nil ?_) | refine wpXL_skip rfl ?_)
  refine wpXL_call rfl rfl rfl enters_skipDeep #[.agg (tr ⟨⟨some ⟨b1, o1, none⟩, n, cp⟩⟩), .int .i64 (k : Int)] rfl ?_
  refine (HDk.out _ (slE_keep G.out A.out.s)).mono ?_
  rintro e u ⟨rfl, g⟩
  refine ⟨_, rfl, g, ?_⟩
  simp only [Act.put, List.setIfInBounds_toArray, List.set_cons_zero, List.set_cons_succ]
  replace G : Hid (Below w4.heap.size w4 u) := belowT G.out g
  clear g
  repeat (first | (refine wpXL_quiet rfl rfl _ cls_begin ?_; (first | go_big_quiet_step (fail) | quiet_step (fail)); refine wpQuiet_nil ?_) | refine wpXL_skip rfl ?_)
  refine wpXL_nil ?_
  clear L0 L1 L2
  replace A := Lib.hid (A.out.keep G.out)
  clear G
  obtain ⟨w5, rfl⟩ : ∃ W : World, W = u := ⟨_, rfl⟩
  replace z1 := A.out.z1
  replace z0 := A.out.z0
  rw [sv_mk] at z0
  go_wp2_with fail
  go_ret
  exact ⟨rfl, A.out.g⟩
/-- The law. -/
theorem skipDeepL (s : Tr) (l : List Nd) (i k : Int) (w : World) (h : SlE Ene w (sv s.n) l) :
    Calls Try.prog 7 #[.agg (tr s), .int .i64 i, .int .i64 k] w fun e w' => e = .returned (.bool true) ∧ Below w.heap.size w w' := by
  obtain ⟨s⟩ := s
  have hn := sv_lenN h
  obtain ⟨p, n, cp⟩ := s
  exact skipDeep_n p n cp l i k w h hn
end Go.Proofs.Ytnmljjmaejmlfaa
