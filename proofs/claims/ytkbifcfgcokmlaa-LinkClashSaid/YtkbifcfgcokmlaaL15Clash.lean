/-
  The law LinkClash, walked. (written by wip/gen/law15.py)
-/
import Derived.Test.YtkbifcfgcokmlaaQ19
import Derived.Deep.Cut
import Derived.Deep.CutRange
import Derived.Deep.RegionLaw
namespace Go.Proofs.Ytkbifcfgcokmlaa
open Go.RowKit
set_option maxRecDepth 100000

set_option maxRecDepth 100000 in
set_option maxHeartbeats 16000000 in
theorem linkClash_n (H : LinkC)  (a : Lk) (b : Lk) (w : World)  :
    Calls Try.prog 6 #[.agg (lk a), .agg (lk b)] w fun e w' => e = .returned (.bool true) ∧ Below w.heap.size w w' := by
  obtain ⟨W0, hW0⟩ : ∃ W0, W0 = ((w.alloc (.cells (lk a) 36)).alloc (.cells (lk b) 36)) := ⟨_, rfl⟩
  obtain ⟨hB, b0, b1, _⟩ := heap2 w _ _ _ _ W0 hW0
  have Ma : Hid (W0.heap[w.heap.size]? = some (.cells (lk a) 36 (0, 0))) := b0
  have Mb : Hid (W0.heap[w.heap.size + 1]? = some (.cells (lk b) 36 (0, 0))) := b1
  have A0 : Hid (Below w.heap.size w W0) := hB
  have HW := Lib.hid hW0
  have HAw := Lib.hid (fun W => awake_any15 H W)
  have HH := Lib.hid H
  have HC1 := Lib.hid (fun W => H.clash a b W)
  have HC2 := Lib.hid (fun W => H.clash b a W)
  have HC3 := Lib.hid (fun W => H.clash a a W)
  rw [clash_comm b a] at HC2
  rw [clash_self] at HC3
  obtain ⟨lw1, lw2⟩ := law_clash a b
  have HO : Hid (oneB a b = (decide (a.s = b.s) && decide (a.t = b.t))) := by show _ = _; unfold oneB; rw [Bool.eq_iff_iff]; simp
  obtain ⟨O, hO⟩ : ∃ O, O = oneB a b := ⟨_, rfl⟩
  rw [← hO] at lw1 HO
  obtain ⟨Cl, hCl⟩ : ∃ C, C = clashB a b := ⟨_, rfl⟩
  rw [← hCl] at HC1 HC2 lw1 lw2
  obtain ⟨AS, hAS⟩ : ∃ n, n = a.s.epoch.toNat := ⟨_, rfl⟩
  obtain ⟨AT, hAT⟩ : ∃ n, n = a.t.epoch.toNat := ⟨_, rfl⟩
  obtain ⟨BS, hBS⟩ : ∃ n, n = b.s.epoch.toNat := ⟨_, rfl⟩
  obtain ⟨BT, hBT⟩ : ∃ n, n = b.t.epoch.toNat := ⟨_, rfl⟩
  rw [← hAT, ← hBT] at lw1
  rw [← hAS, ← hAT, ← hBS, ← hBT] at lw2
  have LW1 := Lib.hid lw1
  have LW2 := Lib.hid lw2
  have HAS := Lib.hid hAS
  have HAT := Lib.hid hAT
  have HBS := Lib.hid hBS
  have HBT := Lib.hid hBT
  obtain ⟨E1, hE1⟩ : ∃ E, E = decide (a.s = b.s) := ⟨_, rfl⟩
  obtain ⟨E2, hE2⟩ : ∃ E, E = decide (a.t = b.t) := ⟨_, rfl⟩
  rw [← hE1, ← hE2] at HO
  have T1 := Lib.hid hE1.symm
  have T2 := Lib.hid hE2.symm
  clear lw1 lw2 hO hCl hAS hAT hBS hBT hE1 hE2
  clear H hW0 hB b0 b1
  go_enter Try.func6, Try.ntmps6
  go_upto_region 1 with fail
  rw [← HW.out]
  go_wp2_with fail
  refine (HAw.out _).mono ?_
  rintro e w1 ⟨rfl, g⟩
  replace Ma := Lib.hid (blk_keep g Ma.out)
  replace Mb := Lib.hid (blk_keep g Mb.out)
  replace A0 := Lib.hid (belowT A0.out g)
  clear g
  have fas := (lk_v Ma.out).s
  have fat := (lk_v Ma.out).t
  have fbs := (lk_v Mb.out).s
  have fbt := (lk_v Mb.out).t
  obtain ⟨SA, hSA⟩ : ∃ s, s = a.s := ⟨_, rfl⟩
  obtain ⟨TA, hTA⟩ : ∃ s, s = a.t := ⟨_, rfl⟩
  obtain ⟨SB, hSB⟩ : ∃ s, s = b.s := ⟨_, rfl⟩
  obtain ⟨TB, hTB⟩ : ∃ s, s = b.t := ⟨_, rfl⟩
  have t1 := T1.out
  have t2 := T2.out
  rw [← hSA, ← hSB] at t1
  rw [← hTA, ← hTB] at t2
  rw [← hSA] at fas
  rw [← hTA] at fat
  rw [← hSB] at fbs
  rw [← hTB] at fbt
  clear hSA hTA hSB hTB T1 T2
  have HOe : Hid (O = (E1 && E2)) := HO.out
  cases E1
  all_goals (cases E2)
  all_goals (
    go_upto_region 3 with fail
    clear t1 t2 fas fat fbs fbt
    have L0 := fun p : Wd w1.drew => wd_ld (lk_v Ma.out).a (by decide) p
    have L1 := fun p : Wd w1.drew => wd_ld (lk_v Mb.out).a (by decide) p
    refine wp_region_lex [5, 8, 11, 14] (by kernel_rfl) (by kernel_rfl) (by kernel_rfl) ?_
    repeat (first | (refine wpXL_quiet rfl rfl _ cls_begin ?_; (first | go_big_quiet_step (fail) | quiet_step (fail)); refine wpQuiet_nil ?_) | refine wpXL_skip rfl ?_)
    refine wpXL_call rfl rfl rfl enters_linkClash15 #[.agg (lk a), .agg (lk b)] rfl ?_
    refine (HC1.out _).mono ?_
    rintro e u1 ⟨rfl, g⟩
    refine ⟨_, rfl, g, ?_⟩
    simp only [Act.put, List.setIfInBounds_toArray, List.set_cons_zero, List.set_cons_succ]
    have G1 : Hid (Below w1.heap.size w1 u1) := belowT (belowD (Below.refl _ _) 1) g
    clear g
    repeat (first | (refine wpXL_quiet rfl rfl _ cls_begin ?_; (first | go_big_quiet_step (fail) | quiet_step (fail)); refine wpQuiet_nil ?_) | refine wpXL_skip rfl ?_)
    refine wpXL_call rfl rfl rfl enters_linkClash15 #[.agg (lk b), .agg (lk a)] rfl ?_
    refine (HC2.out _).mono ?_
    rintro e u2 ⟨rfl, g⟩
    refine ⟨_, rfl, g, ?_⟩
    simp only [Act.put, List.setIfInBounds_toArray, List.set_cons_zero, List.set_cons_succ]
    have G2 : Hid (Below w1.heap.size w1 u2) := belowT G1.out g
    clear g
    have n1 : (Cl != Cl) = false := by cases Cl <;> rfl
    repeat (first | (refine wpXL_quiet rfl rfl _ cls_begin ?_; (first | go_big_quiet_step (fail) | quiet_step (fail)); refine wpQuiet_nil ?_) | refine wpXL_skip rfl ?_)
    refine wpXL_eff rfl rfl (.bool false) _ rfl (Below.refl _ _) ?_
    simp only [Act.put, List.setIfInBounds_toArray, List.set_cons_zero, List.set_cons_succ]
    repeat (first | (refine wpXL_quiet rfl rfl _ cls_begin ?_; (first | go_big_quiet_step (fail) | quiet_step (fail)); refine wpQuiet_nil ?_) | refine wpXL_skip rfl ?_)
    refine wpXL_call rfl rfl rfl enters_linkClash15 #[.agg (lk a), .agg (lk a)] rfl ?_
    refine (HC3.out _).mono ?_
    rintro e u3 ⟨rfl, g⟩
    refine ⟨_, rfl, g, ?_⟩
    simp only [Act.put, List.setIfInBounds_toArray, List.set_cons_zero, List.set_cons_succ]
    have G3 : Hid (Below w1.heap.size w1 u3) := belowT G2.out g
    clear g
    repeat (first | (refine wpXL_quiet rfl rfl _ cls_begin ?_; (first | go_big_quiet_step (fail) | quiet_step (fail)); refine wpQuiet_nil ?_) | refine wpXL_skip rfl ?_)
    refine wpXL_nil ?_
    clear L0 L1 n1
    have A3 := Lib.hid (belowT A0.out G3.out)
    have Ma3 := Lib.hid (blk_keep G3.out Ma.out)
    have Mb3 := Lib.hid (blk_keep G3.out Mb.out)
    have a1 := (lk_v Ma3.out).te
    have a2 := (lk_v Ma3.out).se
    have b1 := (lk_v Mb3.out).te
    have b2 := (lk_v Mb3.out).se
    have a3 := (lk_v Ma3.out).a
    have b3 := (lk_v Mb3.out).a
    rw [← HAT.out] at a1
    rw [← HAS.out] at a2
    rw [← HBT.out] at b1
    rw [← HBS.out] at b2
    by_cases hT : AT = BT
    · have q1 : ((AT : Int) == (BT : Int)) = true := by rw [beq_iff_eq]; omega
      have q1' : (AT == BT) = true := by rw [beq_iff_eq]; exact hT
      have q1'' : decide (AT = BT) = true := decide_eq_true hT
      have hor := LW1.out hT
      have hoe := HOe.out
      clear hT
      first
        | (go_wp2_with fail
           go_ret
           exact ⟨rfl, A3.out⟩)
        | (go_wp2_with fail
           refine (HC1.out _).mono ?_
           rintro e u4 ⟨rfl, g⟩
           have A4 := Lib.hid (belowT A3.out g)
           clear g
           have hc : Hid (Cl = true) := by
             show Cl = true
             rcases hor with h | h
             · rw [hoe] at h; cases h
             · exact h
           go_wp2_with fail
           go_ret
           exact ⟨by rw [hc.out]; first | done | rfl, A4.out⟩)
    · have q1 : ((AT : Int) == (BT : Int)) = false := by rw [beq_eq_false_iff_ne]; omega
      have q1' : (AT == BT) = false := by rw [beq_eq_false_iff_ne]; exact hT
      have q1'' : decide (AT = BT) = false := decide_eq_false hT
      obtain ⟨P, hP⟩ : ∃ P, P = decide (AS < AT) := ⟨_, rfl⟩
      obtain ⟨Q, hQ⟩ : ∃ Q, Q = decide (AT ≤ BS) := ⟨_, rfl⟩
      obtain ⟨R, hR⟩ : ∃ R, R = decide (BS < BT) := ⟨_, rfl⟩
      have r1 : decide ((AS : Int) < (AT : Int)) = P := by rw [hP]; exact decide_eq_decide.2 (by omega)
      have r1' : decide (AS < AT) = P := hP.symm
      have r2 : decide ((AT : Int) ≤ (BS : Int)) = Q := by rw [hQ]; exact decide_eq_decide.2 (by omega)
      have r2' : decide (AT ≤ BS) = Q := hQ.symm
      have r3 : decide ((BS : Int) < (BT : Int)) = R := by rw [hR]; exact decide_eq_decide.2 (by omega)
      have r3' : decide (BS < BT) = R := hR.symm
      have HFin : Hid (P = true → Q = true → R = true → Cl = false) := fun e1 e2 e3 => by
        rw [hP] at e1; rw [hQ] at e2; rw [hR] at e3
        exact LW2.out (of_decide_eq_true e1) (of_decide_eq_true e2) (of_decide_eq_true e3)
      clear hP hQ hR hT
      cases P <;> cases Q <;> cases R <;> first
        | (go_wp2_with fail
           go_ret
           exact ⟨rfl, A3.out⟩)
        | (go_wp2_with fail
           refine (HC1.out _).mono ?_
           rintro e u4 ⟨rfl, g⟩
           have A4 := Lib.hid (belowT A3.out g)
           clear g
           have hc : Hid (Cl = false) := HFin.out (by first | rfl | trivial) (by first | rfl | trivial) (by first | rfl | trivial)
           go_wp2_with fail
           go_ret
           exact ⟨by rw [hc.out]; first | done | rfl, A4.out⟩))
/-- The law. -/
theorem linkClashL (H : LinkC)  (a : Lk) (b : Lk) (w : World)  :
    Calls Try.prog 6 #[.agg (lk a), .agg (lk b)] w fun e w' => e = .returned (.bool true) ∧ Below w.heap.size w w' := by
  exact linkClash_n H  a b w 
end Go.Proofs.Ytkbifcfgcokmlaa
