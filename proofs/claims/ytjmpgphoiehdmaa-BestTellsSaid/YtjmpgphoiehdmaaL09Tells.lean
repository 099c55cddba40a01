/-
  The law BestTells, walked. (written by wip/gen/law09.py)
-/
import Derived.Test.YtjmpgphoiehdmaaW09
import Derived.Test.YtjmpgphoiehdmaaTw
namespace Go.Proofs.Ytjmpgphoiehdmaa
open Go.RowKit

set_option maxRecDepth 100000 in
set_option maxHeartbeats 8000000 in
theorem bestTells_n (HKi : KidC) (HHe : HeadC) (HLi : LineC) (HAl : AllC) (p : Option Addr) (n cp : Nat) (l : List Nd) (q1 : Option Addr) (m1 c1 : Nat) (a : List UInt64) (q2 : Option Addr) (m2 c2 : Nat) (b : List Bool) (i : Int) (w : World) (h : SlE Ene w (.slice p n cp) l) (hl : l.length = n) (h1 : SlE Enum w (.slice q1 m1 c1) a) (e1 : a.length = m1) (h2 : SlE Eboo w (.slice q2 m2 c2) b) (e2 : b.length = m2) :
    Calls Try.prog 3 #[.agg (tr ⟨⟨p, n, cp⟩⟩), .slice q1 m1 c1, .slice q2 m2 c2, .int .i64 i] w fun e w' => e = .returned (.bool true) ∧ Below w.heap.size w w' := by
  have V : Hid (Tw w (w.alloc (.cells (tr ⟨⟨p, n, cp⟩⟩) 24)) w.heap.size ⟨p, n, cp⟩ l) := tw_one h
  obtain ⟨W0, hW0⟩ : ∃ W0, W0 = w.alloc (.cells (tr ⟨⟨p, n, cp⟩⟩) 24) := ⟨_, rfl⟩
  have hB : Below w.heap.size w W0 := by rw [hW0]; exact below1
  rw [← hW0] at V
  have A := V
  have HW := Lib.hid hW0
  have HL := Lib.hid hl
  have B1 : Hid (SlE Enum W0 (.slice q1 m1 c1) a) := slE_keep hB h1
  have E1 := Lib.hid e1
  have B2 : Hid (SlE Eboo W0 (.slice q2 m2 c2) b) := slE_keep hB h2
  have E2 := Lib.hid e2
  have HAw := Lib.hid (fun W => awake_any9 HKi HHe HLi HAl W)
  have HKi := Lib.hid HKi
  have HHe := Lib.hid HHe
  have HLi := Lib.hid HLi
  have HAl := Lib.hid HAl
  clear V hW0 hB h hl h1 e1 h2 e2
  go_enter Try.func3, Try.ntmps3
  go_wp2_with fail
  rw [← HW.out]
  refine (HAw.out _).mono ?_
  rintro e w1 ⟨rfl, g⟩
  replace A := Lib.hid (A.out.keep g)
  replace B1 := Lib.hid (slE_keep g B1.out)
  replace B2 := Lib.hid (slE_keep g B2.out)
  clear g
  have z1 := A.out.z1
  have z0 := A.out.z0
  rw [sv_mk] at z0
  by_cases h20 : 20 < n
  · have h20i : decide ((20 : Int) < (n : Int)) = true := decide_eq_true (by omega)
    have h20i' : decide (20 < n) = true := decide_eq_true (by omega)
    clear h20
    go_wp2_with fail
    go_ret
    exact ⟨rfl, A.out.g⟩
  have h20i : decide ((20 : Int) < (n : Int)) = false := decide_eq_false (by omega)
  have h20i' : decide (20 < n) = false := decide_eq_false (by omega)
  by_cases h41 : 40 < m1
  · have h41i : decide ((40 : Int) < (m1 : Int)) = true := decide_eq_true (by omega)
    have h41i' : decide (40 < m1) = true := decide_eq_true (by omega)
    clear h41
    go_wp2_with fail
    go_ret
    exact ⟨rfl, A.out.g⟩
  have h41i : decide ((40 : Int) < (m1 : Int)) = false := decide_eq_false (by omega)
  have h41i' : decide (40 < m1) = false := decide_eq_false (by omega)
  by_cases h42 : 40 < m2
  · have h42i : decide ((40 : Int) < (m2 : Int)) = true := decide_eq_true (by omega)
    have h42i' : decide (40 < m2) = true := decide_eq_true (by omega)
    clear h42
    go_wp2_with fail
    go_ret
    exact ⟨rfl, A.out.g⟩
  have h42i : decide ((40 : Int) < (m2 : Int)) = false := decide_eq_false (by omega)
  have h42i' : decide (40 < m2) = false := decide_eq_false (by omega)
  have hl20 : l.length ≤ 1000 := by have := HL.out; omega
  have HL1 := Lib.hid (fun W (g : SlE Ene W (.slice p n cp) l) (g1 : SlE Enum W (.slice q1 m1 c1) a) (g2 : SlE Eboo W (.slice q2 m2 c2) b) => HLi.out ⟨p, n, cp⟩ _ _ l a b i W g g1 g2)
  have HL2 := Lib.hid (fun W (g : SlE Ene W (.slice p n cp) l) (g1 : SlE Enum W (.slice q1 m1 c1) a) (g2 : SlE Eboo W (.slice q2 m2 c2) b) => (ref09Line ⟨p, n, cp⟩ _ _ l a b i W g g1 g2 hl20).mono fun _ _ h => h.list)
  have HA1 := Lib.hid (fun W (g : SlE Ene W (.slice p n cp) l) (g1 : SlE Enum W (.slice q1 m1 c1) a) (g2 : SlE Eboo W (.slice q2 m2 c2) b) => HAl.out ⟨p, n, cp⟩ _ _ l a b W g g1 g2)
  have HA2 := Lib.hid (fun W (g : SlE Ene W (.slice p n cp) l) (g1 : SlE Enum W (.slice q1 m1 c1) a) (g2 : SlE Eboo W (.slice q2 m2 c2) b) => (ref09All ⟨p, n, cp⟩ _ _ l a b W g g1 g2 hl20).mono fun _ _ h => h.pds)
  have HK1 := Lib.hid (fun W (g : SlE Ene W (.slice p n cp) l) (g1 : SlE Enum W (.slice q1 m1 c1) a) (g2 : SlE Eboo W (.slice q2 m2 c2) b) => HKi.out ⟨p, n, cp⟩ _ _ l a b i W g g1 g2)
  have HK2 := Lib.hid (fun W (g : SlE Ene W (.slice p n cp) l) (g1 : SlE Enum W (.slice q1 m1 c1) a) (g2 : SlE Eboo W (.slice q2 m2 c2) b) => ref09Kid ⟨p, n, cp⟩ _ _ l a b i W g g1 g2 hl20)
  have HH1 := Lib.hid (fun W (g : SlE Ene W (.slice p n cp) l) (g1 : SlE Enum W (.slice q1 m1 c1) a) (g2 : SlE Eboo W (.slice q2 m2 c2) b) => HHe.out ⟨p, n, cp⟩ _ _ l a b i W g g1 g2)
  have HH2 := Lib.hid (fun W (g : SlE Ene W (.slice p n cp) l) (g1 : SlE Enum W (.slice q1 m1 c1) a) (g2 : SlE Eboo W (.slice q2 m2 c2) b) => ref09Head ⟨p, n, cp⟩ _ _ l a b i W g g1 g2 hl20)
  have K1 : Hid ((wayZ l a b i).length ≤ 1000) := by show _ ≤ _; rcases wayZ_cases l a b i with ⟨e, _⟩ | ⟨_, e, _⟩; (· rw [e]; simp); (· omega)
  have K2 : Hid ((allZ l a b).length ≤ 1000) := by show _ ≤ _; cases ht : toldB l a b; (· rw [allZ_no ht]; simp); (· rw [allZ_yes ht, allUp_len]; omega)
  generalize wayZ l a b i = LW at *
  generalize allZ l a b = LA at *
  generalize kidZ l a b i = rk at *
  generalize headZ l a b i = rh at *
  clear hl20 h20 h41 h42
  go_wp2_with fail
  have L0 := fun p : Wd w1.drew => wd_tr A.out.box p
  refine wp_region_lex [4, 9, 10] (by kernel_rfl) (by kernel_rfl) (by kernel_rfl) ?_
  repeat (first | (refine wpXL_quiet rfl rfl _ cls_begin ?_; (first | go_big_quiet_step (fail) | quiet_step (fail)); refine wpQuiet_nil ?_) | refine wpXL_skip rfl ?_)
  refine wpXL_call rfl rfl rfl enters_bestLine #[.agg (tr ⟨⟨p, n, cp⟩⟩), .slice q1 m1 c1, .slice q2 m2 c2, .int .i64 i] rfl ?_
  refine (HL1.out _ (slE_keep (belowD (Below.refl _ _) 1) A.out.s) (slE_keep (belowD (Below.refl _ _) 1) B1.out) (slE_keep (belowD (Below.refl _ _) 1) B2.out)).mono ?_
  rintro e u ⟨vc, rfl, hs, g⟩
  refine ⟨_, rfl, g, ?_⟩
  simp only [Act.put, List.setIfInBounds_toArray, List.set_cons_zero, List.set_cons_succ]
  have G : Hid (Below w1.heap.size w1 u) := belowT (belowD (Below.refl _ _) 1) g
  have SC := Lib.hid hs
  clear hs
  clear g
  repeat (first | (refine wpXL_quiet rfl rfl _ cls_begin ?_; (first | go_big_quiet_step (fail) | quiet_step (fail)); refine wpQuiet_nil ?_) | refine wpXL_skip rfl ?_)
  refine wpXL_call rfl rfl rfl enters_ref09Line #[.agg (tr ⟨⟨p, n, cp⟩⟩), .slice q1 m1 c1, .slice q2 m2 c2, .int .i64 i] rfl ?_
  refine (HL2.out _ (slE_keep G.out A.out.s) (slE_keep G.out B1.out) (slE_keep G.out B2.out)).mono ?_
  rintro e u ⟨vd, rfl, hs, g⟩
  refine ⟨_, rfl, g, ?_⟩
  simp only [Act.put, List.setIfInBounds_toArray, List.set_cons_zero, List.set_cons_succ]
  replace G : Hid (Below w1.heap.size w1 u) := belowT G.out g
  have SD := Lib.hid hs
  replace SC := Lib.hid (slE_keep g SC.out)
  clear hs
  clear g
  repeat (first | (refine wpXL_quiet rfl rfl _ cls_begin ?_; (first | go_big_quiet_step (fail) | quiet_step (fail)); refine wpQuiet_nil ?_) | refine wpXL_skip rfl ?_)
  have hsm := ref04Ints vc vd LW LW _ SC.out SD.out K1.out
  rw [decide_eq_true rfl] at hsm
  refine wpXL_call rfl rfl rfl enters_ref04Ints #[vc, vd] rfl ?_
  refine (hsm).mono ?_
  rintro e u ⟨rfl, g⟩
  refine ⟨_, rfl, g, ?_⟩
  simp only [Act.put, List.setIfInBounds_toArray, List.set_cons_zero, List.set_cons_succ]
  replace G : Hid (Below w1.heap.size w1 u) := belowT G.out g
  clear hsm
  clear g
  repeat (first | (refine wpXL_quiet rfl rfl _ cls_begin ?_; (first | go_big_quiet_step (fail) | quiet_step (fail)); refine wpQuiet_nil ?_) | refine wpXL_skip rfl ?_)
  clear SC SD
  refine wpXL_nil ?_
  clear L0
  replace A := Lib.hid (A.out.keep G.out)
  replace B1 := Lib.hid (slE_keep G.out B1.out)
  replace B2 := Lib.hid (slE_keep G.out B2.out)
  clear G
  obtain ⟨w2, rfl⟩ : ∃ W : World, W = u := ⟨_, rfl⟩
  replace z1 := A.out.z1
  replace z0 := A.out.z0
  rw [sv_mk] at z0
  go_wp2_with fail
  have L0 := fun p : Wd w2.drew => wd_tr A.out.box p
  refine wp_region_lex [3, 7, 8] (by kernel_rfl) (by kernel_rfl) (by kernel_rfl) ?_
  repeat (first | (refine wpXL_quiet rfl rfl _ cls_begin ?_; (first | go_big_quiet_step (fail) | quiet_step (fail)); refine wpQuiet_nil ?_) | refine wpXL_skip rfl ?_)
  refine wpXL_call rfl rfl rfl enters_bestAll #[.agg (tr ⟨⟨p, n, cp⟩⟩), .slice q1 m1 c1, .slice q2 m2 c2] rfl ?_
  refine (HA1.out _ (slE_keep (belowD (Below.refl _ _) 1) A.out.s) (slE_keep (belowD (Below.refl _ _) 1) B1.out) (slE_keep (belowD (Below.refl _ _) 1) B2.out)).mono ?_
  rintro e u ⟨vc, rfl, hs, g⟩
  refine ⟨_, rfl, g, ?_⟩
  simp only [Act.put, List.setIfInBounds_toArray, List.set_cons_zero, List.set_cons_succ]
  have G : Hid (Below w2.heap.size w2 u) := belowT (belowD (Below.refl _ _) 1) g
  have SC := Lib.hid hs
  clear hs
  clear g
  repeat (first | (refine wpXL_quiet rfl rfl _ cls_begin ?_; (first | go_big_quiet_step (fail) | quiet_step (fail)); refine wpQuiet_nil ?_) | refine wpXL_skip rfl ?_)
  refine wpXL_call rfl rfl rfl enters_ref09All #[.agg (tr ⟨⟨p, n, cp⟩⟩), .slice q1 m1 c1, .slice q2 m2 c2] rfl ?_
  refine (HA2.out _ (slE_keep G.out A.out.s) (slE_keep G.out B1.out) (slE_keep G.out B2.out)).mono ?_
  rintro e u ⟨vd, rfl, hs, g⟩
  refine ⟨_, rfl, g, ?_⟩
  simp only [Act.put, List.setIfInBounds_toArray, List.set_cons_zero, List.set_cons_succ]
  replace G : Hid (Below w2.heap.size w2 u) := belowT G.out g
  have SD := Lib.hid hs
  replace SC := Lib.hid (slE_keep g SC.out)
  clear hs
  clear g
  repeat (first | (refine wpXL_quiet rfl rfl _ cls_begin ?_; (first | go_big_quiet_step (fail) | quiet_step (fail)); refine wpQuiet_nil ?_) | refine wpXL_skip rfl ?_)
  have hsm := ref09Pairs vc vd LA LA _ SC.out SD.out K2.out
  rw [decide_eq_true rfl] at hsm
  refine wpXL_call rfl rfl rfl enters_ref09Pairs #[vc, vd] rfl ?_
  refine (hsm).mono ?_
  rintro e u ⟨rfl, g⟩
  refine ⟨_, rfl, g, ?_⟩
  simp only [Act.put, List.setIfInBounds_toArray, List.set_cons_zero, List.set_cons_succ]
  replace G : Hid (Below w2.heap.size w2 u) := belowT G.out g
  clear hsm
  clear g
  repeat (first | (refine wpXL_quiet rfl rfl _ cls_begin ?_; (first | go_big_quiet_step (fail) | quiet_step (fail)); refine wpQuiet_nil ?_) | refine wpXL_skip rfl ?_)
  clear SC SD
  refine wpXL_nil ?_
  clear L0
  replace A := Lib.hid (A.out.keep G.out)
  replace B1 := Lib.hid (slE_keep G.out B1.out)
  replace B2 := Lib.hid (slE_keep G.out B2.out)
  clear G
  obtain ⟨w3, rfl⟩ : ∃ W : World, W = u := ⟨_, rfl⟩
  replace z1 := A.out.z1
  replace z0 := A.out.z0
  rw [sv_mk] at z0
  go_wp2_with fail
  have L0 := fun p : Wd w3.drew => wd_tr A.out.box p
  refine wp_region_lex [9, 14, 17, 22, 27] (by kernel_rfl) (by kernel_rfl) (by kernel_rfl) ?_
  repeat (first | (refine wpXL_quiet rfl rfl _ cls_begin ?_; (first | go_big_quiet_step (fail) | quiet_step (fail)); refine wpQuiet_nil ?_) | refine wpXL_skip rfl ?_)
  refine wpXL_call rfl rfl rfl enters_bestKid #[.agg (tr ⟨⟨p, n, cp⟩⟩), .slice q1 m1 c1, .slice q2 m2 c2, .int .i64 i] rfl ?_
  refine (HK1.out _ (slE_keep (belowD (Below.refl _ _) 1) A.out.s) (slE_keep (belowD (Below.refl _ _) 1) B1.out) (slE_keep (belowD (Below.refl _ _) 1) B2.out)).mono ?_
  rintro e u ⟨rfl, g⟩
  refine ⟨_, rfl, g, ?_⟩
  simp only [Act.put, List.setIfInBounds_toArray, List.set_cons_zero, List.set_cons_succ]
  have G : Hid (Below w3.heap.size w3 u) := belowT (belowD (Below.refl _ _) 1) g
  clear g
  repeat (first | (refine wpXL_quiet rfl rfl _ cls_begin ?_; (first | go_big_quiet_step (fail) | quiet_step (fail)); refine wpQuiet_nil ?_) | refine wpXL_skip rfl ?_)
  refine wpXL_call rfl rfl rfl enters_ref09Kid #[.agg (tr ⟨⟨p, n, cp⟩⟩), .slice q1 m1 c1, .slice q2 m2 c2, .int .i64 i] rfl ?_
  refine (HK2.out _ (slE_keep G.out A.out.s) (slE_keep G.out B1.out) (slE_keep G.out B2.out)).mono ?_
  rintro e u ⟨rfl, g⟩
  refine ⟨_, rfl, g, ?_⟩
  simp only [Act.put, List.setIfInBounds_toArray, List.set_cons_zero, List.set_cons_succ]
  replace G : Hid (Below w3.heap.size w3 u) := belowT G.out g
  clear g
  repeat (first | (refine wpXL_quiet rfl rfl _ cls_begin ?_; (first | go_big_quiet_step (fail) | quiet_step (fail)); refine wpQuiet_nil ?_) | refine wpXL_skip rfl ?_)
  refine wpXL_eff rfl rfl (.bool true) _ rfl (Below.refl _ _) ?_
  simp only [Act.put, List.setIfInBounds_toArray, List.set_cons_zero, List.set_cons_succ]
  repeat (first | (refine wpXL_quiet rfl rfl _ cls_begin ?_; (first | go_big_quiet_step (fail) | quiet_step (fail)); refine wpQuiet_nil ?_) | refine wpXL_skip rfl ?_)
  refine wpXL_call rfl rfl rfl enters_bestHead #[.agg (tr ⟨⟨p, n, cp⟩⟩), .slice q1 m1 c1, .slice q2 m2 c2, .int .i64 i] rfl ?_
  refine (HH1.out _ (slE_keep G.out A.out.s) (slE_keep G.out B1.out) (slE_keep G.out B2.out)).mono ?_
  rintro e u ⟨rfl, g⟩
  refine ⟨_, rfl, g, ?_⟩
  simp only [Act.put, List.setIfInBounds_toArray, List.set_cons_zero, List.set_cons_succ]
  replace G : Hid (Below w3.heap.size w3 u) := belowT G.out g
  clear g
  repeat (first | (refine wpXL_quiet rfl rfl _ cls_begin ?_; (first | go_big_quiet_step (fail) | quiet_step (fail)); refine wpQuiet_nil ?_) | refine wpXL_skip rfl ?_)
  refine wpXL_call rfl rfl rfl enters_ref09Head #[.agg (tr ⟨⟨p, n, cp⟩⟩), .slice q1 m1 c1, .slice q2 m2 c2, .int .i64 i] rfl ?_
  refine (HH2.out _ (slE_keep G.out A.out.s) (slE_keep G.out B1.out) (slE_keep G.out B2.out)).mono ?_
  rintro e u ⟨rfl, g⟩
  refine ⟨_, rfl, g, ?_⟩
  simp only [Act.put, List.setIfInBounds_toArray, List.set_cons_zero, List.set_cons_succ]
  replace G : Hid (Below w3.heap.size w3 u) := belowT G.out g
  clear g
  repeat (first | (refine wpXL_quiet rfl rfl _ cls_begin ?_; (first | go_big_quiet_step (fail) | quiet_step (fail)); refine wpQuiet_nil ?_) | refine wpXL_skip rfl ?_)
  refine wpXL_nil ?_
  clear L0
  replace A := Lib.hid (A.out.keep G.out)
  replace B1 := Lib.hid (slE_keep G.out B1.out)
  replace B2 := Lib.hid (slE_keep G.out B2.out)
  clear G
  obtain ⟨w4, rfl⟩ : ∃ W : World, W = u := ⟨_, rfl⟩
  replace z1 := A.out.z1
  replace z0 := A.out.z0
  rw [sv_mk] at z0
  go_wp2_with fail
  go_ret
  exact ⟨rfl, A.out.g⟩
/-- The law. -/
theorem bestTellsL (HKi : KidC) (HHe : HeadC) (HLi : LineC) (HAl : AllC) (s : Tr) (l : List Nd) (v1 : Value) (a : List UInt64) (v2 : Value) (b : List Bool) (i : Int) (w : World) (h : SlE Ene w (sv s.n) l) (h1 : SlE Enum w v1 a) (h2 : SlE Eboo w v2 b) :
    Calls Try.prog 3 #[.agg (tr s), v1, v2, .int .i64 i] w fun e w' => e = .returned (.bool true) ∧ Below w.heap.size w w' := by
  obtain ⟨s⟩ := s
  have hn := sv_lenN h
  obtain ⟨p, n, cp⟩ := s
  have k1 := h1
  have k2 := h2
  obtain ⟨q1, c1, rfl, _⟩ := slE_shape h1
  obtain ⟨q2, c2, rfl, _⟩ := slE_shape h2
  exact bestTells_n HKi HHe HLi HAl p n cp l q1 _ c1 a q2 _ c2 b i w h hn k1 rfl k2 rfl
end Go.Proofs.Ytjmpgphoiehdmaa
