/-
  The law BestHead, walked. (written by wip/gen/law09.py)
-/
import Derived.Test.YtjmpgphoiehdmaaW09
import Derived.Test.YtjmpgphoiehdmaaTw
import Derived.Test.YtjmpgphoiehdmaaP06May
import Derived.Test.YtjmpgphoiehdmaaP06Above
namespace Go.Proofs.Ytjmpgphoiehdmaa
open Go.RowKit

set_option maxRecDepth 100000 in
set_option maxHeartbeats 8000000 in
theorem bestHead_n (HKi : KidC) (HHe : HeadC) (HLi : LineC) (HAl : AllC) (p : Option Addr) (n cp : Nat) (l : List Nd) (q1 : Option Addr) (m1 c1 : Nat) (a : List UInt64) (q2 : Option Addr) (m2 c2 : Nat) (b : List Bool) (i : Int) (w : World) (h : SlE Ene w (.slice p n cp) l) (hl : l.length = n) (h1 : SlE Enum w (.slice q1 m1 c1) a) (e1 : a.length = m1) (h2 : SlE Eboo w (.slice q2 m2 c2) b) (e2 : b.length = m2) :
    Calls Try.prog 5 #[.agg (tr ⟨⟨p, n, cp⟩⟩), .slice q1 m1 c1, .slice q2 m2 c2, .int .i64 i] w fun e w' => e = .returned (.bool true) ∧ Below w.heap.size w w' := by
  have V : Hid (Tw w (w.alloc (.cells (tr ⟨⟨p, n, cp⟩⟩) 24)) w.heap.size ⟨p, n, cp⟩ l) := tw_one h
  obtain ⟨W0, hW0⟩ : ∃ W0, W0 = w.alloc (.cells (tr ⟨⟨p, n, cp⟩⟩) 24) := ⟨_, rfl⟩
  have hB : Below w.heap.size w W0 := by rw [hW0]; exact below1
  rw [← hW0] at V
  have A := V
  have HW := Lib.hid hW0
  have HL := Lib.hid hl
  have B1 : Hid (SlE Enum W0 (.slice q1 m1 c1) a) := slE_keep hB h1
  have E1 := Lib.hid e1
  have B2 : Hid (SlE Eboo W0 (.slice q2 m2 c2) b) := slE_keep hB h2
  have E2 := Lib.hid e2
  have HAw := Lib.hid (fun W => awake_any9 HKi HHe HLi HAl W)
  have HKi := Lib.hid HKi
  have HHe := Lib.hid HHe
  have HLi := Lib.hid HLi
  have HAl := Lib.hid HAl
  clear V hW0 hB h hl h1 e1 h2 e2
  have HMay := Lib.hid (fun W (g : SlE Ene W (.slice p n cp) l) => treeMay ⟨p, n, cp⟩ l W g)
  go_enter Try.func5, Try.ntmps5
  go_wp2_with fail
  rw [← HW.out]
  refine (HAw.out _).mono ?_
  rintro e w1 ⟨rfl, g⟩
  replace A := Lib.hid (A.out.keep g)
  replace B1 := Lib.hid (slE_keep g B1.out)
  replace B2 := Lib.hid (slE_keep g B2.out)
  clear g
  have z1 := A.out.z1
  have z0 := A.out.z0
  rw [sv_mk] at z0
  go_wp2_with fail
  refine (HMay.out _ A.out.s).mono ?_
  rintro e w2 ⟨rfl, g⟩
  replace A := Lib.hid (A.out.keep g)
  replace B1 := Lib.hid (slE_keep g B1.out)
  replace B2 := Lib.hid (slE_keep g B2.out)
  clear g
  replace z1 := A.out.z1
  replace z0 := A.out.z0
  rw [sv_mk] at z0
  clear HMay
  by_cases hm : MayT l
  case neg =>
    rw [decide_eq_false hm]
    clear hm
    go_wp2_with fail
    go_ret
    exact ⟨rfl, A.out.g⟩
  rw [decide_eq_true hm]
  have HN : Hid (n ≤ 12) := by show n ≤ 12; have := hm.le; have := HL.out; omega
  have HM := Lib.hid hm
  clear hm
  by_cases hm1 : m1 = n
  case neg =>
    have hm1i : ((m1 : Int) != (n : Int)) = true := by rw [bne_iff_ne]; omega
    clear hm1
    go_wp2_with fail
    go_ret
    exact ⟨rfl, A.out.g⟩
  obtain rfl : n = m1 := hm1.symm
  have hnn : ((n : Int) != (n : Int)) = false := by simp
  by_cases hm2 : m2 = n
  case neg =>
    have hm2i : ((m2 : Int) != (n : Int)) = true := by rw [bne_iff_ne]; omega
    clear hm2
    go_wp2_with fail
    go_ret
    exact ⟨rfl, A.out.g⟩
  obtain rfl : n = m2 := hm2.symm
  have HTd : Hid (toldB l a b = true) := told_iff.2 ⟨HM.out, by rw [E1.out, HL.out], by rw [E2.out, HL.out]⟩
  by_cases hi0 : i < 0
  · have hi0i : decide (i < 0) = true := decide_eq_true (hi0)
    clear hi0
    go_wp2_with fail
    go_ret
    exact ⟨rfl, A.out.g⟩
  have hi0i : decide (i < 0) = false := decide_eq_false (hi0)
  by_cases hi1 : (n : Int) ≤ i
  · have hi1i : decide ((n : Int) ≤ i) = true := decide_eq_true (hi1)
    clear hi1
    go_wp2_with fail
    go_ret
    exact ⟨rfl, A.out.g⟩
  have hi1i : decide ((n : Int) ≤ i) = false := decide_eq_false (hi1)
  obtain ⟨i, rfl⟩ : ∃ i' : Nat, i = i' := ⟨i.toNat, by omega⟩
  have hi : i < l.length := by have := HL.out; omega
  have hi1n : decide (n ≤ i) = false := decide_eq_false (by omega)
  obtain ⟨a1, a2, a3, a4, a5, a6, a7, a8, a9⟩ := law_way (w := a) (b := b) HM.out hi
  have HH1 := Lib.hid (fun W (g : SlE Ene W (.slice p n cp) l) (g1 : SlE Enum W (.slice q1 n c1) a) (g2 : SlE Eboo W (.slice q2 n c2) b) => HHe.out ⟨p, n, cp⟩ _ _ l a b (i : Int) W g g1 g2)
  rw [headZ_nat HTd.out hi] at HH1
  have HL1 := Lib.hid (fun W (g : SlE Ene W (.slice p n cp) l) (g1 : SlE Enum W (.slice q1 n c1) a) (g2 : SlE Eboo W (.slice q2 n c2) b) => HLi.out ⟨p, n, cp⟩ _ _ l a b (i : Int) W g g1 g2)
  rw [wayZ_nat HTd.out hi] at HL1
  have HK1 := Lib.hid (fun W (g : SlE Ene W (.slice p n cp) l) (g1 : SlE Enum W (.slice q1 n c1) a) (g2 : SlE Eboo W (.slice q2 n c2) b) => HKi.out ⟨p, n, cp⟩ _ _ l a b (headN l a b i : Int) W g g1 g2)
  rw [kidZ_nat HTd.out a1, a3, optZ_none] at HK1
  have HAb := Lib.hid (fun W (g : SlE Ene W (.slice p n cp) l) => treeAbove ⟨p, n, cp⟩ l (i : Int) (headN l a b i : Int) W g)
  rw [aboveZ_nat HM.out hi a1, a2] at HAb
  have HKs : Hid (∀ W, SlE Ene W (.slice p n cp) l → SlE Enum W (.slice q1 n c1) a → SlE Eboo W (.slice q2 n c2) b → ∀ j, j + 1 < (wayN l a b i).length → Calls Try.prog 15 #[.agg (tr ⟨⟨p, n, cp⟩⟩), .slice q1 n c1, .slice q2 n c2, .int .i64 ((wayN l a b i).getD j 0 : Int)] W fun e w' => e = .returned (.int .i64 ((wayN l a b i).getD (j + 1) 0 : Int)) ∧ Below W.heap.size W w') := fun W g g1 g2 j hj => by
    have := HKi.out ⟨p, n, cp⟩ _ _ l a b ((wayN l a b i).getD j 0 : Int) W g g1 g2
    rwa [kidZ_nat HTd.out (a8 j (by omega)).1, a9 j hj, optZ_some] at this
  have HHs : Hid (∀ W, SlE Ene W (.slice p n cp) l → SlE Enum W (.slice q1 n c1) a → SlE Eboo W (.slice q2 n c2) b → ∀ j, j < (wayN l a b i).length → Calls Try.prog 17 #[.agg (tr ⟨⟨p, n, cp⟩⟩), .slice q1 n c1, .slice q2 n c2, .int .i64 ((wayN l a b i).getD j 0 : Int)] W fun e w' => e = .returned (.int .i64 (headN l a b i : Int)) ∧ Below W.heap.size W w') := fun W g g1 g2 j hj => by
    have := HHe.out ⟨p, n, cp⟩ _ _ l a b ((wayN l a b i).getD j 0 : Int) W g g1 g2
    rwa [headZ_nat HTd.out (a8 j hj).1, (a8 j hj).2] at this
  obtain ⟨H, hH⟩ : ∃ H, H = headN l a b i := ⟨_, rfl⟩
  rw [← hH] at HH1 HK1 HAb HHs a7
  obtain ⟨K, hK⟩ : ∃ K, K = wayN l a b i := ⟨_, rfl⟩
  rw [← hK] at HL1 HKs HHs a4 a5 a6 a7
  obtain ⟨m, hm⟩ : ∃ m, K.length = m + 1 := ⟨K.length - 1, by omega⟩
  have HmK := Lib.hid hm
  rw [hm, Nat.add_sub_cancel] at a7
  have H6 := Lib.hid a6
  have H7 := Lib.hid a7
  have Hm12 : Hid (m ≤ 12) := by show m ≤ 12; have := HL.out; have := HN.out; omega
  clear hi0 hi1 hi a1 a2 a3 a4 a5 a6 a7 a8 a9 hH hK hm
  go_wp2_with fail
  refine (HH1.out _ A.out.s B1.out B2.out).mono ?_
  rintro e w3 ⟨rfl, g⟩
  replace A := Lib.hid (A.out.keep g)
  replace B1 := Lib.hid (slE_keep g B1.out)
  replace B2 := Lib.hid (slE_keep g B2.out)
  clear g
  replace z1 := A.out.z1
  replace z0 := A.out.z0
  rw [sv_mk] at z0
  go_wp2_with fail
  refine (HL1.out _ A.out.s B1.out B2.out).mono ?_
  rintro e w4 ⟨va, rfl, hv, g⟩
  replace A := Lib.hid (A.out.keep g)
  replace B1 := Lib.hid (slE_keep g B1.out)
  replace B2 := Lib.hid (slE_keep g B2.out)
  obtain ⟨pv, cv, rfl⟩ := slE_len hv (n := m + 1) (by rw [List.length_map, HmK.out])
  have HV := Lib.hid hv
  clear hv
  clear g
  replace z1 := A.out.z1
  replace z0 := A.out.z0
  rw [sv_mk] at z0
  obtain ⟨b3, o3, rfl, r3, x3⟩ := ints_ptr HV.out (by rw [List.length_map, HmK.out]; omega)
  have X3 := Lib.hid x3
  have HCell : Hid (∀ W j, Below w4.heap.size w4 W → j < m + 1 → W.cell? ⟨b3, o3 + j, none⟩ = some (.int .i64 (K.getD j 0 : Int))) := fun W j g hj => by
    have y := ints_at (keepR g X3.out) (i := j) (by rw [List.length_map, HmK.out]; exact hj)
    rw [y]
    congr 2
    rw [List.getD_eq_getElem?_getD, List.getD_eq_getElem?_getD, List.getElem?_map, List.getElem?_eq_getElem (show j < K.length by rw [HmK.out]; exact hj)]
    rfl
  have y0 := HCell.out w4 0 (Below.refl _ _) (by omega)
  rw [H6.out, Nat.add_zero] at y0
  have y1 := HCell.out w4 m (Below.refl _ _) (by omega)
  rw [H7.out] at y1
  have t0 : (((m + 1 : Nat) : Int) == 0) = false := by rw [beq_eq_false_iff_ne]; omega
  have t1 : ((m + 1 : Nat) : Int) - 1 = (m : Int) := by omega
  have i0 : (0 : Int) ≤ (m : Int) := by omega
  have i1 : (m : Int) < ((m + 1 : Nat) : Int) := by omega
  have i2 : (0 : Int) < ((m + 1 : Nat) : Int) := by omega
  have u0 : (m : Int) + 1 < 10000 := by have := Hm12.out; omega
  clear r3 x3
  have HBc : Hid (Below w4.heap.size w4 w4) := Below.refl _ _
  go_wp2_with fail
  refine (HAb.out _ A.out.s).mono ?_
  rintro e w5 ⟨rfl, g⟩
  replace A := Lib.hid (A.out.keep g)
  replace B1 := Lib.hid (slE_keep g B1.out)
  replace B2 := Lib.hid (slE_keep g B2.out)
  replace HV := Lib.hid (slE_keep g HV.out)
  replace HBc := Lib.hid (belowT HBc.out g)
  clear g
  replace z1 := A.out.z1
  replace z0 := A.out.z0
  rw [sv_mk] at z0
  go_wp2_with fail
  refine (HK1.out _ A.out.s B1.out B2.out).mono ?_
  rintro e w6 ⟨rfl, g⟩
  replace A := Lib.hid (A.out.keep g)
  replace B1 := Lib.hid (slE_keep g B1.out)
  replace B2 := Lib.hid (slE_keep g B2.out)
  replace HV := Lib.hid (slE_keep g HV.out)
  replace HBc := Lib.hid (belowT HBc.out g)
  clear g
  replace z1 := A.out.z1
  replace z0 := A.out.z0
  rw [sv_mk] at z0
  go_wp2_with fail
  go_loopw [12] (fun k wr => ∃ j : Nat, j ≤ m ∧ k = .int .i64 ((j + 1 : Nat) : Int) ∧ Below w6.heap.size w6 wr) (fun k _ => m + 1 - (intOf k).toNat)
  case atStart => exact ⟨0, Nat.zero_le _, rfl, Below.refl _ _⟩
  case round =>
    obtain ⟨j, hj, rfl, hb⟩ := hrel
    have HBB := Lib.hid hb
    have A2 := Lib.hid (A.out.keep hb)
    have C1 := Lib.hid (slE_keep hb B1.out)
    have C2 := Lib.hid (slE_keep hb B2.out)
    have HC2 : Hid (∀ j, j < m + 1 → wr.cell? ⟨b3, o3 + j, none⟩ = some (.int .i64 (K.getD j 0 : Int))) := fun j hj => HCell.out wr j (belowT HBc.out hb) hj
    clear hb z0 z1 y0 y1
    by_cases hlt : j < m
    · have j0 : decide (((j + 1 : Nat) : Int) < ((m + 1 : Nat) : Int)) = true := decide_eq_true (by omega)
      have j0' : decide (j + 1 < m + 1) = true := decide_eq_true (by omega)
      have j0'' : decide (j < m) = true := decide_eq_true hlt
      have j1 : ((j + 1 : Nat) : Int) - 1 = (j : Int) := by omega
      have j2 : (0 : Int) ≤ (j : Int) := by omega
      have j3 : (j : Int) < ((m + 1 : Nat) : Int) := by omega
      have j4 : (0 : Int) ≤ ((j + 1 : Nat) : Int) := by omega
      have j5 : ((j + 1 : Nat) : Int) < ((m + 1 : Nat) : Int) := by omega
      have j6 : ((j + 1 : Nat) : Int) + 1 < 10000 := by have := Hm12.out; omega
      have ya := HC2.out j (by omega)
      have yb := HC2.out (j + 1) (by omega)
      have HCk := Lib.hid (fun W g g1 g2 => HKs.out W g g1 g2 j (by have := HmK.out; omega))
      have HCh := Lib.hid (fun W g g1 g2 => HHs.out W g g1 g2 (j + 1) (by have := HmK.out; omega))
      generalize K.getD j 0 = X at *
      generalize K.getD (j + 1) 0 = Y at *
      have HJT := Lib.hid hlt
      have z1 := A2.out.z1
      clear hlt
      obtain ⟨w9, rfl⟩ : ∃ W : World, W = wr := ⟨_, rfl⟩
      go_wp2_with fail
      have L0 := fun p : Wd w9.drew => wd_tr A2.out.box p
      have L1 := fun p : Wd w9.drew => wd_cell ya p
      have L2 := fun p : Wd w9.drew => wd_cell yb p
      refine wp_region_lex [8, 14, 22] (by kernel_rfl) (by kernel_rfl) (by kernel_rfl) ?_
      repeat (first | (refine wpXL_quiet rfl rfl _ cls_begin ?_; (first | go_big_quiet_step (fail) | quiet_step (fail)); refine wpQuiet_nil ?_) | refine wpXL_skip rfl ?_)
      refine wpXL_call rfl rfl rfl enters_bestKid #[.agg (tr ⟨⟨p, n, cp⟩⟩), .slice q1 n c1, .slice q2 n c2, .int .i64 (X : Int)] rfl ?_
      refine (HCk.out _ (slE_keep (belowD (Below.refl _ _) 1) A2.out.s) (slE_keep (belowD (Below.refl _ _) 1) C1.out) (slE_keep (belowD (Below.refl _ _) 1) C2.out)).mono ?_
      rintro e u ⟨rfl, g⟩
      refine ⟨_, rfl, g, ?_⟩
      simp only [Act.put, List.setIfInBounds_toArray, List.set_cons_zero, List.set_cons_succ]
      have G : Hid (Below w9.heap.size w9 u) := belowT (belowD (Below.refl _ _) 1) g
      clear g
      repeat (first | (refine wpXL_quiet rfl rfl _ cls_begin ?_; (first | go_big_quiet_step (fail) | quiet_step (fail)); refine wpQuiet_nil ?_) | refine wpXL_skip rfl ?_)
      refine wpXL_eff rfl rfl (.bool false) _ rfl (Below.refl _ _) ?_
      simp only [Act.put, List.setIfInBounds_toArray, List.set_cons_zero, List.set_cons_succ]
      repeat (first | (refine wpXL_quiet rfl rfl _ cls_begin ?_; (first | go_big_quiet_step (fail) | quiet_step (fail)); refine wpQuiet_nil ?_) | refine wpXL_skip rfl ?_)
      refine wpXL_call rfl rfl rfl enters_bestHead #[.agg (tr ⟨⟨p, n, cp⟩⟩), .slice q1 n c1, .slice q2 n c2, .int .i64 (Y : Int)] rfl ?_
      refine (HCh.out _ (slE_keep G.out A2.out.s) (slE_keep G.out C1.out) (slE_keep G.out C2.out)).mono ?_
      rintro e u ⟨rfl, g⟩
      refine ⟨_, rfl, g, ?_⟩
      simp only [Act.put, List.setIfInBounds_toArray, List.set_cons_zero, List.set_cons_succ]
      replace G : Hid (Below w9.heap.size w9 u) := belowT G.out g
      clear g
      repeat (first | (refine wpXL_quiet rfl rfl _ cls_begin ?_; (first | go_big_quiet_step (fail) | quiet_step (fail)); refine wpQuiet_nil ?_) | refine wpXL_skip rfl ?_)
      refine wpXL_nil ?_
      clear L0 L1 L2
      go_wp2_with fail
      go_roundw
      case rel => exact ⟨j + 1, HJT.out, by go_num, belowT HBB.out G.out⟩
      case measure => simp [intOf]; have := HJT.out; omega
    · obtain rfl : j = m := by omega
      have j0 : decide (((j + 1 : Nat) : Int) < ((j + 1 : Nat) : Int)) = false := decide_eq_false (Int.lt_irrefl _)
      clear hlt
      go_wp2_with fail
      go_ret
      exact ⟨rfl, belowT A.out.g HBB.out⟩
/-- The law. -/
theorem bestHeadL (HKi : KidC) (HHe : HeadC) (HLi : LineC) (HAl : AllC) (s : Tr) (l : List Nd) (v1 : Value) (a : List UInt64) (v2 : Value) (b : List Bool) (i : Int) (w : World) (h : SlE Ene w (sv s.n) l) (h1 : SlE Enum w v1 a) (h2 : SlE Eboo w v2 b) :
    Calls Try.prog 5 #[.agg (tr s), v1, v2, .int .i64 i] w fun e w' => e = .returned (.bool true) ∧ Below w.heap.size w w' := by
  obtain ⟨s⟩ := s
  have hn := sv_lenN h
  obtain ⟨p, n, cp⟩ := s
  have k1 := h1
  have k2 := h2
  obtain ⟨q1, c1, rfl, _⟩ := slE_shape h1
  obtain ⟨q2, c2, rfl, _⟩ := slE_shape h2
  exact bestHead_n HKi HHe HLi HAl p n cp l q1 _ c1 a q2 _ c2 b i w h hn k1 rfl k2 rfl
end Go.Proofs.Ytjmpgphoiehdmaa
