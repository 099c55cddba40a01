/-
  The law BestKid, walked. (written by wip/gen/law09.py)
-/
import Derived.Test.YtjmpgphoiehdmaaW09
import Derived.Test.YtjmpgphoiehdmaaTw
import Derived.Test.YtjmpgphoiehdmaaP06May
import Derived.Test.YtjmpgphoiehdmaaP06Kids
import Derived.Test.YtjmpgphoiehdmaaBestK
import Derived.Test.YtjmpgphoiehdmaaLess
namespace Go.Proofs.Ytjmpgphoiehdmaa
open Go.RowKit

set_option maxRecDepth 100000 in
set_option maxHeartbeats 8000000 in
theorem bestKid_n (HKi : KidC) (HHe : HeadC) (HLi : LineC) (HAl : AllC) (p : Option Addr) (n cp : Nat) (l : List Nd) (q1 : Option Addr) (m1 c1 : Nat) (a : List UInt64) (q2 : Option Addr) (m2 c2 : Nat) (b : List Bool) (i : Int) (w : World) (h : SlE Ene w (.slice p n cp) l) (hl : l.length = n) (h1 : SlE Enum w (.slice q1 m1 c1) a) (e1 : a.length = m1) (h2 : SlE Eboo w (.slice q2 m2 c2) b) (e2 : b.length = m2) :
    Calls Try.prog 4 #[.agg (tr ⟨⟨p, n, cp⟩⟩), .slice q1 m1 c1, .slice q2 m2 c2, .int .i64 i] w fun e w' => e = .returned (.bool true) ∧ Below w.heap.size w w' := by
  have V : Hid (Tw w (w.alloc (.cells (tr ⟨⟨p, n, cp⟩⟩) 24)) w.heap.size ⟨p, n, cp⟩ l) := tw_one h
  obtain ⟨W0, hW0⟩ : ∃ W0, W0 = w.alloc (.cells (tr ⟨⟨p, n, cp⟩⟩) 24) := ⟨_, rfl⟩
  have hB : Below w.heap.size w W0 := by rw [hW0]; exact below1
  rw [← hW0] at V
  have A := V
  have HW := Lib.hid hW0
  have HL := Lib.hid hl
  have B1 : Hid (SlE Enum W0 (.slice q1 m1 c1) a) := slE_keep hB h1
  have E1 := Lib.hid e1
  have B2 : Hid (SlE Eboo W0 (.slice q2 m2 c2) b) := slE_keep hB h2
  have E2 := Lib.hid e2
  have HAw := Lib.hid (fun W => awake_any9 HKi HHe HLi HAl W)
  have HKi := Lib.hid HKi
  have HHe := Lib.hid HHe
  have HLi := Lib.hid HLi
  have HAl := Lib.hid HAl
  clear V hW0 hB h hl h1 e1 h2 e2
  have HMay := Lib.hid (fun W (g : SlE Ene W (.slice p n cp) l) => treeMay ⟨p, n, cp⟩ l W g)
  go_enter Try.func4, Try.ntmps4
  go_wp2_with fail
  rw [← HW.out]
  refine (HAw.out _).mono ?_
  rintro e w1 ⟨rfl, g⟩
  replace A := Lib.hid (A.out.keep g)
  replace B1 := Lib.hid (slE_keep g B1.out)
  replace B2 := Lib.hid (slE_keep g B2.out)
  clear g
  have z1 := A.out.z1
  have z0 := A.out.z0
  rw [sv_mk] at z0
  go_wp2_with fail
  refine (HMay.out _ A.out.s).mono ?_
  rintro e w2 ⟨rfl, g⟩
  replace A := Lib.hid (A.out.keep g)
  replace B1 := Lib.hid (slE_keep g B1.out)
  replace B2 := Lib.hid (slE_keep g B2.out)
  clear g
  replace z1 := A.out.z1
  replace z0 := A.out.z0
  rw [sv_mk] at z0
  clear HMay
  by_cases hm : MayT l
  case neg =>
    rw [decide_eq_false hm]
    clear hm
    go_wp2_with fail
    go_ret
    exact ⟨rfl, A.out.g⟩
  rw [decide_eq_true hm]
  have HN : Hid (n ≤ 12) := by show n ≤ 12; have := hm.le; have := HL.out; omega
  have HM := Lib.hid hm
  clear hm
  by_cases hm1 : m1 = n
  case neg =>
    have hm1i : ((m1 : Int) != (n : Int)) = true := by rw [bne_iff_ne]; omega
    clear hm1
    go_wp2_with fail
    go_ret
    exact ⟨rfl, A.out.g⟩
  obtain rfl : n = m1 := hm1.symm
  have hnn : ((n : Int) != (n : Int)) = false := by simp
  by_cases hm2 : m2 = n
  case neg =>
    have hm2i : ((m2 : Int) != (n : Int)) = true := by rw [bne_iff_ne]; omega
    clear hm2
    go_wp2_with fail
    go_ret
    exact ⟨rfl, A.out.g⟩
  obtain rfl : n = m2 := hm2.symm
  have HTd : Hid (toldB l a b = true) := told_iff.2 ⟨HM.out, by rw [E1.out, HL.out], by rw [E2.out, HL.out]⟩
  have HKs := Lib.hid (fun W (g : SlE Ene W (.slice p n cp) l) => (treeKids ⟨p, n, cp⟩ l i W g).mono fun _ _ h => h.list)
  have HK1 := Lib.hid (fun W (g : SlE Ene W (.slice p n cp) l) (g1 : SlE Enum W (.slice q1 n c1) a) (g2 : SlE Eboo W (.slice q2 n c2) b) => HKi.out ⟨p, n, cp⟩ _ _ l a b i W g g1 g2)
  have hx := law_kids HTd.out i
  generalize hkz : kidZ l a b i = rk at *
  clear hkz
  obtain ⟨K, e, hK12, hKn, hx⟩ := hx
  rw [e] at HKs
  clear e
  obtain ⟨m, hm⟩ : ∃ m, K.length = m := ⟨_, rfl⟩
  rw [hm] at hK12 hKn hx
  have HmK := Lib.hid hm
  have HKn := Lib.hid hKn
  have HX := Lib.hid hx
  have Hm12 : Hid (m ≤ 12) := by show m ≤ 12; have := HL.out; have := HN.out; omega
  have Hlen : Hid (l.length = n ∧ a.length = n ∧ b.length = n) := ⟨HL.out, E1.out, E2.out⟩
  have Hpos : Hid (0 < l.length) := Lib.hid HM.out.pos
  clear hm hKn hx hK12
  go_wp2_with fail
  refine (HKs.out _ A.out.s).mono ?_
  rintro e w3 ⟨va, rfl, hv, g⟩
  replace A := Lib.hid (A.out.keep g)
  replace B1 := Lib.hid (slE_keep g B1.out)
  replace B2 := Lib.hid (slE_keep g B2.out)
  obtain ⟨pv, cv, rfl⟩ := slE_len hv (n := m) (by rw [List.length_map, HmK.out])
  have HV := Lib.hid hv
  clear hv
  clear g
  replace z1 := A.out.z1
  replace z0 := A.out.z0
  rw [sv_mk] at z0
  go_wp2_with fail
  refine (HK1.out _ A.out.s B1.out B2.out).mono ?_
  rintro e w4 ⟨rfl, g⟩
  replace A := Lib.hid (A.out.keep g)
  replace B1 := Lib.hid (slE_keep g B1.out)
  replace B2 := Lib.hid (slE_keep g B2.out)
  replace HV := Lib.hid (slE_keep g HV.out)
  clear g
  replace z1 := A.out.z1
  replace z0 := A.out.z0
  rw [sv_mk] at z0
  obtain ⟨b1, o1, rfl, r1, x1⟩ := slE_ptr A.out.s Hpos.out
  obtain ⟨b2, o2, rfl, r2, x2⟩ := nums_ptr B1.out (by have := Hlen.out; have := Hpos.out; omega)
  obtain ⟨b4, o4, rfl, r4, x4⟩ := boos_ptr B2.out (by have := Hlen.out; have := Hpos.out; omega)
  have X1 := Lib.hid x1
  have X2 := Lib.hid x2
  have X4 := Lib.hid x4
  clear r1 r2 r4 x1 x2 x4
  rcases HX.out with ⟨hk, hx⟩ | ⟨k, hk, hkl, hpar, hbk, hin, hx⟩
  case inl =>
    subst hk
    have HXj := Lib.hid hx
    clear hx HX
    go_wp2_with fail
    go_loopw [12, 13] (fun f k wr => ∃ j : Nat, j ≤ m ∧ f = .bool false ∧ k = .int .i64 (j : Int) ∧ Below w4.heap.size w4 wr) (fun _ k _ => m - (intOf k).toNat)
    case atStart => exact ⟨0, Nat.zero_le _, rfl, rfl, Below.refl _ _⟩
    case round =>
      obtain ⟨j, hj, rfl, rfl, hb⟩ := hrel
      clear z0 z1
      have A2 := Lib.hid (A.out.keep hb)
      have z1 := A2.out.z1
      have z0 := A2.out.z0
      rw [sv_mk] at z0
      have Y1 := Lib.hid (keepR hb X1.out)
      have Y2 := Lib.hid (keepR hb X2.out)
      have Y4 := Lib.hid (keepR hb X4.out)
      have HV2 := Lib.hid (slE_keep hb HV.out)
      have HBB := Lib.hid hb
      clear hb
      by_cases hlt : j < m
      case pos =>
        have j0 : decide ((j : Int) < (m : Int)) = true := decide_eq_true (by omega)
        have j0' : decide (j < m) = true := decide_eq_true hlt
        have j1 : (0 : Int) ≤ (j : Int) := by omega
        have j2 : (j : Int) < (m : Int) := by omega
        have j3 : (j : Int) + 1 < 10000 := by have := Hm12.out; omega
        obtain ⟨b3, o3, rfl, r3, x3⟩ := ints_ptr HV2.out (by rw [List.length_map, HmK.out]; omega)
        have ya : wr.cell? ⟨b3, o3 + j, none⟩ = some (.int .i64 (K.getD j 0 : Int)) := by
          have y := ints_at x3 (i := j) (by rw [List.length_map, HmK.out]; exact hlt)
          rw [y]
          congr 2
          rw [List.getD_eq_getElem?_getD, List.getD_eq_getElem?_getD, List.getElem?_map, List.getElem?_eq_getElem (show j < K.length by rw [HmK.out]; exact hlt)]
          rfl
        have hc := HKn.out j hlt
        have hxj := HXj.out j hlt
        clear x3 r3
        generalize K.getD j 0 = c at *
        have c0 : (0 : Int) ≤ (c : Int) := by omega
        have c1 : (c : Int) < (n : Int) := by have := Hlen.out; omega
        have c2 : decide ((n : Int) ≤ (c : Int)) = false := decide_eq_false (by omega)
        have c3 : decide (n ≤ c) = false := decide_eq_false (by omega)
        have c4 : decide ((c : Int) < 0) = false := decide_eq_false (by omega)
        have yb := boos_cell Y4.out (i := c) (by have := Hlen.out; omega)
        rw [hxj] at yb
        have HJT := Lib.hid hlt
        clear hlt hc hxj
        go_wp2_with fail
        go_roundw
        case rel => exact ⟨j + 1, HJT.out, rfl, by go_num, HBB.out⟩
        case measure => simp [intOf]; have := HJT.out; omega
      obtain rfl : j = m := by omega
      have j0 : decide ((j : Int) < (j : Int)) = false := decide_eq_false (Int.lt_irrefl _)
      clear hlt
      go_wp2_with fail
      go_ret
      exact ⟨rfl, belowT A.out.g HBB.out⟩
  subst hk
  have HXj := Lib.hid hx
  have Hkl := Lib.hid hkl
  have Hpar := Lib.hid hpar
  have Hbk := Lib.hid hbk
  have Hin := Lib.hid hin
  have k0 : (0 : Int) ≤ (k : Int) := by omega
  have k1 : (k : Int) < (n : Int) := by have := Hlen.out; omega
  have k2 : decide ((n : Int) ≤ (k : Int)) = false := decide_eq_false (by omega)
  have k3 : decide (n ≤ k) = false := decide_eq_false (by omega)
  have k4 : decide ((k : Int) < 0) = false := decide_eq_false (by omega)
  clear hx hkl hpar hbk hin HX
  go_wp2_with fail
  go_loopw [12, 13] (fun f q wr => ∃ (j : Nat) (t : Bool), j ≤ m ∧ f = .bool t ∧ q = .int .i64 (j : Int) ∧ Below w4.heap.size w4 wr ∧ (t = true ∨ ∀ j1, j1 < j → bn b (K.getD j1 0) = false)) (fun _ q _ => m - (intOf q).toNat)
  case atStart => exact ⟨0, false, Nat.zero_le _, rfl, rfl, Below.refl _ _, .inr fun j hj => absurd hj (Nat.not_lt_zero _)⟩
  case round =>
    obtain ⟨j, t, hj, rfl, rfl, hb, ht⟩ := hrel
    have HT := Lib.hid ht
    clear z0 z1 ht
    have A2 := Lib.hid (A.out.keep hb)
    have z1 := A2.out.z1
    have z0 := A2.out.z0
    rw [sv_mk] at z0
    have Y1 := Lib.hid (keepR hb X1.out)
    have Y2 := Lib.hid (keepR hb X2.out)
    have Y4 := Lib.hid (keepR hb X4.out)
    have HV2 := Lib.hid (slE_keep hb HV.out)
    have HBB := Lib.hid hb
    clear hb
    by_cases hlt : j < m
    case neg =>
      obtain rfl : j = m := by omega
      have htt : t = true := by
        rcases HT.out with h | h
        · exact h
        · obtain ⟨j1, hj1, e⟩ := Hin.out
          have h1 := h j1 hj1
          rw [e, Hbk.out] at h1
          exact absurd h1 (by decide)
      subst htt
      have yb := boos_cell Y4.out (i := k) (by have := Hlen.out; have := Hkl.out; omega)
      rw [Hbk.out] at yb
      have yp := nds_par Y1.out Hkl.out
      rw [Hpar.out] at yp
      have ti : (i == i) = true := by simp
      have j0 : decide ((j : Int) < (j : Int)) = false := decide_eq_false (Int.lt_irrefl _)
      clear hlt
      go_wp2_with fail
      go_ret
      exact ⟨rfl, belowT A.out.g HBB.out⟩
    have j0 : decide ((j : Int) < (m : Int)) = true := decide_eq_true (by omega)
    have j0' : decide (j < m) = true := decide_eq_true hlt
    have j1 : (0 : Int) ≤ (j : Int) := by omega
    have j2 : (j : Int) < (m : Int) := by omega
    have j3 : (j : Int) + 1 < 10000 := by have := Hm12.out; omega
    obtain ⟨b3, o3, rfl, r3, x3⟩ := ints_ptr HV2.out (by rw [List.length_map, HmK.out]; omega)
    have ya : wr.cell? ⟨b3, o3 + j, none⟩ = some (.int .i64 (K.getD j 0 : Int)) := by
      have y := ints_at x3 (i := j) (by rw [List.length_map, HmK.out]; exact hlt)
      rw [y]
      congr 2
      rw [List.getD_eq_getElem?_getD, List.getD_eq_getElem?_getD, List.getElem?_map, List.getElem?_eq_getElem (show j < K.length by rw [HmK.out]; exact hlt)]
      rfl
    have hc := HKn.out j hlt
    have hxj := HXj.out j hlt
    clear x3 r3
    have HC : Hid (K.getD j 0 = K.getD j 0) := rfl
    obtain ⟨c, hcj⟩ : ∃ c, c = K.getD j 0 := ⟨_, rfl⟩
    rw [← hcj] at ya hc hxj
    have HC := Lib.hid hcj
    clear hcj
    have c0 : (0 : Int) ≤ (c : Int) := by omega
    have c1 : (c : Int) < (n : Int) := by have := Hlen.out; omega
    have c2 : decide ((n : Int) ≤ (c : Int)) = false := decide_eq_false (by omega)
    have c3 : decide (n ≤ c) = false := decide_eq_false (by omega)
    have c4 : decide ((c : Int) < 0) = false := decide_eq_false (by omega)
    have yb := boos_cell Y4.out (i := c) (by have := Hlen.out; omega)
    have HJT := Lib.hid hlt
    cases hbc : bn b c
    case false =>
      rw [hbc] at yb
      have HR : Hid (t = true ∨ ∀ j1, j1 < j + 1 → bn b (K.getD j1 0) = false) := HT.out.imp id fun h j1 h1 => by
        rcases Nat.lt_succ_iff_lt_or_eq.1 h1 with h2 | rfl
        · exact h j1 h2
        · rw [← HC.out]; exact hbc
      clear hlt hc hxj hbc
      go_wp2_with fail
      go_roundw
      case rel => exact ⟨j + 1, t, HJT.out, rfl, by go_num, HBB.out, HR.out⟩
      case measure => simp [intOf]; have := HJT.out; omega
    rw [hbc] at yb
    obtain ⟨hle, heq⟩ := hxj hbc
    have na := nums_cell Y2.out (i := c) (by have := Hlen.out; omega)
    have nk := nums_cell Y2.out (i := k) (by have := Hlen.out; have := Hkl.out; omega)
    have ra := nds_root Y1.out hc
    have rk := nds_root Y1.out Hkl.out
    generalize (nd l c).root = Rc at *
    generalize (nd l k).root = Rk at *
    generalize fn a c = Vc at *
    generalize fn a k = Vk at *
    have d1 : decide ((Vk : Int) < (Vc : Int)) = false := decide_eq_false (by omega)
    have d2 : decide (Vk < Vc) = false := decide_eq_false (by omega)
    clear hlt hc hxj hbc hle
    by_cases hV : Vc = Vk
    case neg =>
      have d3 : ((Vc : Int) == (Vk : Int)) = false := by rw [beq_eq_false_iff_ne]; omega
      clear hV heq
      obtain ⟨w9, rfl⟩ : ∃ W : World, W = wr := ⟨_, rfl⟩
      go_wp2_with fail
      have L0 := fun p : Wd w9.drew => wd_tr A2.out.box p
      have L1 := fun p : Wd w9.drew => wd_cell z0 p
      have L2 := fun p : Wd w9.drew => wd_cell ya p
      have L3 := fun p : Wd w9.drew => wd_cell na p
      have L4 := fun p : Wd w9.drew => wd_cell nk p
      have L5 := fun p : Wd w9.drew => wd_ld ra (by decide) p
      have L6 := fun p : Wd w9.drew => wd_ld rk (by decide) p
      refine wp_region_lex [51] (by kernel_rfl) (by kernel_rfl) (by kernel_rfl) ?_
      repeat (first | (refine wpXL_quiet rfl rfl _ cls_begin ?_; (first | go_big_quiet_step (fail) | quiet_step (fail)); refine wpQuiet_nil ?_) | refine wpXL_skip rfl ?_)
      refine wpXL_nil ?_
      go_wp2_with fail
      go_roundw
      case rel => exact ⟨j + 1, true, HJT.out, rfl, by go_num, belowD HBB.out _, .inl rfl⟩
      case measure => simp [intOf]; have := HJT.out; omega
    subst hV
    have HLs := Lib.hid (heq rfl)
    have d3 : ((Vc : Int) == (Vc : Int)) = true := by simp
    clear heq
    have HRL := Lib.hid (fun W => rootLess Rk Rc W)
    rw [HLs.out] at HRL
    obtain ⟨w9, rfl⟩ : ∃ W : World, W = wr := ⟨_, rfl⟩
    go_wp2_with fail
    have L0 := fun p : Wd w9.drew => wd_tr A2.out.box p
    have L1 := fun p : Wd w9.drew => wd_cell z0 p
    have L2 := fun p : Wd w9.drew => wd_cell ya p
    have L3 := fun p : Wd w9.drew => wd_cell na p
    have L4 := fun p : Wd w9.drew => wd_cell nk p
    have L5 := fun p : Wd w9.drew => wd_ld ra (by decide) p
    have L6 := fun p : Wd w9.drew => wd_ld rk (by decide) p
    refine wp_region_lex [51] (by kernel_rfl) (by kernel_rfl) (by kernel_rfl) ?_
    repeat (first | (refine wpXL_quiet rfl rfl _ cls_begin ?_; (first | go_big_quiet_step (fail) | quiet_step (fail)); refine wpQuiet_nil ?_) | refine wpXL_skip rfl ?_)
    refine wpXL_call rfl rfl rfl enters_rootLess #[.agg (rc Rk), .agg (rc Rc)] rfl ?_
    refine (HRL.out _).mono ?_
    rintro e u ⟨rfl, g⟩
    refine ⟨_, rfl, g, ?_⟩
    simp only [Act.put, List.setIfInBounds_toArray, List.set_cons_zero, List.set_cons_succ]
    have G : Hid (Below w9.heap.size w9 u) := belowT (belowD (Below.refl _ _) 1) g
    clear g
    repeat (first | (refine wpXL_quiet rfl rfl _ cls_begin ?_; (first | go_big_quiet_step (fail) | quiet_step (fail)); refine wpQuiet_nil ?_) | refine wpXL_skip rfl ?_)
    refine wpXL_nil ?_
    clear L0 L1 L2 L3 L4 L5 L6
    go_wp2_with fail
    go_roundw
    case rel => exact ⟨j + 1, true, HJT.out, rfl, by go_num, belowT HBB.out G.out, .inl rfl⟩
    case measure => simp [intOf]; have := HJT.out; omega
/-- The law. -/
theorem bestKidL (HKi : KidC) (HHe : HeadC) (HLi : LineC) (HAl : AllC) (s : Tr) (l : List Nd) (v1 : Value) (a : List UInt64) (v2 : Value) (b : List Bool) (i : Int) (w : World) (h : SlE Ene w (sv s.n) l) (h1 : SlE Enum w v1 a) (h2 : SlE Eboo w v2 b) :
    Calls Try.prog 4 #[.agg (tr s), v1, v2, .int .i64 i] w fun e w' => e = .returned (.bool true) ∧ Below w.heap.size w w' := by
  obtain ⟨s⟩ := s
  have hn := sv_lenN h
  obtain ⟨p, n, cp⟩ := s
  have k1 := h1
  have k2 := h2
  obtain ⟨q1, c1, rfl, _⟩ := slE_shape h1
  obtain ⟨q2, c2, rfl, _⟩ := slE_shape h2
  exact bestKid_n HKi HHe HLi HAl p n cp l q1 _ c1 a q2 _ c2 b i w h hn k1 rfl k2 rfl
end Go.Proofs.Ytjmpgphoiehdmaa
