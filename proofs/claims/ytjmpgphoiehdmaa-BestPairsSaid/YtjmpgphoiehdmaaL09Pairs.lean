/-
  The law BestPairs, walked. (written by wip/gen/law09.py)
-/
import Derived.Test.YtjmpgphoiehdmaaW09
import Derived.Test.YtjmpgphoiehdmaaTw
namespace Go.Proofs.Ytjmpgphoiehdmaa
open Go.RowKit

set_option maxRecDepth 100000 in
set_option maxHeartbeats 8000000 in
theorem bestPairs_n (HKi : KidC) (HHe : HeadC) (HLi : LineC) (HAl : AllC) (p : Option Addr) (n cp : Nat) (l : List Nd) (q1 : Option Addr) (m1 c1 : Nat) (a : List UInt64) (q2 : Option Addr) (m2 c2 : Nat) (b : List Bool) (i : Int) (w : World) (h : SlE Ene w (.slice p n cp) l) (hl : l.length = n) (h1 : SlE Enum w (.slice q1 m1 c1) a) (e1 : a.length = m1) (h2 : SlE Eboo w (.slice q2 m2 c2) b) (e2 : b.length = m2) :
    Calls Try.prog 6 #[.agg (tr ⟨⟨p, n, cp⟩⟩), .slice q1 m1 c1, .slice q2 m2 c2, .int .i64 i] w fun e w' => e = .returned (.bool true) ∧ Below w.heap.size w w' := by
  have V : Hid (Tw w (w.alloc (.cells (tr ⟨⟨p, n, cp⟩⟩) 24)) w.heap.size ⟨p, n, cp⟩ l) := tw_one h
  obtain ⟨W0, hW0⟩ : ∃ W0, W0 = w.alloc (.cells (tr ⟨⟨p, n, cp⟩⟩) 24) := ⟨_, rfl⟩
  have hB : Below w.heap.size w W0 := by rw [hW0]; exact below1
  rw [← hW0] at V
  have A := V
  have HW := Lib.hid hW0
  have HL := Lib.hid hl
  have B1 : Hid (SlE Enum W0 (.slice q1 m1 c1) a) := slE_keep hB h1
  have E1 := Lib.hid e1
  have B2 : Hid (SlE Eboo W0 (.slice q2 m2 c2) b) := slE_keep hB h2
  have E2 := Lib.hid e2
  have HAw := Lib.hid (fun W => awake_any9 HKi HHe HLi HAl W)
  have HKi := Lib.hid HKi
  have HHe := Lib.hid HHe
  have HLi := Lib.hid HLi
  have HAl := Lib.hid HAl
  clear V hW0 hB h hl h1 e1 h2 e2
  go_enter Try.func6, Try.ntmps6
  go_wp2_with fail
  rw [← HW.out]
  refine (HAw.out _).mono ?_
  rintro e w1 ⟨rfl, g⟩
  replace A := Lib.hid (A.out.keep g)
  replace B1 := Lib.hid (slE_keep g B1.out)
  replace B2 := Lib.hid (slE_keep g B2.out)
  clear g
  have z1 := A.out.z1
  have z0 := A.out.z0
  rw [sv_mk] at z0
  by_cases h20 : 20 < n
  · have h20i : decide ((20 : Int) < (n : Int)) = true := decide_eq_true (by omega)
    have h20i' : decide (20 < n) = true := decide_eq_true (by omega)
    clear h20
    go_wp2_with fail
    go_ret
    exact ⟨rfl, A.out.g⟩
  have h20i : decide ((20 : Int) < (n : Int)) = false := decide_eq_false (by omega)
  have h20i' : decide (20 < n) = false := decide_eq_false (by omega)
  have HA1 := Lib.hid (fun W (g : SlE Ene W (.slice p n cp) l) (g1 : SlE Enum W (.slice q1 m1 c1) a) (g2 : SlE Eboo W (.slice q2 m2 c2) b) => HAl.out ⟨p, n, cp⟩ _ _ l a b W g g1 g2)
  have HK1 := Lib.hid (fun W (g : SlE Ene W (.slice p n cp) l) (g1 : SlE Enum W (.slice q1 m1 c1) a) (g2 : SlE Eboo W (.slice q2 m2 c2) b) => HKi.out ⟨p, n, cp⟩ _ _ l a b i W g g1 g2)
  have HH1 := Lib.hid (fun W (g : SlE Ene W (.slice p n cp) l) (g1 : SlE Enum W (.slice q1 m1 c1) a) (g2 : SlE Eboo W (.slice q2 m2 c2) b) => HHe.out ⟨p, n, cp⟩ _ _ l a b i W g g1 g2)
  by_cases hp : placeB l a b i = true
  case neg =>
    have hp' : placeB l a b i = false := by simpa using hp
    rw [kidZ_not hp'] at HK1
    rw [headZ_not hp'] at HH1
    have HOut : Hid (0 ≤ i → ((allZ l a b).length : Int) ≤ i) := fun h0 => by
      cases ht : toldB l a b
      · rw [allZ_no ht]; simpa using h0
      · rw [allZ_yes ht, allUp_len]
        exact Classical.byContradiction fun hn => hp (place_iff.2 ⟨ht, h0, by omega⟩)
    clear hp hp' h20
    go_wp2_with fail
    refine (HA1.out _ A.out.s B1.out B2.out).mono ?_
    rintro e w2 ⟨va, rfl, hv, g⟩
    replace A := Lib.hid (A.out.keep g)
    replace B1 := Lib.hid (slE_keep g B1.out)
    replace B2 := Lib.hid (slE_keep g B2.out)
    obtain ⟨pv, cv, rfl, _⟩ := slE_shape hv
    clear hv
    clear g
    replace z1 := A.out.z1
    replace z0 := A.out.z0
    rw [sv_mk] at z0
    generalize hN : (allZ l a b).length = N at *
    by_cases hi : i < 0
    · have t0 : decide (i < 0) = true := decide_eq_true hi
      clear hi hN
      go_wp2_with fail
      refine (HK1.out _ A.out.s B1.out B2.out).mono ?_
      rintro e w3 ⟨rfl, g⟩
      replace A := Lib.hid (A.out.keep g)
      replace B1 := Lib.hid (slE_keep g B1.out)
      replace B2 := Lib.hid (slE_keep g B2.out)
      clear g
      replace z1 := A.out.z1
      replace z0 := A.out.z0
      rw [sv_mk] at z0
      go_wp2_with fail
      refine (HH1.out _ A.out.s B1.out B2.out).mono ?_
      rintro e w4 ⟨rfl, g⟩
      replace A := Lib.hid (A.out.keep g)
      replace B1 := Lib.hid (slE_keep g B1.out)
      replace B2 := Lib.hid (slE_keep g B2.out)
      clear g
      replace z1 := A.out.z1
      replace z0 := A.out.z0
      rw [sv_mk] at z0
      go_wp2_with fail
      go_ret
      exact ⟨rfl, A.out.g⟩
    · have t0 : decide (i < 0) = false := decide_eq_false hi
      have t1 : decide ((N : Int) ≤ i) = true := decide_eq_true (HOut.out (by omega))
      clear hi hN
      go_wp2_with fail
      refine (HK1.out _ A.out.s B1.out B2.out).mono ?_
      rintro e w3 ⟨rfl, g⟩
      replace A := Lib.hid (A.out.keep g)
      replace B1 := Lib.hid (slE_keep g B1.out)
      replace B2 := Lib.hid (slE_keep g B2.out)
      clear g
      replace z1 := A.out.z1
      replace z0 := A.out.z0
      rw [sv_mk] at z0
      go_wp2_with fail
      refine (HH1.out _ A.out.s B1.out B2.out).mono ?_
      rintro e w4 ⟨rfl, g⟩
      replace A := Lib.hid (A.out.keep g)
      replace B1 := Lib.hid (slE_keep g B1.out)
      replace B2 := Lib.hid (slE_keep g B2.out)
      clear g
      replace z1 := A.out.z1
      replace z0 := A.out.z0
      rw [sv_mk] at z0
      go_wp2_with fail
      go_ret
      exact ⟨rfl, A.out.g⟩
  obtain ⟨ht, hp0, hp1⟩ := place_iff.1 hp
  obtain ⟨i, rfl⟩ : ∃ i' : Nat, i = i' := ⟨i.toNat, by omega⟩
  have hi : i < l.length := by omega
  have hm := (told_iff.1 ht).1
  rw [kidZ_nat ht hi] at HK1
  rw [headZ_nat ht hi] at HH1
  have hlen : (allZ l a b).length = n := by rw [allZ_yes ht, allUp_len, HL.out]
  have hat := allZ_at ht hi
  rw [show bothZ l a b i = ⟨optZ (bestN l a b i), (headN l a b i : Int)⟩ by unfold bothZ; rw [kidZ_nat ht hi, headZ_nat ht hi]] at hat
  have hAt := Lib.hid hat
  have hLen := Lib.hid hlen
  have hN2 : Hid (∀ k, k < l.length → (allZ l a b)[k]? = some ⟨optZ (bestN l a b k), (headN l a b k : Int)⟩) := fun k hk => by rw [allZ_at ht hk]; unfold bothZ; rw [kidZ_nat ht hk, headZ_nat ht hk]
  have HLP := Lib.hid (law_pairs (w := a) (b := b) hm (i := i))
  have Hi := Lib.hid hi
  have i0 : (0 : Int) ≤ (i : Int) := by omega
  have i1 : (i : Int) < (n : Int) := by have := HL.out; omega
  have t0 : decide ((i : Int) < 0) = false := decide_eq_false (by omega)
  have t1 : decide ((n : Int) ≤ (i : Int)) = false := decide_eq_false (by omega)
  have t1' : decide (n ≤ i) = false := decide_eq_false (by have := HL.out; omega)
  clear hp ht hp0 hp1 hi hm hlen hat h20
  go_wp2_with fail
  refine (HA1.out _ A.out.s B1.out B2.out).mono ?_
  rintro e w2 ⟨va, rfl, hv, g⟩
  replace A := Lib.hid (A.out.keep g)
  replace B1 := Lib.hid (slE_keep g B1.out)
  replace B2 := Lib.hid (slE_keep g B2.out)
  obtain ⟨pv, cv, rfl⟩ := slE_len hv hLen.out
  have HV := Lib.hid hv
  clear hv
  clear g
  replace z1 := A.out.z1
  replace z0 := A.out.z0
  rw [sv_mk] at z0
  obtain ⟨b3, o3, c3, e3, _, _, x3⟩ := slE_ne HV.out (by rw [hLen.out]; have := Hi.out; have := HL.out; omega)
  have e3' : pv = some ⟨b3, o3, none⟩ := by injection e3
  subst e3'
  have X3 := Lib.hid x3
  have y0 := pd_cell x3 hAt.out (j := 0) (by omega)
  have y1 := pd_cell x3 hAt.out (j := 1) (by omega)
  rw [Nat.add_zero] at y0
  change w2.cell? _ = some (.int .i64 (optZ (bestN l a b i))) at y0
  change w2.cell? _ = some (.int .i64 (headN l a b i : Int)) at y1
  clear e3 x3
  rcases HLP.out with ⟨hb, hh⟩ | ⟨k, hb, hk, hh⟩
  case inl =>
    rw [hb, optZ_none] at HK1 y0
    rw [hh] at HH1 y1
    clear hb hh HLP hN2
    go_wp2_with fail
    have L0 := fun p : Wd w2.drew => wd_tr A.out.box p
    have L1 := fun p : Wd w2.drew => wd_cell y1 p
    refine wp_region_lex [5, 7, 17] (by kernel_rfl) (by kernel_rfl) (by kernel_rfl) ?_
    repeat (first | (refine wpXL_quiet rfl rfl _ cls_begin ?_; (first | go_big_quiet_step (fail) | quiet_step (fail)); refine wpQuiet_nil ?_) | refine wpXL_skip rfl ?_)
    refine wpXL_call rfl rfl rfl enters_bestKid #[.agg (tr ⟨⟨p, n, cp⟩⟩), .slice q1 m1 c1, .slice q2 m2 c2, .int .i64 (i : Int)] rfl ?_
    refine (HK1.out _ (slE_keep (belowD (Below.refl _ _) 1) A.out.s) (slE_keep (belowD (Below.refl _ _) 1) B1.out) (slE_keep (belowD (Below.refl _ _) 1) B2.out)).mono ?_
    rintro e u ⟨rfl, g⟩
    refine ⟨_, rfl, g, ?_⟩
    simp only [Act.put, List.setIfInBounds_toArray, List.set_cons_zero, List.set_cons_succ]
    have G : Hid (Below w2.heap.size w2 u) := belowT (belowD (Below.refl _ _) 1) g
    clear g
    repeat (first | (refine wpXL_quiet rfl rfl _ cls_begin ?_; (first | go_big_quiet_step (fail) | quiet_step (fail)); refine wpQuiet_nil ?_) | refine wpXL_skip rfl ?_)
    refine wpXL_eff rfl rfl (.bool false) _ rfl (Below.refl _ _) ?_
    simp only [Act.put, List.setIfInBounds_toArray, List.set_cons_zero, List.set_cons_succ]
    repeat (first | (refine wpXL_quiet rfl rfl _ cls_begin ?_; (first | go_big_quiet_step (fail) | quiet_step (fail)); refine wpQuiet_nil ?_) | refine wpXL_skip rfl ?_)
    refine wpXL_call rfl rfl rfl enters_bestHead #[.agg (tr ⟨⟨p, n, cp⟩⟩), .slice q1 m1 c1, .slice q2 m2 c2, .int .i64 (i : Int)] rfl ?_
    refine (HH1.out _ (slE_keep G.out A.out.s) (slE_keep G.out B1.out) (slE_keep G.out B2.out)).mono ?_
    rintro e u ⟨rfl, g⟩
    refine ⟨_, rfl, g, ?_⟩
    simp only [Act.put, List.setIfInBounds_toArray, List.set_cons_zero, List.set_cons_succ]
    replace G : Hid (Below w2.heap.size w2 u) := belowT G.out g
    clear g
    repeat (first | (refine wpXL_quiet rfl rfl _ cls_begin ?_; (first | go_big_quiet_step (fail) | quiet_step (fail)); refine wpQuiet_nil ?_) | refine wpXL_skip rfl ?_)
    have f1 : u.cell? ⟨b3, o3 + i * 2 + 1, none⟩ = some (.int .i64 (i : Int)) := (G.out.cell (p := ⟨b3, o3 + i * 2 + 1, none⟩) (block_lt_of_cell y1)).trans y1
    clear y0 y1
    refine wpXL_nil ?_
    clear L0 L1
    replace A := Lib.hid (A.out.keep G.out)
    replace B1 := Lib.hid (slE_keep G.out B1.out)
    replace B2 := Lib.hid (slE_keep G.out B2.out)
    replace HV := Lib.hid (slE_keep G.out HV.out)
    clear G
    obtain ⟨w3, rfl⟩ : ∃ W : World, W = u := ⟨_, rfl⟩
    replace z1 := A.out.z1
    replace z0 := A.out.z0
    rw [sv_mk] at z0
    go_wp2_with fail
    go_quiet (fail)
    go_wp2_with fail
    go_ret
    exact ⟨rfl, belowD A.out.g _⟩
  have y2 := pd_cell X3.out (hN2.out k hk) (j := 1) (by omega)
  change w2.cell? _ = some (.int .i64 (headN l a b k : Int)) at y2
  rw [hb, optZ_some] at HK1 y0
  rw [hh] at HH1 y1
  have k0 : (0 : Int) ≤ (k : Int) := by omega
  have k1 : (k : Int) < (n : Int) := by have := HL.out; omega
  have k2 : decide ((n : Int) ≤ (k : Int)) = false := decide_eq_false (by omega)
  have k3 : decide (n ≤ k) = false := decide_eq_false (by omega)
  have k4 : decide ((k : Int) < 0) = false := decide_eq_false (by omega)
  have k5 : decide ((0 : Int) ≤ (k : Int)) = true := decide_eq_true (by omega)
  generalize headN l a b k = H at *
  clear hb hh hk HLP hN2
  go_wp2_with fail
  have L0 := fun p : Wd w2.drew => wd_tr A.out.box p
  have L1 := fun p : Wd w2.drew => wd_cell y1 p
  refine wp_region_lex [5, 7, 17] (by kernel_rfl) (by kernel_rfl) (by kernel_rfl) ?_
  repeat (first | (refine wpXL_quiet rfl rfl _ cls_begin ?_; (first | go_big_quiet_step (fail) | quiet_step (fail)); refine wpQuiet_nil ?_) | refine wpXL_skip rfl ?_)
  refine wpXL_call rfl rfl rfl enters_bestKid #[.agg (tr ⟨⟨p, n, cp⟩⟩), .slice q1 m1 c1, .slice q2 m2 c2, .int .i64 (i : Int)] rfl ?_
  refine (HK1.out _ (slE_keep (belowD (Below.refl _ _) 1) A.out.s) (slE_keep (belowD (Below.refl _ _) 1) B1.out) (slE_keep (belowD (Below.refl _ _) 1) B2.out)).mono ?_
  rintro e u ⟨rfl, g⟩
  refine ⟨_, rfl, g, ?_⟩
  simp only [Act.put, List.setIfInBounds_toArray, List.set_cons_zero, List.set_cons_succ]
  have G : Hid (Below w2.heap.size w2 u) := belowT (belowD (Below.refl _ _) 1) g
  clear g
  repeat (first | (refine wpXL_quiet rfl rfl _ cls_begin ?_; (first | go_big_quiet_step (fail) | quiet_step (fail)); refine wpQuiet_nil ?_) | refine wpXL_skip rfl ?_)
  refine wpXL_eff rfl rfl (.bool false) _ rfl (Below.refl _ _) ?_
  simp only [Act.put, List.setIfInBounds_toArray, List.set_cons_zero, List.set_cons_succ]
  repeat (first | (refine wpXL_quiet rfl rfl _ cls_begin ?_; (first | go_big_quiet_step (fail) | quiet_step (fail)); refine wpQuiet_nil ?_) | refine wpXL_skip rfl ?_)
  refine wpXL_call rfl rfl rfl enters_bestHead #[.agg (tr ⟨⟨p, n, cp⟩⟩), .slice q1 m1 c1, .slice q2 m2 c2, .int .i64 (i : Int)] rfl ?_
  refine (HH1.out _ (slE_keep G.out A.out.s) (slE_keep G.out B1.out) (slE_keep G.out B2.out)).mono ?_
  rintro e u ⟨rfl, g⟩
  refine ⟨_, rfl, g, ?_⟩
  simp only [Act.put, List.setIfInBounds_toArray, List.set_cons_zero, List.set_cons_succ]
  replace G : Hid (Below w2.heap.size w2 u) := belowT G.out g
  clear g
  repeat (first | (refine wpXL_quiet rfl rfl _ cls_begin ?_; (first | go_big_quiet_step (fail) | quiet_step (fail)); refine wpQuiet_nil ?_) | refine wpXL_skip rfl ?_)
  have f1 : u.cell? ⟨b3, o3 + i * 2 + 1, none⟩ = some (.int .i64 (H : Int)) := (G.out.cell (p := ⟨b3, o3 + i * 2 + 1, none⟩) (block_lt_of_cell y1)).trans y1
  have f2 : u.cell? ⟨b3, o3 + k * 2 + 1, none⟩ = some (.int .i64 (H : Int)) := (G.out.cell (p := ⟨b3, o3 + k * 2 + 1, none⟩) (block_lt_of_cell y2)).trans y2
  clear y0 y1 y2
  refine wpXL_nil ?_
  clear L0 L1
  replace A := Lib.hid (A.out.keep G.out)
  replace B1 := Lib.hid (slE_keep G.out B1.out)
  replace B2 := Lib.hid (slE_keep G.out B2.out)
  replace HV := Lib.hid (slE_keep G.out HV.out)
  clear G
  obtain ⟨w3, rfl⟩ : ∃ W : World, W = u := ⟨_, rfl⟩
  replace z1 := A.out.z1
  replace z0 := A.out.z0
  rw [sv_mk] at z0
  go_wp2_with fail
  go_quiet (fail)
  go_wp2_with fail
  go_ret
  exact ⟨rfl, belowD A.out.g _⟩
/-- The law. -/
theorem bestPairsL (HKi : KidC) (HHe : HeadC) (HLi : LineC) (HAl : AllC) (s : Tr) (l : List Nd) (v1 : Value) (a : List UInt64) (v2 : Value) (b : List Bool) (i : Int) (w : World) (h : SlE Ene w (sv s.n) l) (h1 : SlE Enum w v1 a) (h2 : SlE Eboo w v2 b) :
    Calls Try.prog 6 #[.agg (tr s), v1, v2, .int .i64 i] w fun e w' => e = .returned (.bool true) ∧ Below w.heap.size w w' := by
  obtain ⟨s⟩ := s
  have hn := sv_lenN h
  obtain ⟨p, n, cp⟩ := s
  have k1 := h1
  have k2 := h2
  obtain ⟨q1, c1, rfl, _⟩ := slE_shape h1
  obtain ⟨q2, c2, rfl, _⟩ := slE_shape h2
  exact bestPairs_n HKi HHe HLi HAl p n cp l q1 _ c1 a q2 _ c2 b i w h hn k1 rfl k2 rfl
end Go.Proofs.Ytjmpgphoiehdmaa
