/-
  The document's weights: Pass, walked.
-/
import Derived.Test.YtonfmddjlhgglaaR08Sub
namespace Go.Proofs.Ytonfmddjlhgglaa
open Go.RowKit

set_option maxRecDepth 100000 in
set_option maxHeartbeats 16000000 in
theorem ref08Pass_n (s : SlV) (p q r : Option Addr) (nw cw np cq nm cr : Nat) (l : List Nd) (a pl mi : List UInt64) (w : World) (h : SlE Ene w (sv s) l) (h1 : SlE Enum w (.slice p nw cw) a) (h2 : SlE Enum w (.slice q np cq) pl) (h3 : SlE Enum w (.slice r nm cr) mi) (hl : l.length ≤ 1000) (ha : a.length = nw) :
    Calls Try.prog 13 #[.agg (tr ⟨s⟩), .slice p nw cw, .slice q np cq, .slice r nm cr] w (NumsOk (passL l a pl mi) (passOk l a pl mi) w) := by
  have HP := Lib.hid (fun W (g : Below w.heap.size w W) => ref08Sub s _ l pl W (slE_keep g h) (slE_keep g h2) hl)
  have HQ := Lib.hid (fun W (g : Below w.heap.size w W) => ref08Sub s _ l mi W (slE_keep g h) (slE_keep g h3) hl)
  obtain ⟨W0, hW0⟩ : ∃ W0, W0 = w.alloc (.cells (tr ⟨s⟩) 24) := ⟨_, rfl⟩
  have HB : Hid (Below w.heap.size w W0) := by rw [hW0]; exact below1
  have M0 : Hid (W0.heap[w.heap.size]? = some (.cells (tr ⟨s⟩) 24 (0, 0))) := by rw [hW0]; exact heap_alloc_last w _
  have HW := Lib.hid hW0
  have HS1 := Lib.hid h1
  have HLA := Lib.hid ha
  obtain ⟨ok, hok⟩ : ∃ ok, ok = passOk l a pl mi := ⟨_, rfl⟩
  have HOK := Lib.hid hok
  rw [← hok]
  obtain ⟨x1, hx1⟩ : ∃ x, x = subOk l pl := ⟨_, rfl⟩
  obtain ⟨x2, hx2⟩ : ∃ x, x = subOk l mi := ⟨_, rfl⟩
  rw [← hx1] at HP
  rw [← hx2] at HQ
  have HX1 := Lib.hid hx1
  have HX2 := Lib.hid hx2
  have NO : Hid (ok = false → passL l a pl mi = []) := fun e => passL_no (by rw [← HOK.out]; exact e)
  clear hW0 h h1 h2 h3 hl ha hok hx1 hx2
  go_enter Try.func13, Try.ntmps13
  go_wp2_with fail
  rw [← HW.out]
  refine (HP.out W0 HB.out).mono ?_
  rintro e w1 ⟨v1, rfl, hv1, g1⟩
  have G1 := Lib.hid (belowT HB.out g1)
  have M1 := Lib.hid (blk_keep g1 M0.out)
  have O1 := Lib.hid (ownE_slE hv1)
  obtain ⟨_, z1, _⟩ := tr_cells M1.out
  clear g1 hv1
  go_wp2_with fail
  refine (HQ.out w1 G1.out).mono ?_
  rintro e w2 ⟨v2, rfl, hv2, g2⟩
  have G2 := Lib.hid (belowT G1.out g2)
  have S1 := Lib.hid (slE_keep g2 O1.out)
  have S2 := Lib.hid (ownE_slE hv2)
  clear g2 hv2 z1
  obtain ⟨p1, c1, e1, _⟩ := slE_shape S1.out
  obtain ⟨p2, c2, e2, _⟩ := slE_shape S2.out
  cases x1
  · have hO : Hid (ok = false) := by show ok = false; rw [HOK.out, ← Bool.not_eq_true]; intro e; have := (passOk_iff.1 e).1; rw [← HX1.out] at this; cases this
    clear e1 e2
    go_wp2_with fail
    go_ret2
    exact ⟨_, by rw [hO.out]; first | done | rfl, by rw [NO.out hO.out]; exact ownE_nil _ _ _, G2.out⟩
  cases x2
  · have hO : Hid (ok = false) := by show ok = false; rw [HOK.out, ← Bool.not_eq_true]; intro e; have := (passOk_iff.1 e).2.1; rw [← HX2.out] at this; cases this
    clear e1 e2
    go_wp2_with fail
    go_ret2
    exact ⟨_, by rw [hO.out]; first | done | rfl, by rw [NO.out hO.out]; exact ownE_nil _ _ _, G2.out⟩
  rw [subL_len HX1.out.symm] at e1
  rw [subL_len HX2.out.symm] at e2
  obtain ⟨n, hn⟩ : ∃ n, n = l.length := ⟨_, rfl⟩
  rw [← hn] at e1 e2
  subst e1 e2
  have hm : MayT l := (subOk_iff.1 HX1.out.symm).1
  have HL : Hid (l.length = n) := hn.symm
  have HN : Hid (n ≤ 12) := by show n ≤ 12; rw [hn]; exact hm.le
  have H0 : Hid (0 < n) := by show 0 < n; rw [hn]; exact hm.pos
  clear hn hm
  by_cases hw : nw = n
  · subst hw
    have t0 : ((nw : Int) != (nw : Int)) = false := by simp
    obtain ⟨b1, o1, rfl, q1, y1⟩ := nums_ptr S1.out (by rw [subL_len HX1.out.symm, HL.out]; exact H0.out)
    obtain ⟨b2, o2, rfl, q2, y2⟩ := nums_ptr S2.out (by rw [subL_len HX2.out.symm, HL.out]; exact H0.out)
    obtain ⟨b3, o3, rfl, q3, y3⟩ := nums_ptr HS1.out (by have := HLA.out; have := H0.out; omega)
    have Y1 := Lib.hid y1
    have Y2 := Lib.hid y2
    have Y3 := Lib.hid (keepR G2.out y3)
    clear q1 q2 q3 y1 y2 y3
    go_wp2_with fail
    go_loopw [14, 15] (fun v i wr => ∃ j : Nat, j ≤ nw ∧ i = .int .i64 (j : Int) ∧ (∀ x, x < j → oneOk (fn a x) (subT l (fn pl) x) (subT l (fn mi) x) = true) ∧ OwnE Enum wr w2.heap.size v (numsT (passF l a pl mi) j) ∧ Below w2.heap.size w2 wr) (fun _ i _ => nw - (intOf i).toNat)
    case atStart => exact ⟨0, Nat.zero_le _, rfl, fun x hx => absurd hx (Nat.not_lt_zero _), ownE_nil _ _ _, Below.refl _ _⟩
    case round =>
      obtain ⟨j, hj, rfl, hx, hown, hb⟩ := hrel
      have HX := Lib.hid hx
      have HO := Lib.hid hown
      have HBB := Lib.hid hb
      obtain ⟨pv, cv, rfl⟩ := ownE_len hown (nums_len _ j)
      clear hx hown hb
      by_cases hlt : j < nw
      · have i0 : (0 : Int) ≤ (j : Int) := by omega
        have i1 : (j : Int) < (nw : Int) := by omega
        have u1 : (j : Int) + 1 < 10000 := by have := HN.out; omega
        have c1 := nums_cell (keepR HBB.out Y1.out) (i := j) (by rw [subL_len HX1.out.symm, HL.out]; exact hlt)
        have c2 := nums_cell (keepR HBB.out Y2.out) (i := j) (by rw [subL_len HX2.out.symm, HL.out]; exact hlt)
        have c3 := nums_cell (keepR HBB.out Y3.out) (i := j) (by rw [HLA.out]; exact hlt)
        rw [subL_fn HX1.out.symm (by rw [HL.out]; exact hlt)] at c1
        rw [subL_fn HX2.out.symm (by rw [HL.out]; exact hlt)] at c2
        have b1 := (subOk_iff.1 HX1.out.symm).2.2 j (by rw [HL.out]; exact hlt)
        have b2 := (subOk_iff.1 HX2.out.symm).2.2 j (by rw [HL.out]; exact hlt)
        obtain ⟨x, hx⟩ : ∃ x, x = fn a j := ⟨_, rfl⟩
        obtain ⟨y, hy⟩ : ∃ x, x = subT l (fn pl) j := ⟨_, rfl⟩
        obtain ⟨z, hz⟩ : ∃ x, x = subT l (fn mi) j := ⟨_, rfl⟩
        have HF : Hid (passF l a pl mi j = x + y - z) := by show _ = _; unfold passF; rw [hx, hy, hz]
        have HJ : Hid (oneOk (fn a j) (subT l (fn pl) j) (subT l (fn mi) j) = oneOk x y z) := by show _ = _; rw [hx, hy, hz]
        rw [← hy] at c1 b1
        rw [← hz] at c2 b2
        rw [← hx] at c3
        have HA := Lib.hid (fun W => ref08One x y z (by rw [hx]; exact fn_lt _ _) b1 b2 W)
        have HJT := Lib.hid hlt
        have HLn := Lib.hid (nums_len (passF l a pl mi) j)
        have L1 := fun q : Wd wr.drew => wd_cell c1 q
        have L2 := fun q : Wd wr.drew => wd_cell c2 q
        have L3 := fun q : Wd wr.drew => wd_cell c3 q
        clear hx hy hz b1 b2 hlt c1 c2 c3
        go_wp2_with fail
        refine wp_region_lex [12] (by kernel_rfl) (by kernel_rfl) (by kernel_rfl) ?_
        repeat (first | (refine wpXL_quiet rfl rfl _ cls_begin ?_; (first | go_big_quiet_step (fail) | quiet_step (fail)); refine wpQuiet_nil ?_) | refine wpXL_skip rfl ?_)
        refine wpXL_call rfl rfl rfl enters_ref08One #[.int .u64 (x : Int), .int .u64 (y : Int), .int .u64 (z : Int)] rfl ?_
        refine (HA.out _).mono ?_
        rintro e w3 ⟨rfl, g⟩
        refine ⟨_, rfl, g, ?_⟩
        simp only [Act.put, List.setIfInBounds_toArray, List.set_cons_zero, List.set_cons_succ]
        have G3 : Hid (Below wr.heap.size wr w3) := belowT (belowD (Below.refl _ _) 1) g
        clear g
        repeat (first | (refine wpXL_quiet rfl rfl _ cls_begin ?_; (first | go_big_quiet_step (fail) | quiet_step (fail)); refine wpQuiet_nil ?_) | refine wpXL_skip rfl ?_)
        refine wpXL_nil ?_
        clear L1 L2 L3
        cases hq : oneOk x y z
        · have hO : Hid (ok = false) := by
            show ok = false
            rw [HOK.out, ← Bool.not_eq_true]
            intro e
            have h1 := (passOk_iff.1 e).2.2.2 j (by have := HL.out; have := HJT.out; omega)
            have h2 : oneOk (fn a j) (subT l (fn pl) j) (subT l (fn mi) j) = true := decide_eq_true h1
            rw [HJ.out, hq] at h2
            cases h2
          clear hq
          go_wp2_with fail
          go_ret2
          exact ⟨_, by rw [hO.out]; first | done | rfl, by rw [NO.out hO.out]; exact ownE_nil _ _ _, belowT G2.out (belowT HBB.out G3.out)⟩
        · have HQ1 : Hid (oneOk x y z = true) := hq
          have hV : oneV x y z = x + y - z := by unfold oneV; rw [if_pos hq]
          have HV : Hid (x + y - z < 18446744073709551616) := by show _ < _; have := hq; unfold oneOk at this; rw [decide_eq_true_iff] at this; exact this.2
          rw [hV]
          obtain ⟨v, hv⟩ : ∃ v, v = x + y - z := ⟨_, rfl⟩
          rw [← hv] at HF HV ⊢
          have O3 := Lib.hid (ownE_keep G3.out HO.out)
          clear hq hV hv
          go_wp2_with (at_builtin; refine wpList_append_E Knum _ rfl (.tmp 67) (.tmp 69) rfl w2.heap.size _ (numsT (passF l a pl mi) j) rfl (ownE_alloc O3.out _) _ [UInt64.ofNat v] rfl (nums_one _ HV.out _ rfl) (by have := HLn.out; have := HN.out; have := HJT.out; simp; omega) (by have := HBB.out.size; have := G3.out.size; simp; omega) ?_; intro v3 w4 ho4 hg4)
          go_roundw
          case rel =>
            refine ⟨j + 1, HJT.out, by go_num, fun x' hx' => ?_, by rw [nums_succ, HF.out]; exact ho4, (belowT HBB.out (belowT G3.out below1)).trans (hg4.own (ownE_alloc O3.out _) (by have := HBB.out.size; have := G3.out.size; simp; omega))⟩
            rcases Nat.lt_succ_iff_lt_or_eq.1 hx' with h | rfl
            · exact HX.out x' h
            · rw [HJ.out]; exact HQ1.out
          case measure => simp [intOf]; have := HJT.out; omega
      · obtain rfl : j = nw := by omega
        have hO : Hid (ok = true) := by
          show ok = true
          rw [HOK.out]
          refine passOk_iff.2 ⟨HX1.out.symm, HX2.out.symm, by rw [HLA.out, HL.out], fun i hi => ?_⟩
          have := HX.out i (by have := HL.out; omega)
          unfold oneOk at this
          rwa [decide_eq_true_iff] at this
        clear hlt
        go_wp2_with fail
        go_ret2
        exact ⟨_, by rw [hO.out]; first | done | rfl, by rw [passL_yes (by rw [← HOK.out]; exact hO.out), HL.out]; exact ownE_base HO.out G2.out.size, belowT G2.out HBB.out⟩
  · have hO : Hid (ok = false) := by show ok = false; rw [HOK.out, ← Bool.not_eq_true]; intro e; have := (passOk_iff.1 e).2.2.1; rw [HLA.out, HL.out] at this; exact hw this
    have t0 : ((nw : Int) != (n : Int)) = true := by rw [bne_iff_ne]; omega
    clear hw
    go_wp2_with fail
    go_ret2
    exact ⟨_, by rw [hO.out]; first | done | rfl, by rw [NO.out hO.out]; exact ownE_nil _ _ _, G2.out⟩
/-- Pass. -/
theorem ref08Pass (s : SlV) (v1 v2 v3 : Value) (l : List Nd) (a pl mi : List UInt64) (w : World) (h : SlE Ene w (sv s) l) (h1 : SlE Enum w v1 a) (h2 : SlE Enum w v2 pl) (h3 : SlE Enum w v3 mi) (hl : l.length ≤ 1000) :
    Calls Try.prog 13 #[.agg (tr ⟨s⟩), v1, v2, v3] w (NumsOk (passL l a pl mi) (passOk l a pl mi) w) := by
  have k1 := h1
  have k2 := h2
  have k3 := h3
  obtain ⟨p, cp, rfl, _⟩ := slE_shape h1
  obtain ⟨q, cq, rfl, _⟩ := slE_shape h2
  obtain ⟨r, cr, rfl, _⟩ := slE_shape h3
  exact ref08Pass_n s p q r _ cp _ cq _ cr l a pl mi w h k1 k2 k3 hl rfl
theorem enters_ref08Pass : ∀ args w, (callFunc 13 args).run Try.prog w = .ok (.enter 13 args) w := entersE Try.func13 (by kernel_rfl) (by kernel_rfl)
end Go.Proofs.Ytonfmddjlhgglaa
