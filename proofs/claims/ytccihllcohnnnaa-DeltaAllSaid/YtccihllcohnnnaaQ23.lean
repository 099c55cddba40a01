/-
  What votes weigh: Weights, the document's own, walked.
  What votes weigh: some, the document's own, walked.
-/
import Derived.Test.YtccihllcohnnnaaQ21
import Derived.Test.YtccihllcohnnnaaQ22
import Derived.Test.YtccihllcohnnnaaQ20
namespace Go.Proofs.Ytccihllcohnnnaa
open Go.RowKit
set_option maxRecDepth 100000

set_option maxRecDepth 100000 in
set_option maxHeartbeats 4000000 in
theorem ref14Weights_n (p q r : Option Addr) (n cp m cq k cr : Nat) (l : List Nd) (v : Vt) (bal : List UInt64) (w : World) (h : SlE Ene w (.slice p n cp) l) (h1 : SlE Elt w (.slice q m cq) v.l) (h2 : SlE Enum w (.slice r k cr) bal) (hn : l.length ≤ 1000) (hm : v.l.length ≤ 1000) (hk : bal.length ≤ 1000) :
    Calls Try.prog 13 #[.agg (tr ⟨⟨p, n, cp⟩⟩), .agg (vo ⟨⟨q, m, cq⟩, v.out⟩), .slice r k cr] w (NumsOk (wtsL l v bal) (fitB l v bal) w) := by
  have HO := Lib.hid (fun W (g : Below w.heap.size w W) => ref14Own ⟨p, n, cp⟩ ⟨q, m, cq⟩ (.slice r k cr) l v bal W (slE_keep g h) (slE_keep g h1) (slE_keep g h2) hn hm hk)
  have HSb := Lib.hid (fun W (u : Value) (g : Below w.heap.size w W) (hu : SlE Enum W u (ownL l v bal)) => ref08Sub ⟨p, n, cp⟩ u l (ownL l v bal) W (slE_keep g h) hu hn)
  have HY : Hid (fitB l v bal = true → subOk l (ownL l v bal) = true ∧ wtsL l v bal = subL l (ownL l v bal)) := fun e => ⟨wts_ok e, wtsL_yes e⟩
  have HNo : Hid (fitB l v bal = false → wtsL l v bal = []) := wtsL_no
  obtain ⟨f, hf⟩ : ∃ f, f = fitB l v bal := ⟨_, rfl⟩
  rw [← hf] at HO HY HNo
  rw [← hf]
  obtain ⟨W0, hW0⟩ : ∃ W0, W0 = (w.alloc (.cells (tr ⟨⟨p, n, cp⟩⟩) 24)).alloc (.cells (vo ⟨⟨q, m, cq⟩, v.out⟩) 28) := ⟨_, rfl⟩
  obtain ⟨hB, k0, k1, hz0⟩ := heap2 w _ _ _ _ W0 hW0
  have HB := Lib.hid hB
  have HW := Lib.hid hW0
  have K0 := Lib.hid k0
  have z1 := (tr_cells k0).2.1
  have y1 := (vo_cells k1).2.2.1
  clear hW0 h h1 h2 hB k0 k1 hz0 hn hm hk hf
  go_enter Try.func13, Try.ntmps13
  go_wp2_with fail
  rw [← HW.out]
  go_wp2_with fail
  refine (HO.out W0 HB.out).mono ?_
  rintro e w1 ⟨u1, rfl, ho, g1⟩
  have G1 := Lib.hid (belowT HB.out g1)
  have M1 := Lib.hid (blk_keep g1 K0.out)
  have HO1 := Lib.hid (ownE_slE ho)
  clear g1 z1 y1 ho
  have z1 := (tr_cells M1.out).2.1
  cases f
  · have hX := HNo.out rfl
    go_wp2_with fail
    go_ret2
    exact ⟨_, rfl, by rw [hX]; exact ownE_nil _ _ _, G1.out⟩
  · obtain ⟨e1, e2⟩ := HY.out rfl
    rw [e1, ← e2] at HSb
    clear e1 e2
    go_wp2_with fail
    refine (HSb.out w1 u1 G1.out HO1.out).mono ?_
    rintro e w2 ⟨u2, rfl, ho, g2⟩
    have G2 := Lib.hid (belowT G1.out g2)
    have HO2 := Lib.hid (ownE_base ho G1.out.size)
    clear g2 ho z1
    go_wp2_with fail
    go_ret2
    exact ⟨_, rfl, HO2.out, G2.out⟩
theorem ref14Weights (s t : SlV) (u : Value) (l : List Nd) (v : Vt) (bal : List UInt64) (w : World) (h : SlE Ene w (sv s) l) (h1 : SlE Elt w (sv t) v.l) (h2 : SlE Enum w u bal) (hn : l.length ≤ 1000) (hm : v.l.length ≤ 1000) (hk : bal.length ≤ 1000) :
    Calls Try.prog 13 #[.agg (tr ⟨s⟩), .agg (vo ⟨t, v.out⟩), u] w (NumsOk (wtsL l v bal) (fitB l v bal) w) := by
  obtain ⟨p, n, cp⟩ := s
  obtain ⟨q, m, cq⟩ := t
  have k2 := h2
  obtain ⟨r, cr, rfl, _⟩ := slE_shape h2
  exact ref14Weights_n p q r n cp m cq _ cr l v bal w h h1 k2 hn hm hk
theorem enters_ref14Weights : ∀ args w, (callFunc 13 args).run Try.prog w = .ok (.enter 13 args) w := entersE Try.func13 (by kernel_rfl) (by kernel_rfl)

end Go.Proofs.Ytccihllcohnnnaa
namespace Go.Proofs.Ytccihllcohnnnaa
open Go.RowKit
set_option maxRecDepth 100000

set_option maxRecDepth 100000 in
set_option maxHeartbeats 16000000 in
theorem ref14Some_yes (p q q' r : Option Addr) (n cp m cq cq' cr : Nat) (l : List Nd) (v o : Vt) (bal : List UInt64) (w : World) (h : SlE Ene w (.slice p n cp) l) (h1 : SlE Elt w (.slice q m cq) v.l) (h1' : SlE Elt w (.slice q' m cq') o.l) (h2 : SlE Enum w (.slice r m cr) bal) (hl : l.length = n) (hv : v.l.length = m) (hv' : o.l.length = m) (hb : bal.length = m) (hf : fitB l v bal = true) :
    Calls Try.prog 31 #[.agg (tr ⟨⟨p, n, cp⟩⟩), .agg (vo ⟨⟨q, m, cq⟩, v.out⟩), .agg (vo ⟨⟨q', m, cq'⟩, o.out⟩), .slice r m cr] w (fun e w' => ∃ u, e = .returned u ∧ OwnE Enum w' w.heap.size u (numsT (someF l v o bal) l.length) ∧ Below w.heap.size w w') := by
  obtain ⟨hmt, hmv, hmb, _⟩ := fit_iff.1 hf
  obtain ⟨W0, hW0⟩ : ∃ W0, W0 = ((w.alloc (.cells (tr ⟨⟨p, n, cp⟩⟩) 24)).alloc (.cells (vo ⟨⟨q, m, cq⟩, v.out⟩) 28)).alloc (.cells (vo ⟨⟨q', m, cq'⟩, o.out⟩) 28) := ⟨_, rfl⟩
  obtain ⟨hB, k0, k1, k2, hz0⟩ := heap3 w _ _ _ _ _ _ W0 hW0
  have K2 := Lib.hid k2
  have HB := Lib.hid hB
  have HW := Lib.hid hW0
  have K0 := Lib.hid k0
  have K1 := Lib.hid k1
  have HL := Lib.hid hl
  have HLV := Lib.hid hv
  have HLB := Lib.hid hb
  have HN : Hid (n ≤ 12 ∧ m ≤ 8) := by show n ≤ 12 ∧ m ≤ 8; have := hmt.le; have := (mayB_iff.1 hmb).2.1; omega
  have HMB := Lib.hid hmb
  obtain ⟨b0, o0, rfl, _, x0⟩ := slE_ptr h hmt.pos
  obtain ⟨b1, o1, rfl, _, x1⟩ := lats_ptr h1 (by have := (mayV_iff.1 hmv).1; omega)
  obtain ⟨b3, o3, rfl, _, x3⟩ := lats_ptr h1' (by have := (mayV_iff.1 hmv).1; omega)
  have X3 := Lib.hid x3
  have HLO := Lib.hid hv'
  obtain ⟨b2, o2, rfl, _, x2⟩ := nums_ptr h2 (by have := (mayV_iff.1 hmv).1; omega)
  have X0 := Lib.hid x0
  have X1 := Lib.hid x1
  have X2 := Lib.hid x2
  have HE : Hid (numsT (someF l v o bal) l.length = numsT (someF l v o bal) n) := by show _ = _; rw [hl]
  clear hW0 h h1 h1' h2 hl hv hv' hb hf hB k0 k1 k2 hz0 x0 x1 x3 x2 hmt hmv hmb
  go_enter Try.func31, Try.ntmps31
  go_wp2_with fail
  rw [← HW.out]
  obtain ⟨w1, hw1⟩ : ∃ w1, w1 = W0 := ⟨_, rfl⟩
  have G1 : Hid (Below w.heap.size w w1) := by rw [hw1]; exact HB.out
  have M1 := K0
  have N1 := K1
  have O1 := K2
  rw [← hw1] at M1 N1 O1
  rw [← hw1]
  clear hw1 K0 K1 K2 HW HB
  go_loopw [9, 10] (fun u i wr => ∃ j : Nat, j ≤ n ∧ i = .int .i64 (j : Int) ∧ OwnE Enum wr w1.heap.size u (numsT (someF l v o bal) j) ∧ Below w1.heap.size w1 wr) (fun _ i _ => n - (intOf i).toNat)
  case atStart => exact ⟨0, Nat.zero_le _, rfl, ownE_nil _ _ _, Below.refl _ _⟩
  case round =>
    obtain ⟨i, hi, rfl, hown, hb⟩ := hrel
    obtain ⟨wo, rfl⟩ : ∃ wo : World, wo = wr := ⟨_, rfl⟩
    have HO := Lib.hid hown
    have HBB := Lib.hid hb
    obtain ⟨pv, cv, rfl⟩ := ownE_len hown (nums_len _ i)
    obtain ⟨z0, z1, zl⟩ := tr_cells (blk_keep hb M1.out)
    dsimp only at z0
    rw [sv_mk] at z0
    clear hown hb z1 zl
    by_cases hlt : i < n
    · have i0 : (0 : Int) ≤ (i : Int) := by omega
      have i1 : (i : Int) < (n : Int) := by omega
      have u1 : (i : Int) + 1 < 10000 := by have := HN.out.1; omega
      have HLT := Lib.hid hlt
      have HLn := Lib.hid (nums_len (someF l v o bal) i)
      clear hlt
      go_wp2_with fail
      clear z0
      go_loopw [11, 12] (fun s k wr => ∃ j : Nat, j ≤ m ∧ k = .int .i64 (j : Int) ∧ s = .int .u64 (selF (newB l v o i) (fn bal) j : Int) ∧ Below wo.heap.size wo wr) (fun _ k _ => m - (intOf k).toNat)
      case atStart => exact ⟨0, Nat.zero_le _, rfl, rfl, Below.refl _ _⟩
      case round =>
        obtain ⟨j, hj, rfl, rfl, hb⟩ := hrel
        have HI := Lib.hid hb
        clear hb
        by_cases hjt : j < m
        · have j0 : (0 : Int) ≤ (j : Int) := by omega
          have j1 : (j : Int) < (m : Int) := by omega
          have v1 : (j : Int) + 1 < 10000 := by have := HN.out.2; omega
          have HJT := Lib.hid hjt
          have GW := Lib.hid (belowT G1.out (belowT HBB.out HI.out))
          obtain ⟨z0, z1, zl⟩ := tr_cells (blk_keep (belowT HBB.out HI.out) M1.out)
          dsimp only at z0
          rw [sv_mk] at z0
          have y0 := (vo_cells (blk_keep (belowT HBB.out HI.out) N1.out)).1
          dsimp only at y0
          rw [sv_mk] at y0
          have yh := lats_has (keepR GW.out X1.out) (i := j) (by have := HLV.out; omega)
          have yr := lats_root (keepR GW.out X1.out) (i := j) (by have := HLV.out; omega)
          have yn := nds_root (keepR GW.out X0.out) (i := i) (by have := HL.out; have := HLT.out; omega)
          have yb := nums_cell (keepR GW.out X2.out) (i := j) (by have := HLB.out; omega)
          have hs1 := sel_small HMB.out (newB l v o i) (k := j) (by have := HLB.out; omega)
          have hs2 := sel_small HMB.out (fun k => decide (k = j)) (k := j + 1) (by have := HLB.out; omega)
          have hs3 : fn bal j ≤ 1099511627776 := (mayB_iff.1 HMB.out).2.2 j (by have := HLB.out; omega)
          have yo := (vo_cells (blk_keep (belowT HBB.out HI.out) O1.out)).1
          dsimp only at yo
          rw [sv_mk] at yo
          have yl := lats_ld (keepR GW.out X1.out) (i := j) (by have := HLV.out; omega)
          have ym := lats_ld (keepR GW.out X3.out) (i := j) (by have := HLO.out; omega)
          obtain ⟨df, hdf⟩ : ∃ d, d = decide (lat v.l j = lat o.l j) := ⟨_, rfl⟩
          obtain ⟨H, hH⟩ : ∃ H, H = (lat v.l j).has := ⟨_, rfl⟩
          obtain ⟨E, hE⟩ : ∃ E, E = decide ((lat v.l j).root = (nd l i).root) := ⟨_, rfl⟩
          rw [← hH] at yh
          have HF2 : Hid (newB l v o i j = ((H && E) && !df)) := by show newB l v o i j = _; unfold newB forB; rw [hH, hE, hdf]; congr 1; rw [decide_not]
          have HX2 : Hid (∀ x : Nat, x = selF (newB l v o i) (fn bal) j → x ≤ 8796093022208) := fun x hx => by rw [hx]; exact hs1
          obtain ⟨X, hX⟩ : ∃ X, X = selF (newB l v o i) (fn bal) j := ⟨_, rfl⟩
          obtain ⟨Y, hY⟩ : ∃ Y, Y = fn bal j := ⟨_, rfl⟩
          rw [← hX] at hs1
          rw [← hY] at hs3 yb
          have HSy : Hid (newB l v o i j = true → selF (newB l v o i) (fn bal) (j + 1) = X + Y) := fun e => by rw [hX, hY]; exact selF_yes e
          have HSn : Hid (newB l v o i j = false → selF (newB l v o i) (fn bal) (j + 1) = X) := fun e => by rw [hX]; exact selF_no e
          rw [← hX]
          generalize (lat v.l j).root = R1 at *
          generalize (nd l i).root = R2 at *
          have tE : eqB R1 R2 = E := hE.symm
          have hU : Unit → (X : Int) + (Y : Int) < 18446744073709551616 := fun _ => by omega
          clear hjt hs1 hs2 hs3 hX hY hH hE z1 zl HX2
          generalize lat v.l j = L1 at *
          generalize lat o.l j = L2 at *
          have tD : decide (L1 = L2) = df := hdf.symm
          clear hdf
          cases H
          · have HEn : Hid (selF (newB l v o i) (fn bal) (j + 1) = X) := HSn.out (by rw [HF2.out]; rfl)
            go_wp2_with fail
            go_quiet (fail)
            go_wp2_with fail
            go_roundw
            case rel => exact ⟨j + 1, HJT.out, by go_num, by rw [HEn.out], belowD HI.out _⟩
            case measure => simp [intOf]; have := HJT.out; omega
          · cases E
            · have HEn : Hid (selF (newB l v o i) (fn bal) (j + 1) = X) := HSn.out (by rw [HF2.out]; rfl)
              go_wp2_with fail
              go_quiet (fail)
              go_wp2_with fail
              go_roundw
              case rel => exact ⟨j + 1, HJT.out, by go_num, by rw [HEn.out], belowD HI.out _⟩
              case measure => simp [intOf]; have := HJT.out; omega
            · cases df
              · have HEn : Hid (selF (newB l v o i) (fn bal) (j + 1) = X + Y) := HSy.out (by rw [HF2.out]; rfl)
                go_wp2_with fail
                go_quiet (fail)
                go_wp2_with fail
                go_roundw
                case rel => exact ⟨j + 1, HJT.out, by go_num, by rw [HEn.out, IntKind.wrap_u64, Int.natCast_add, Int.emod_eq_of_lt (by omega) (hU ())], belowD HI.out _⟩
                case measure => simp [intOf]; have := HJT.out; omega
              · have HEn : Hid (selF (newB l v o i) (fn bal) (j + 1) = X) := HSn.out (by rw [HF2.out]; rfl)
                go_wp2_with fail
                go_quiet (fail)
                go_wp2_with fail
                go_roundw
                case rel => exact ⟨j + 1, HJT.out, by go_num, by rw [HEn.out], belowD HI.out _⟩
                case measure => simp [intOf]; have := HJT.out; omega
        · obtain rfl : j = m := by omega
          have HEv : Hid (selF (newB l v o i) (fn bal) j = someF l v o bal i) := by show selF _ _ j = _; rw [← HLB.out]; rfl
          have O3 := Lib.hid (ownE_keep HI.out HO.out)
          have hs1 := sel_small HMB.out (newB l v o i) (k := j) (by have := HLB.out; omega)
          obtain ⟨x, hx⟩ : ∃ x, x = selF (newB l v o i) (fn bal) j := ⟨_, rfl⟩
          rw [← hx] at HEv hs1
          rw [← hx]
          have HXs : Hid (x < 18446744073709551616) := by show x < _; omega
          clear hjt hx hs1
          go_wp2_with (at_builtin; refine wpList_append_E Knum _ rfl (.tmp 66) (.tmp 68) rfl w1.heap.size _ (numsT (someF l v o bal) i) rfl (ownE_alloc O3.out _) _ [UInt64.ofNat x] rfl (nums_one _ HXs.out _ rfl) (by have := HLn.out; have := HN.out.1; have := HLT.out; simp; omega) (by have := HBB.out.size; have := HI.out.size; simp; omega) ?_; intro v2 w4 ho4 hg4)
          go_roundw
          case rel => exact ⟨i + 1, HLT.out, by go_num, by rw [nums_succ, ← HEv.out]; exact ho4, (belowT HBB.out (belowT HI.out below1)).trans (hg4.own (ownE_alloc O3.out _) (by have := HBB.out.size; have := HI.out.size; simp; omega))⟩
          case measure => simp [intOf]; have := HLT.out; omega
    · obtain rfl : i = n := by omega
      clear hlt
      go_wp2_with fail
      go_ret
      exact ⟨_, rfl, by rw [HE.out]; exact ownE_base HO.out G1.out.size, belowT G1.out HBB.out⟩
theorem enters_ref14Some : ∀ args w, (callFunc 31 args).run Try.prog w = .ok (.enter 31 args) w := entersE Try.func31 (by kernel_rfl) (by kernel_rfl)
end Go.Proofs.Ytccihllcohnnnaa
