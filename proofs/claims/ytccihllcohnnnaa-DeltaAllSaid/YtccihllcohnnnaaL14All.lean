/-
  The law DeltaAll, walked. (written by wip/gen/law14.py)
-/
import Derived.Test.YtccihllcohnnnaaQ27
import Derived.Test.YtccihllcohnnnaaQ28
namespace Go.Proofs.Ytccihllcohnnnaa
open Go.RowKit
set_option maxRecDepth 100000

set_option maxRecDepth 100000 in
set_option maxHeartbeats 8000000 in
theorem deltaAll_n (H : DeltaC) (H' : BesideC) (pt : Option Addr) (nt ct : Nat) (l : List Nd) (pv : Option Addr) (nv cv : Nat) (v : Vt) (pbal : Option Addr) (nbal cbal : Nat) (bal : List UInt64) (w : World) (ht : SlE Ene w (.slice pt nt ct) l) (lt : l.length = nt) (hv : SlE Elt w (.slice pv nv cv) v.l) (lv : v.l.length = nv) (hbal : SlE Enum w (.slice pbal nbal cbal) bal) (lbal : bal.length = nbal) :
    Calls Try.prog 5 #[.agg (tr ⟨⟨pt, nt, ct⟩⟩), .agg (vo ⟨⟨pv, nv, cv⟩, v.out⟩), .slice pbal nbal cbal] w fun e w' => e = .returned (.bool true) ∧ Below w.heap.size w w' := by
  obtain ⟨W0, hW0⟩ : ∃ W0, W0 = ((w.alloc (.cells (tr ⟨⟨pt, nt, ct⟩⟩) 24)).alloc (.cells (vo ⟨⟨pv, nv, cv⟩, v.out⟩) 28)) := ⟨_, rfl⟩
  obtain ⟨hB, b0, b1, _⟩ := heap2 w _ _ _ _ W0 hW0
  have A : Hid (Tw w W0 (w.heap.size) ⟨pt, nt, ct⟩ l) := ⟨b0, slE_keep hB ht, hB⟩
  have Av : Hid (Vw w W0 (w.heap.size + 1) ⟨pv, nv, cv⟩ v) := ⟨b1, slE_keep hB hv, hB⟩
  have Lt := Lib.hid lt
  have Lv := Lib.hid lv
  have Lbal := Lib.hid lbal
  have Kbal := Lib.hid (slE_keep hB hbal)
  have HW := Lib.hid hW0
  have HAw := Lib.hid (fun W => awake_any14 H H' W)
  have HH := Lib.hid H
  have HJ := Lib.hid H'
  clear H H' hW0 hB b0 b1 ht lt hv lv hbal lbal
  go_enter Try.func5, Try.ntmps5
  go_wp2_with fail
  rw [← HW.out]
  refine (HAw.out _).mono ?_
  rintro e w1 ⟨rfl, g⟩
  replace A := Lib.hid (A.out.keep g)
  replace Av := Lib.hid (Av.out.keep g)
  replace Kbal := Lib.hid (slE_keep g Kbal.out)
  clear g
  have HW1 := Lib.hid (fun W (h : SlE Ene W (.slice pt nt ct) l) (h1 : SlE Elt W (.slice pv nv cv) v.l) (h9 : SlE Enum W (.slice pbal nbal cbal) bal) => HH.out.weights ⟨pt, nt, ct⟩ ⟨pv, nv, cv⟩ _ l v bal W h h1 h9)
  have HT := Lib.hid (fun W (h9 : SlE Enum W (.slice pbal nbal cbal) bal) => HJ.out.total _ bal W h9)
  have HO := Lib.hid (fun W (h9 : SlE Enum W (.slice pbal nbal cbal) bal) (mk : UInt64) => HJ.out.ofS _ bal mk W h9)
  have HBt := Lib.hid (fun (z : Int) W => HJ.out.bit z W)
  have HFd := Lib.hid (fun (r : Rt) W (h : SlE Ene W (.slice pt nt ct) l) => HJ.out.find ⟨pt, nt, ct⟩ l r W h)
  have HX : Hid (fitB l v bal = true → (wtsL l v bal).length = nt ∧ 0 < nt ∧ nv ≤ 8 ∧ (∀ i, i < nt → fn (wtsL l v bal) i ≤ totS bal ∧ fn (wtsL l v bal) i ≤ fn (wtsL l v bal) 0) ∧ ofS bal (maskU (hereB l v) nv) = fn (wtsL l v bal) 0) := fun e => by
    obtain ⟨hm, hv, hb, hlen⟩ := fit_iff.1 e
    have e1 := Lt.out
    have e2 := Lv.out
    have h8 := (mayV_iff.1 hv).2.1
    have hp := hm.pos
    refine ⟨by rw [wts_len e]; exact e1, by omega, by omega, fun i hi => ⟨(wts_le e (by omega)).2, (wts_le e (by omega)).1⟩, ?_⟩
    rw [← e2]; exact mask_of e
  have HQ : Hid (∀ j, hereB l v j = ((lat v.l j).has && decide (0 ≤ findT l (lat v.l j).root))) := fun j => rfl
  have HY : Hid (∀ j, j < 63 → hereB l v j = true → ((maskU (hereB l v) (j + 1)).toNat : Int) = ((maskU (hereB l v) j).toNat : Int) + ((2 ^ j : Nat) : Int)) := fun j hj e => by rw [maskU_yes hj e, Int.natCast_add]
  have HNo : Hid (∀ j, hereB l v j = false → maskU (hereB l v) (j + 1) = maskU (hereB l v) j) := fun j e => maskU_no e
  have HSm : Hid (∀ j, j < 8 → ((maskU (hereB l v) j).toNat : Int) + ((2 ^ j : Nat) : Int) < 18446744073709551616) := fun j hj => by
    have h1 := maskU_lt (hereB l v) j (by omega)
    have h2 : 2 ^ j ≤ 2 ^ 8 := Nat.pow_le_pow_right (by decide) (by omega)
    omega
  generalize hereB l v = q at *
  generalize wtsL l v bal = V at *
  generalize totS bal = tt at *
  generalize fitB l v bal = f at *
  have z1t := A.out.z1
  have z1v := Av.out.z1
  go_wp2_with fail
  refine (HW1.out _ A.out.s Av.out.s Kbal.out).mono ?_
  rintro e w2 ⟨u1, rfl, hs, g⟩
  replace A := Lib.hid (A.out.keep g)
  replace Av := Lib.hid (Av.out.keep g)
  replace Kbal := Lib.hid (slE_keep g Kbal.out)
  have U1 := Lib.hid hs
  clear g z1t z1v hs
  have z0t := A.out.z0
  rw [sv_mk] at z0t
  by_cases h1 : 20 < nt
  · have h1i : decide ((20 : Int) < (nt : Int)) = true := decide_eq_true (by omega)
    have h1i' : decide (20 < nt) = true := decide_eq_true (by omega)
    clear h1
    go_wp2_with fail
    go_ret
    exact ⟨rfl, A.out.g⟩
  have h1i : decide ((20 : Int) < (nt : Int)) = false := decide_eq_false (by omega)
  have h1i' : decide (20 < nt) = false := decide_eq_false (by omega)
  have HNt : Hid (nt ≤ 20) := by show nt ≤ 20; omega
  clear h1
  cases f
  · skip
    go_wp2_with fail
    go_ret
    exact ⟨rfl, A.out.g⟩
  obtain ⟨k1, k2, k3, k4, k5⟩ := HX.out rfl
  have K1 := Lib.hid k1
  have K2 := Lib.hid k2
  have K3 := Lib.hid k3
  have K4 := Lib.hid k4
  have K5 := Lib.hid k5
  obtain ⟨p1, c1, rfl⟩ := slE_len U1.out k1
  clear k1 k2 k3 k4 k5 HX HW1
  go_wp2_with fail
  clear z0t
  go_loopw [10, 11] (fun mk i wr => ∃ j : Nat, j ≤ nv ∧ i = .int .i64 (j : Int) ∧ mk = .int .u64 ((maskU q j).toNat : Int) ∧ Below w2.heap.size w2 wr) (fun _ i _ => nv - (intOf i).toNat)
  case atStart => exact ⟨0, Nat.zero_le _, rfl, rfl, Below.refl _ _⟩
  case round =>
    obtain ⟨j, hj, rfl, rfl, hb⟩ := hrel
    have HBB := Lib.hid hb
    have A1 := Lib.hid (A.out.keep hb)
    have A2 := Lib.hid (Av.out.keep hb)
    have z0v := A2.out.z0
    rw [sv_mk] at z0v
    clear hb
    by_cases hlt : j < nv
    · have i0 : (0 : Int) ≤ (j : Int) := by omega
      have i1 : (j : Int) < (nv : Int) := by omega
      have u1 : (j : Int) + 1 < 10000 := by have := K3.out; omega
      have d0 : decide ((j : Int) < (nv : Int)) = true := decide_eq_true i1
      have d0' : decide (j < nv) = true := decide_eq_true hlt
      obtain ⟨b1, o1, rfl, _, x1⟩ := lats_ptr A2.out.s (by have := Lv.out; omega)
      have yh := lats_has x1 (i := j) (by have := Lv.out; omega)
      have yr := lats_root x1 (i := j) (by have := Lv.out; omega)
      have hq := HQ.out j
      have HYj := Lib.hid (HY.out j (by have := K3.out; omega))
      have HNj := Lib.hid (HNo.out j)
      have HSj := Lib.hid (HSm.out j (by have := K3.out; omega))
      have HBj : Hid (∀ W, Calls Try.prog 19 #[.int .i64 (j : Int)] W fun e w' => e = .returned (.int .u64 ((2 ^ j : Nat) : Int)) ∧ Below W.heap.size W w') := fun W => by
        have := HBt.out (j : Int) W
        rwa [bitN_nat (by have := K3.out; omega)] at this
      have HLT := Lib.hid hlt
      obtain ⟨X, hX⟩ : ∃ X, X = ((maskU q j).toNat : Int) := ⟨_, rfl⟩
      obtain ⟨Y, hY⟩ : ∃ Y, Y = ((2 ^ j : Nat) : Int) := ⟨_, rfl⟩
      rw [← hX] at HYj HSj
      rw [← hY] at HYj HSj HBj
      rw [← hX]
      have HX := Lib.hid hX
      generalize (lat v.l j).has = H at *
      generalize (lat v.l j).root = R at *
      have HFj := Lib.hid (fun W h => HFd.out R W h)
      generalize findT l R = F at *
      have HYp := Lib.hid hY
      clear hlt x1 hX hY
      go_wp2_with fail
      have L0 := fun p : Wd wr.drew => wd_tr A1.out.box p
      have L1 := fun p : Wd wr.drew => wd_cell z0v p
      have L2 := fun p : Wd wr.drew => wd_cell yh p
      have L3 := fun p : Wd wr.drew => wd_ld yr (by decide) p
      clear z0v yh yr
      cases H
      · have hn := HNj.out (by rw [hq]; rfl)
        have HN := Lib.hid hn
        refine wp_region_lex [14] (by kernel_rfl) (by kernel_rfl) (by kernel_rfl) ?_
        repeat (first | (refine wpXL_quiet rfl rfl _ cls_begin ?_; (first | go_big_quiet_step (fail) | quiet_step (fail)); refine wpQuiet_nil ?_) | refine wpXL_skip rfl ?_)
        refine wpXL_nil ?_
        clear L0 L1 L2 L3 hn hq
        go_wp2_with fail
        go_roundw
        case rel => exact ⟨j + 1, HLT.out, by go_num, by rw [HN.out, HX.out], belowD HBB.out 1⟩
        case measure => simp [intOf]; have := HLT.out; omega
      · refine wp_region_lex [14] (by kernel_rfl) (by kernel_rfl) (by kernel_rfl) ?_
        repeat (first | (refine wpXL_quiet rfl rfl _ cls_begin ?_; (first | go_big_quiet_step (fail) | quiet_step (fail)); refine wpQuiet_nil ?_) | refine wpXL_skip rfl ?_)
        refine wpXL_call rfl rfl rfl enters_treeFind14 #[.agg (tr ⟨⟨pt, nt, ct⟩⟩), .agg (rc R)] rfl ?_
        refine (HFj.out _ (slE_keep (belowD (Below.refl _ _) 1) A1.out.s)).mono ?_
        rintro e u ⟨rfl, g⟩
        refine ⟨_, rfl, g, ?_⟩
        simp only [Act.put, List.setIfInBounds_toArray, List.set_cons_zero, List.set_cons_succ]
        have G : Hid (Below w2.heap.size w2 u) := belowT HBB.out (belowT (belowD (Below.refl _ _) 1) g)
        clear g
        by_cases hF : 0 ≤ F
        · have t0 : decide (0 ≤ F) = true := decide_eq_true hF
          have HE := Lib.hid (HYj.out (by rw [hq, t0]; rfl))
          have hsm := HSj.out
          have e0 : (0 : Int) ≤ X := by rw [HX.out]; exact Int.natCast_nonneg _
          have hy : (0 : Int) ≤ Y := by rw [HYp.out]; exact Int.natCast_nonneg _
          have HWr : Hid (IntKind.u64.wrap (X + Y) = X + Y) := by show _ = _; rw [IntKind.wrap_u64]; omega
          clear hF hsm hq hy e0
          repeat (first | (refine wpXL_quiet rfl rfl _ cls_begin ?_; (first | go_big_quiet_step (fail) | quiet_step (fail)); refine wpQuiet_nil ?_) | refine wpXL_skip rfl ?_)
          refine wpXL_nil ?_
          clear L0 L1 L2 L3
          go_wp2_with fail
          refine (HBj.out _).mono ?_
          rintro e u2 ⟨rfl, g⟩
          have G2 : Hid (Below w2.heap.size w2 u2) := belowT G.out g
          clear g
          go_wp2_with fail
          go_roundw
          case rel => exact ⟨j + 1, HLT.out, by go_num, by first | (rw [HE.out]; done) | (rw [HWr.out, HE.out]) | (rw [HE.out]; rfl), G2.out⟩
          case measure => simp [intOf]; have := HLT.out; omega
        · have t0 : decide (0 ≤ F) = false := decide_eq_false hF
          have hn := HNj.out (by rw [hq, t0]; rfl)
          have HN := Lib.hid hn
          clear hF hn hq
          repeat (first | (refine wpXL_quiet rfl rfl _ cls_begin ?_; (first | go_big_quiet_step (fail) | quiet_step (fail)); refine wpQuiet_nil ?_) | refine wpXL_skip rfl ?_)
          refine wpXL_nil ?_
          clear L0 L1 L2 L3
          go_wp2_with fail
          go_roundw
          case rel => exact ⟨j + 1, HLT.out, by go_num, by rw [HN.out, HX.out], G.out⟩
          case measure => simp [intOf]; have := HLT.out; omega
    · obtain rfl : j = nv := by omega
      have d0 : decide ((j : Int) < (j : Int)) = false := decide_eq_false (Int.lt_irrefl _)
      have d0' : decide (j < j) = false := decide_eq_false (Nat.lt_irrefl _)
      obtain ⟨w5, rfl⟩ : ∃ w5 : World, w5 = wr := ⟨_, rfl⟩
      have U5 := Lib.hid (slE_keep HBB.out U1.out)
      have B5 := Lib.hid (slE_keep HBB.out Kbal.out)
      obtain ⟨b1, o1, rfl, _, x1⟩ := nums_ptr U5.out (by have := K1.out; have := K2.out; omega)
      have X1 := Lib.hid x1
      have HOj := Lib.hid (fun W h => HO.out W h (maskU q j))
      rw [K5.out] at HOj
      obtain ⟨X, hX⟩ : ∃ X, X = ((maskU q j).toNat : Int) := ⟨_, rfl⟩
      rw [← hX] at HOj
      rw [← hX]
      clear hlt x1 hX HY HNo HSm HQ HFd HBt U1 Kbal
      go_wp2_with fail
      clear z0v d0 d0'
      go_loopw [12] (fun i wr => ∃ k : Nat, k ≤ nt ∧ i = .int .i64 (k : Int) ∧ Below w5.heap.size w5 wr) (fun i _ => nt - (intOf i).toNat)
      case atStart => exact ⟨0, Nat.zero_le _, rfl, Below.refl _ _⟩
      case round =>
        obtain ⟨k, hk, rfl, hb⟩ := hrel
        have HI := Lib.hid hb
        clear hb
        have y0 := nums_cell (keepR HI.out X1.out) (i := 0) (by have := K1.out; have := K2.out; omega)
        simp only [Nat.add_zero] at y0
        have v0 : (0 : Int) < (nt : Int) := by have := K2.out; omega
        have v0' : 0 < nt := K2.out
        by_cases hkt : k < nt
        · have i0 : (0 : Int) ≤ (k : Int) := by omega
          have i1 : (k : Int) < (nt : Int) := by omega
          have u1 : (k : Int) + 1 < 10000 := by have := HNt.out; omega
          have d0 : decide ((k : Int) < (nt : Int)) = true := decide_eq_true i1
          have d0' : decide (k < nt) = true := decide_eq_true hkt
          have yk := nums_cell (keepR HI.out X1.out) (i := k) (by have := K1.out; omega)
          have hle := K4.out k hkt
          generalize fn V k = x at *
          generalize fn V 0 = y at *
          have q1 : decide ((tt : Int) < (x : Int)) = false := decide_eq_false (by omega)
          have q1' : decide (tt < x) = false := decide_eq_false (by omega)
          have q2 : decide ((y : Int) < (x : Int)) = false := decide_eq_false (by omega)
          have q2' : decide (y < x) = false := decide_eq_false (by omega)
          have HKT := Lib.hid hkt
          clear hkt hle
          go_wp2_with fail
          have L0 := fun p : Wd wr.drew => wd_cell y0 p
          have L1 := fun p : Wd wr.drew => wd_cell yk p
          clear y0 yk
          refine wp_region_lex [5] (by kernel_rfl) (by kernel_rfl) (by kernel_rfl) ?_
          repeat (first | (refine wpXL_quiet rfl rfl _ cls_begin ?_; (first | go_big_quiet_step (fail) | quiet_step (fail)); refine wpQuiet_nil ?_) | refine wpXL_skip rfl ?_)
          refine wpXL_call rfl rfl rfl enters_stakeTotal14 #[.slice pbal nbal cbal] rfl ?_
          refine (HT.out _ (slE_keep (belowT HI.out (belowD (Below.refl _ _) 1)) B5.out)).mono ?_
          rintro e u ⟨rfl, g⟩
          refine ⟨_, rfl, g, ?_⟩
          simp only [Act.put, List.setIfInBounds_toArray, List.set_cons_zero, List.set_cons_succ]
          have G : Hid (Below w5.heap.size w5 u) := belowT HI.out (belowT (belowD (Below.refl _ _) 1) g)
          clear g
          repeat (first | (refine wpXL_quiet rfl rfl _ cls_begin ?_; (first | go_big_quiet_step (fail) | quiet_step (fail)); refine wpQuiet_nil ?_) | refine wpXL_skip rfl ?_)
          refine wpXL_nil ?_
          clear L0 L1
          go_wp2_with fail
          go_roundw
          case rel => exact ⟨k + 1, HKT.out, by go_num, G.out⟩
          case measure => simp [intOf]; have := HKT.out; omega
        · obtain rfl : k = nt := by omega
          have d0 : decide ((k : Int) < (k : Int)) = false := decide_eq_false (Int.lt_irrefl _)
          have d0' : decide (k < k) = false := decide_eq_false (Nat.lt_irrefl _)
          have e0 : decide ((0 : Int) < (k : Int)) = true := decide_eq_true v0
          have e0' : decide (0 < k) = true := decide_eq_true v0'
          have A6 := Lib.hid (A1.out.keep HI.out)
          have z0t := A6.out.z0
          rw [sv_mk] at z0t
          generalize fn V 0 = y at *
          have q3 : ((y : Int) == (y : Int)) = true := by simp
          clear hkt
          go_wp2_with fail
          have L0 := fun p : Wd wr.drew => wd_cell y0 p
          have L1 := fun p : Wd wr.drew => wd_cell z0t p
          clear y0 z0t
          refine wp_region_lex [17] (by kernel_rfl) (by kernel_rfl) (by kernel_rfl) ?_
          repeat (first | (refine wpXL_quiet rfl rfl _ cls_begin ?_; (first | go_big_quiet_step (fail) | quiet_step (fail)); refine wpQuiet_nil ?_) | refine wpXL_skip rfl ?_)
          refine wpXL_call rfl rfl rfl enters_stakeOf14 #[.slice pbal nbal cbal, .int .u64 X] rfl ?_
          refine (HOj.out _ (slE_keep (belowT HI.out (belowD (Below.refl _ _) 1)) B5.out)).mono ?_
          rintro e u ⟨rfl, g⟩
          refine ⟨_, rfl, g, ?_⟩
          simp only [Act.put, List.setIfInBounds_toArray, List.set_cons_zero, List.set_cons_succ]
          have A7 := Lib.hid (A6.out.keep (belowT (belowD (Below.refl _ _) 1) g))
          clear g
          repeat (first | (refine wpXL_quiet rfl rfl _ cls_begin ?_; (first | go_big_quiet_step (fail) | quiet_step (fail)); refine wpQuiet_nil ?_) | refine wpXL_skip rfl ?_)
          refine wpXL_nil ?_
          clear L0 L1
          go_wp2_with fail
          go_ret
          exact ⟨rfl, A7.out.g⟩
/-- The law. -/
theorem deltaAllL (H : DeltaC) (H' : BesideC) (tt : Tr) (l : List Nd) (tv : SlV) (v : Vt) (vbal : Value) (bal : List UInt64) (w : World) (ht : SlE Ene w (sv tt.n) l) (hv : SlE Elt w (sv tv) v.l) (hbal : SlE Enum w vbal bal) :
    Calls Try.prog 5 #[.agg (tr tt), .agg (vo ⟨tv, v.out⟩), vbal] w fun e w' => e = .returned (.bool true) ∧ Below w.heap.size w w' := by
  obtain ⟨⟨pt, nt, ct⟩⟩ := tt
  have lt := sv_lenN ht
  dsimp only at lt
  have lv := sv_lenT hv
  obtain ⟨pv, nv, cv⟩ := tv
  dsimp only at lv
  have kbal := hbal
  obtain ⟨pbal, cbal, rfl, _⟩ := slE_shape hbal
  exact deltaAll_n H H' pt _ ct l pv _ cv v pbal _ cbal bal w ht lt hv lv kbal rfl
end Go.Proofs.Ytccihllcohnnnaa
