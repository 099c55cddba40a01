/-
  The document's best way down: told, Kid, walked.
-/
import Derived.Test.YtjmpgphoiehdmaaBestQ
import Derived.Test.YtjmpgphoiehdmaaGI
import Derived.Test.YtjmpgphoiehdmaaR06May
namespace Go.Proofs.Ytjmpgphoiehdmaa
open Go.RowKit

set_option maxRecDepth 100000 in
set_option maxHeartbeats 4000000 in
theorem ref09Told_n (p q1 q2 : Option Addr) (n cp m1 c1 m2 c2 : Nat) (l : List Nd) (a : List UInt64) (b : List Bool) (w : World) (h : SlE Ene w (.slice p n cp) l) (hl : l.length = n) (ha : a.length = m1) (hb : b.length = m2) (hn : n ≤ 1000) :
    Calls Try.prog 25 #[.agg (tr ⟨⟨p, n, cp⟩⟩), .slice q1 m1 c1, .slice q2 m2 c2] w fun e w' => e = .returned (.bool (toldB l a b)) ∧ Below w.heap.size w w' := by
  have HM := Lib.hid (fun W (g : Below w.heap.size w W) => refMayT ⟨p, n, cp⟩ l W (slE_keep g h) (by omega))
  obtain ⟨r, hr⟩ : ∃ r, r = decide (MayT l) := ⟨_, rfl⟩
  obtain ⟨x, hx⟩ : ∃ x, x = ((m1 : Int) == (n : Int)) := ⟨_, rfl⟩
  obtain ⟨y, hy⟩ : ∃ x, x = ((m2 : Int) == (m1 : Int)) := ⟨_, rfl⟩
  rw [← hr] at HM
  have HT : Hid (toldB l a b = (r && (x && y))) := by
    show toldB l a b = _
    rw [Bool.eq_iff_iff, told_iff, hr, hx, hy, Bool.and_eq_true, Bool.and_eq_true, decide_eq_true_iff, beq_iff_eq, beq_iff_eq, ha, hb, hl]
    exact ⟨fun h => ⟨h.1, by omega, by omega⟩, fun h => ⟨h.1, by omega, by omega⟩⟩
  rw [HT.out]
  have tx : ((m1 : Int) == (n : Int)) = x := hx.symm
  have ty : ((m2 : Int) == (m1 : Int)) = y := hy.symm
  obtain ⟨W0, hW0⟩ : ∃ W0, W0 = w.alloc (.cells (tr ⟨⟨p, n, cp⟩⟩) 24) := ⟨_, rfl⟩
  have HB : Hid (Below w.heap.size w W0) := by rw [hW0]; exact below1
  have M0 : Hid (W0.heap[w.heap.size]? = some (.cells (tr ⟨⟨p, n, cp⟩⟩) 24 (0, 0))) := by rw [hW0]; exact heap_alloc_last w _
  have HW := Lib.hid hW0
  clear hW0 h hl ha hb hn hr hx hy HT
  go_enter Try.func25, Try.ntmps25
  go_wp2_with fail
  rw [← HW.out]
  refine (HM.out W0 HB.out).mono ?_
  rintro e w1 ⟨rfl, g1⟩
  have G1 := Lib.hid (belowT HB.out g1)
  obtain ⟨z0, z1, zl⟩ := tr_cells (blk_keep g1 M0.out)
  dsimp only at z0
  rw [sv_mk] at z0
  clear g1
  cases r
  · go_wp2_with fail
    go_ret
    exact ⟨rfl, G1.out⟩
  · cases x
    · go_wp2_with fail
      go_ret
      exact ⟨rfl, G1.out⟩
    · cases y
      · go_wp2_with fail
        go_ret
        exact ⟨rfl, G1.out⟩
      · go_wp2_with fail
        go_ret
        exact ⟨rfl, G1.out⟩
theorem enters_ref09Told : ∀ args w, (callFunc 25 args).run Try.prog w = .ok (.enter 25 args) w := entersE Try.func25 (by kernel_rfl) (by kernel_rfl)

theorem enters_ref02LessK : ∀ args w, (callFunc 29 args).run Try.prog w = .ok (.enter 29 args) w := entersE Try.func29 (by kernel_rfl) (by kernel_rfl)

set_option maxRecDepth 100000 in
set_option maxHeartbeats 4000000 in
theorem ref09Kid_no (p q1 q2 : Option Addr) (n cp m1 c1 m2 c2 : Nat) (l : List Nd) (a : List UInt64) (b : List Bool) (i : Int) (w : World) (h : SlE Ene w (.slice p n cp) l) (hl : l.length = n) (ha : a.length = m1) (hb : b.length = m2) (hn : n ≤ 1000) (hk : toldB l a b = false ∨ i < 0) :
    Calls Try.prog 16 #[.agg (tr ⟨⟨p, n, cp⟩⟩), .slice q1 m1 c1, .slice q2 m2 c2, .int .i64 i] w fun e w' => e = .returned (.int .i64 (-1)) ∧ Below w.heap.size w w' := by
  have HT := Lib.hid (fun W (g : Below w.heap.size w W) => ref09Told_n p q1 q2 n cp m1 c1 m2 c2 l a b W (slE_keep g h) hl ha hb hn)
  obtain ⟨r, hr⟩ : ∃ r, r = toldB l a b := ⟨_, rfl⟩
  rw [← hr] at HT hk
  have HK := Lib.hid hk
  obtain ⟨W0, hW0⟩ : ∃ W0, W0 = w.alloc (.cells (tr ⟨⟨p, n, cp⟩⟩) 24) := ⟨_, rfl⟩
  have HB : Hid (Below w.heap.size w W0) := by rw [hW0]; exact below1
  have M0 : Hid (W0.heap[w.heap.size]? = some (.cells (tr ⟨⟨p, n, cp⟩⟩) 24 (0, 0))) := by rw [hW0]; exact heap_alloc_last w _
  have HW := Lib.hid hW0
  clear hW0 h hl ha hb hn hr hk
  go_enter Try.func16, Try.ntmps16
  go_wp2_with fail
  rw [← HW.out]
  refine (HT.out W0 HB.out).mono ?_
  rintro e w1 ⟨rfl, g1⟩
  have G1 := Lib.hid (belowT HB.out g1)
  have M1 := Lib.hid (blk_keep g1 M0.out)
  clear g1
  go_wp2_with fail
  go_loopw [9, 11] (fun v i wr => v = .int .i64 (-1) ∧ i = .int .i64 0 ∧ wr = w1) (fun _ _ _ => 1)
  case atStart => exact ⟨rfl, rfl, rfl⟩
  case round =>
    obtain ⟨rfl, rfl, rfl⟩ := hrel
    obtain ⟨z0, z1, zl⟩ := tr_cells M1.out
    dsimp only at z0
    rw [sv_mk] at z0
    obtain ⟨x, hx⟩ : ∃ r, r = decide (0 < n) := ⟨_, rfl⟩
    cases x
    · have t0 : decide (0 < n) = false := hx.symm
      have t0' : decide ((0 : Int) < (n : Int)) = false := by rw [decide_eq_false_iff_not]; have := of_decide_eq_false hx.symm; omega
      clear hx
      go_wp2_with fail
      go_ret
      exact ⟨rfl, G1.out⟩
    · have t0 : decide (0 < n) = true := hx.symm
      have t0' : decide ((0 : Int) < (n : Int)) = true := by rw [decide_eq_true_iff]; have := of_decide_eq_true hx.symm; omega
      clear hx
      cases r
      · go_wp2_with fail
        go_ret
        exact ⟨rfl, G1.out⟩
      · have hi : i < 0 := HK.out.resolve_left (by simp)
        have t1 : decide (0 ≤ i) = false := decide_eq_false (by omega)
        clear hi
        go_wp2_with fail
        go_ret
        exact ⟨rfl, G1.out⟩

set_option maxRecDepth 100000 in
set_option maxHeartbeats 16000000 in
theorem ref09Kid_yes (p q1 q2 : Option Addr) (n cp c1 c2 : Nat) (l : List Nd) (a : List UInt64) (b : List Bool) (i : Nat) (w : World) (h : SlE Ene w (.slice p n cp) l) (h1 : SlE Enum w (.slice q1 n c1) a) (h2 : SlE Eboo w (.slice q2 n c2) b) (hl : l.length = n) (ht : toldB l a b = true) :
    Calls Try.prog 16 #[.agg (tr ⟨⟨p, n, cp⟩⟩), .slice q1 n c1, .slice q2 n c2, .int .i64 (i : Int)] w fun e w' => e = .returned (.int .i64 (optZ (bestN l a b i))) ∧ Below w.heap.size w w' := by
  obtain ⟨hm, hal, hbl⟩ := told_iff.1 ht
  have HT : Hid (∀ W, Below w.heap.size w W → Calls Try.prog 25 #[.agg (tr ⟨⟨p, n, cp⟩⟩), .slice q1 n c1, .slice q2 n c2] W fun e w' => e = .returned (.bool true) ∧ Below W.heap.size W w') := fun W g => by
    have := ref09Told_n p q1 q2 n cp n c1 n c2 l a b W (slE_keep g h) hl (hal.trans hl) (hbl.trans hl) (by have := hm.le; omega)
    rwa [ht] at this
  obtain ⟨res, hres⟩ : ∃ res, res = optZ (bestN l a b i) := ⟨_, rfl⟩
  rw [← hres]
  have HR := Lib.hid hres
  obtain ⟨W0, hW0⟩ : ∃ W0, W0 = w.alloc (.cells (tr ⟨⟨p, n, cp⟩⟩) 24) := ⟨_, rfl⟩
  have HB : Hid (Below w.heap.size w W0) := by rw [hW0]; exact below1
  have M0 : Hid (W0.heap[w.heap.size]? = some (.cells (tr ⟨⟨p, n, cp⟩⟩) 24 (0, 0))) := by rw [hW0]; exact heap_alloc_last w _
  have HW := Lib.hid hW0
  have HL := Lib.hid hl
  have HA := Lib.hid (hal.trans hl)
  have HBb := Lib.hid (hbl.trans hl)
  have HN : Hid (n ≤ 12) := by show n ≤ 12; have := hm.le; omega
  have HLe := Lib.hid (fun W (x y : Rt) => ref02Less x y W)
  obtain ⟨b0, o0, rfl, r0, x0⟩ := slE_ptr h hm.pos
  obtain ⟨b1, o1, rfl, r1, x1⟩ := nums_ptr h1 (by have := hm.pos; omega)
  obtain ⟨b2, o2, e2, r2, x2⟩ : ∃ bb o, q2 = some ⟨bb, o, none⟩ ∧ bb < w.heap.size ∧ w.rangeAt bb o (cellsE Eboo b) := by
    obtain ⟨bb, o, c, e, _, q, x⟩ := slE_ne h2 (by have := hm.pos; omega)
    injection e with e1 _ _
    exact ⟨bb, o, e1, q, x⟩
  subst e2
  have X0 := Lib.hid x0
  have X1 := Lib.hid x1
  have X2 := Lib.hid x2
  clear hW0 h h1 h2 hl ht hm hal hbl hres x0 x1 x2 r0 r1 r2
  go_enter Try.func16, Try.ntmps16
  go_wp2_with fail
  rw [← HW.out]
  refine (HT.out W0 HB.out).mono ?_
  rintro e w1 ⟨rfl, g1⟩
  have G1 := Lib.hid (belowT HB.out g1)
  have M1 := Lib.hid (blk_keep g1 M0.out)
  clear g1
  have i0 : decide ((0 : Int) ≤ (i : Int)) = true := decide_eq_true (by omega)
  go_wp2_with fail
  go_loopw [9, 11] (fun v k wr => ∃ j : Nat, j ≤ n ∧ k = .int .i64 (j : Int) ∧ v = .int .i64 (optZ (bestUp l a b i j)) ∧ Below w1.heap.size w1 wr) (fun _ k _ => n - (intOf k).toNat)
  case atStart => exact ⟨0, Nat.zero_le _, rfl, rfl, Below.refl _ _⟩
  case round =>
    obtain ⟨j, hj, rfl, rfl, hb⟩ := hrel
    have HBB := Lib.hid hb
    have GW := Lib.hid (belowT G1.out hb)
    obtain ⟨z0, z1, zl⟩ := tr_cells (blk_keep hb M1.out)
    dsimp only at z0
    rw [sv_mk] at z0
    clear hb
    by_cases hlt : j < n
    · have t0 : decide (j < n) = true := decide_eq_true hlt
      have t0' : decide ((j : Int) < (n : Int)) = true := by rw [decide_eq_true_iff]; omega
      have j0 : (0 : Int) ≤ (j : Int) := by omega
      have j1 : (j : Int) < (n : Int) := by omega
      have u1 : (j : Int) + 1 < 10000 := by have := HN.out; omega
      have y0 := nds_par (keepR GW.out X0.out) (i := j) (by have := HL.out; omega)
      have yb := boos_cell (keepR GW.out X2.out) (i := j) (by have := HBb.out; omega)
      obtain ⟨P, hP⟩ : ∃ P, P = (nd l j).parent := ⟨_, rfl⟩
      obtain ⟨L, hL⟩ : ∃ L, L = bn b j := ⟨_, rfl⟩
      rw [← hP] at y0
      rw [← hL] at yb
      have HC : Hid (candB l (bn b) i j = (decide (P = (i : Int)) && L)) := by show candB l (bn b) i j = _; unfold candB; rw [hP, hL]
      have HJT := Lib.hid hlt
      clear hlt hP hL
      by_cases hpi : P = (i : Int)
      · have t1 : (P != (i : Int)) = false := by rw [bne_eq_false_iff_eq]; exact hpi
        cases L
        · have HE : Hid (bestUp l a b i (j + 1) = bestUp l a b i j) := bestUp_not (by rw [HC.out, Bool.and_false])
          clear hpi
          go_wp2_with fail
          go_roundw
          case rel => exact ⟨j + 1, HJT.out, by go_num, by rw [HE.out], HBB.out⟩
          case measure => simp [intOf]; have := HJT.out; omega
        · have HCT : Hid (candB l (bn b) i j = true) := by show candB l (bn b) i j = true; rw [HC.out, decide_eq_true hpi]; rfl
          clear hpi
          cases hq : bestUp l a b i j with
          | none =>
            have HE : Hid (bestUp l a b i (j + 1) = some j) := bestUp_first HCT.out hq
            clear hq
            rw [optZ_none]
            go_wp2_with fail
            go_quiet (fail)
            go_wp2_with fail
            go_roundw
            case rel => exact ⟨j + 1, HJT.out, by go_num, by rw [HE.out, optZ_some], belowD HBB.out _⟩
            case measure => simp [intOf]; have := HJT.out; omega
          | some m =>
            have hmj := bestUp_lt hq
            have HE : Hid (bestUp l a b i (j + 1) = if betterB l lessR (fn a) j m = true then some j else some m) := bestUp_next HCT.out hq
            clear hq
            rw [optZ_some]
            have yj := nums_cell (keepR GW.out X1.out) (i := j) (by have := HA.out; have := HJT.out; omega)
            have ym := nums_cell (keepR GW.out X1.out) (i := m) (by have := HA.out; have := HJT.out; omega)
            obtain ⟨X, hX⟩ : ∃ X, X = fn a j := ⟨_, rfl⟩
            obtain ⟨Y, hY⟩ : ∃ Y, Y = fn a m := ⟨_, rfl⟩
            rw [← hX] at yj
            rw [← hY] at ym
            have m0 : (0 : Int) ≤ (m : Int) := by omega
            have m1 : (m : Int) < (n : Int) := by have := HJT.out; omega
            have m2 : decide ((m : Int) < 0) = false := decide_eq_false (by omega)
            have HMJ := Lib.hid hmj
            have HBt : Hid (betterB l lessR (fn a) j m = (decide (Y < X) || (decide (X = Y) && lessR (nd l m).root (nd l j).root))) := by show betterB l lessR (fn a) j m = _; unfold betterB; rw [hX, hY]
            clear hX hY hmj
            by_cases hxy : Y < X
            · have t2 : decide ((Y : Int) < (X : Int)) = true := decide_eq_true (by omega)
              have t2' : decide (Y < X) = true := decide_eq_true hxy
              have HE2 : Hid (bestUp l a b i (j + 1) = some j) := by show bestUp l a b i (j + 1) = some j; rw [HE.out, HBt.out, t2']; rfl
              clear hxy
              go_wp2_with fail
              go_quiet (fail)
              go_wp2_with fail
              go_roundw
              case rel => exact ⟨j + 1, HJT.out, by go_num, by rw [HE2.out, optZ_some], belowD HBB.out _⟩
              case measure => simp [intOf]; have := HJT.out; omega
            · have t2 : decide ((Y : Int) < (X : Int)) = false := decide_eq_false (by omega)
              have t2' : decide (Y < X) = false := decide_eq_false hxy
              obtain ⟨rl, hrl⟩ : ∃ rl, rl = lessR (nd l m).root (nd l j).root := ⟨_, rfl⟩
              have HE2 : Hid (bestUp l a b i (j + 1) = if (decide (X = Y) && rl) = true then some j else some m) := by show bestUp l a b i (j + 1) = _; rw [HE.out, HBt.out, t2', hrl]; rfl
              have HCl := Lib.hid (fun W => HLe.out W (nd l m).root (nd l j).root)
              rw [← hrl] at HCl
              have yr1 := nds_root (keepR GW.out X0.out) (i := m) (by have := HL.out; have := HMJ.out; have := HJT.out; omega)
              have yr2 := nds_root (keepR GW.out X0.out) (i := j) (by have := HL.out; have := HJT.out; omega)
              generalize (nd l m).root = R1 at *
              generalize (nd l j).root = R2 at *
              clear hxy hrl HE HBt
              go_wp2_with fail
              go_quiet (fail)
              go_wp2_with fail
              have HB2 : Hid (Below w1.heap.size w1 (wr.drewN nq)) := belowD HBB.out nq
              have q0 : (wr.drewN nq).cell? ⟨w.heap.size, 0, none⟩ = some (.slice (some ⟨b0, o0, none⟩) n cp) := z0
              have s1 : ldA (wr.drewN nq) (.pointer (some ⟨b0, o0 + m * 35, none⟩)) 32 = some (rc R1) := yr1
              have s2 : ldA (wr.drewN nq) (.pointer (some ⟨b0, o0 + j * 35, none⟩)) 32 = some (rc R2) := yr2
              have d1 : (wr.drewN nq).cell? ⟨b1, o1 + j, none⟩ = some (.int .u64 (X : Int)) := yj
              have d2 : (wr.drewN nq).cell? ⟨b1, o1 + m, none⟩ = some (.int .u64 (Y : Int)) := ym
              clear z0 z1 zl yr1 yr2 yj ym y0 yb t2 t2'
              generalize wr.drewN nq = wy at *
              have L0 := fun q : Wd wy.drew => wd_cell q0 q
              have L1 := fun q : Wd wy.drew => wd_ld s1 (by decide) q
              have L2 := fun q : Wd wy.drew => wd_ld s2 (by decide) q
              refine wp_region_lex [12] (by kernel_rfl) (by kernel_rfl) (by kernel_rfl) ?_
              repeat (first | (refine wpXL_quiet rfl rfl _ cls_begin ?_; (first | go_big_quiet_step (fail) | quiet_step (fail)); refine wpQuiet_nil ?_) | refine wpXL_skip rfl ?_)
              refine wpXL_call rfl rfl rfl enters_ref02LessK #[.agg (rc R1), .agg (rc R2)] rfl ?_
              refine (HCl.out _).mono ?_
              rintro e u ⟨rfl, g⟩
              refine ⟨_, rfl, g, ?_⟩
              simp only [Act.put, List.setIfInBounds_toArray, List.set_cons_zero, List.set_cons_succ]
              have f1 : u.cell? ⟨b1, o1 + j, none⟩ = some (.int .u64 (X : Int)) := wd_cell d1 ⟨u, g⟩
              have f2 : u.cell? ⟨b1, o1 + m, none⟩ = some (.int .u64 (Y : Int)) := wd_cell d2 ⟨u, g⟩
              have G3 := Lib.hid (belowT HB2.out (belowT (belowD (Below.refl _ _) 1) g))
              clear g d1 d2
              repeat (first | (refine wpXL_quiet rfl rfl _ cls_begin ?_; (first | go_big_quiet_step (fail) | quiet_step (fail)); refine wpQuiet_nil ?_) | refine wpXL_skip rfl ?_)
              refine wpXL_nil ?_
              clear L0 L1 L2 q0 s1 s2
              obtain ⟨q, hq⟩ : ∃ q, q = decide (X = Y) := ⟨_, rfl⟩
              rw [← hq] at HE2
              have t3 : ((X : Int) == (Y : Int)) = q := by rw [hq, Bool.eq_iff_iff, beq_iff_eq, decide_eq_true_iff]; omega
              clear hq
              cases q
              · go_wp2_with fail
                go_quiet (fail)
                go_wp2_with fail
                go_roundw
                case rel => exact ⟨j + 1, HJT.out, by go_num, by rw [HE2.out]; rfl, belowD G3.out _⟩
                case measure => simp [intOf]; have := HJT.out; omega
              · cases rl
                · go_wp2_with fail
                  go_quiet (fail)
                  go_wp2_with fail
                  go_roundw
                  case rel => exact ⟨j + 1, HJT.out, by go_num, by rw [HE2.out]; rfl, belowD G3.out _⟩
                  case measure => simp [intOf]; have := HJT.out; omega
                · go_wp2_with fail
                  go_quiet (fail)
                  go_wp2_with fail
                  go_roundw
                  case rel => exact ⟨j + 1, HJT.out, by go_num, by rw [HE2.out]; rfl, belowD G3.out _⟩
                  case measure => simp [intOf]; have := HJT.out; omega
      · have t1 : (P != (i : Int)) = true := by rw [bne_iff_ne]; exact hpi
        have HE : Hid (bestUp l a b i (j + 1) = bestUp l a b i j) := bestUp_not (by rw [HC.out, decide_eq_false hpi]; rfl)
        clear hpi
        go_wp2_with fail
        go_roundw
        case rel => exact ⟨j + 1, HJT.out, by go_num, by rw [HE.out], HBB.out⟩
        case measure => simp [intOf]; have := HJT.out; omega
    · obtain rfl : j = n := by omega
      have t0 : decide (j < j) = false := decide_eq_false (Nat.lt_irrefl _)
      have t0' : decide ((j : Int) < (j : Int)) = false := decide_eq_false (Int.lt_irrefl _)
      have hX : Hid (res = optZ (bestUp l a b i j)) := by show res = _; rw [HR.out, ← bestUp_all, HL.out]
      clear hlt
      go_wp2_with fail
      go_ret
      exact ⟨by rw [hX.out]; first | done | rfl, GW.out⟩
/-- Kid. -/
theorem ref09Kid (s : SlV) (v u : Value) (l : List Nd) (a : List UInt64) (b : List Bool) (i : Int) (w : World) (h : SlE Ene w (sv s) l) (h1 : SlE Enum w v a) (h2 : SlE Eboo w u b) (hn : l.length ≤ 1000) :
    Calls Try.prog 16 #[.agg (tr ⟨s⟩), v, u, .int .i64 i] w fun e w' => e = .returned (.int .i64 (kidZ l a b i)) ∧ Below w.heap.size w w' := by
  have hl := sv_lenN h
  obtain ⟨p, n, cp⟩ := s
  dsimp only at hl
  have k1 := h1
  have k2 := h2
  obtain ⟨q1, c1, e1, _⟩ := slE_shape h1
  obtain ⟨q2, c2, e2, _⟩ := slE_shape h2
  by_cases hk : toldB l a b = true ∧ 0 ≤ i
  · obtain ⟨_, hal, hbl⟩ := told_iff.1 hk.1
    obtain ⟨i', rfl⟩ : ∃ i' : Nat, i = i' := ⟨i.toNat, by omega⟩
    rw [kid_any hk.1]
    rw [hal, hl] at e1
    rw [hbl, hl] at e2
    subst e1 e2
    exact ref09Kid_yes p q1 q2 n cp c1 c2 l a b i' w h k1 k2 hl hk.1
  · have hk' : toldB l a b = false ∨ i < 0 := by
      cases ht : toldB l a b
      · exact .inl rfl
      · exact .inr (Classical.byContradiction fun hi => hk ⟨ht, by omega⟩)
    rw [kidZ_not (by rw [← Bool.not_eq_true, place_iff]; rintro ⟨x, y, _⟩; exact hk ⟨x, y⟩)]
    subst e1 e2
    exact ref09Kid_no p q1 q2 n cp _ c1 _ c2 l a b i w h hl rfl rfl (by omega) hk'
theorem enters_ref09Kid : ∀ args w, (callFunc 16 args).run Try.prog w = .ok (.enter 16 args) w := entersE Try.func16 (by kernel_rfl) (by kernel_rfl)
end Go.Proofs.Ytjmpgphoiehdmaa
