import Derived.Test.YtkalofboioffiaaGreatT17
import Derived.Test.YtkalofboioffiaaGreatT18
namespace Go.Proofs.YtkalofboioffiaaGreat
open Go.RowKit
set_option maxRecDepth 200000
set_option maxHeartbeats 64000000
theorem zie (p q1 q2 : Option Addr) (n cp m1 c1 m2 c2 : Nat) (l : List Nd) (a : List UInt64) (b : List Bool) (w : World) (h : SlE Ene w (.slice p n cp) l) (hl : l.length = n) (ha : a.length = m1) (hb : b.length = m2) (hn : n ≤ 1000) :
  Calls Tryz.prog 116 #[.agg (tr ⟨⟨p, n, cp⟩⟩), .slice q1 m1 c1, .slice q2 m2 c2] w fun e w' => e = .returned (.bool (zdm l a b)) ∧ Below w.heap.size w w' := by
 have HM := Lib.hid (fun W (g : Below w.heap.size w W) => zev ⟨p, n, cp⟩ l W (zad g h) (by omega))
 obtain ⟨r, hr⟩ : ∃ r, r = decide (MayT l) := ⟨_, rfl⟩
 obtain ⟨x, hx⟩ : ∃ x, x = ((m1 : Int) == (n : Int)) := ⟨_, rfl⟩
 obtain ⟨y, hy⟩ : ∃ x, x = ((m2 : Int) == (m1 : Int)) := ⟨_, rfl⟩
 rw [← hr] at HM
 have HT : Hid (zdm l a b = (r && (x && y))) := by
  show zdm l a b = _
  rw [Bool.eq_iff_iff, zdk, hr, hx, hy, Bool.and_eq_true, Bool.and_eq_true, decide_eq_true_iff, beq_iff_eq, beq_iff_eq, ha, hb, hl]
  exact ⟨fun h => ⟨h.1, by omega, by omega⟩, fun h => ⟨h.1, by omega, by omega⟩⟩
 rw [HT.out]
 have tx : ((m1 : Int) == (n : Int)) = x := hx.symm
 have ty : ((m2 : Int) == (m1 : Int)) = y := hy.symm
 obtain ⟨W0, hW0⟩ : ∃ W0, W0 = w.alloc (.cells (tr ⟨⟨p, n, cp⟩⟩) 24) := ⟨_, rfl⟩
 have HB : Hid (Below w.heap.size w W0) := by rw [hW0]; exact below1
 have M0 : Hid (W0.heap[w.heap.size]? = some (.cells (tr ⟨⟨p, n, cp⟩⟩) 24 (0, 0))) := by rw [hW0]; exact heap_alloc_last w _
 have HW := Lib.hid hW0
 clear hW0 h hl ha hb hn hr hx hy HT
 go_enter Tryz.func116, Tryz.ntmps116
 go_wp2_with fail
 rw [← HW.out]
 refine (HM.out W0 HB.out).mono ?_
 rintro e w1 ⟨rfl, g1⟩
 have G1 := Lib.hid (zab HB.out g1)
 obtain ⟨z0, z1, zl⟩ := zai (zac g1 M0.out)
 dsimp only at z0
 rw [za0] at z0
 clear g1
 cases r
 ·
  go_wp2_with fail
  go_ret
  exact ⟨rfl, G1.out⟩
 ·
  cases x
  ·
   go_wp2_with fail
   go_ret
   exact ⟨rfl, G1.out⟩
  ·
   cases y
   ·
    go_wp2_with fail
    go_ret
    exact ⟨rfl, G1.out⟩
   ·
    go_wp2_with fail
    go_ret
    exact ⟨rfl, G1.out⟩
theorem zkc : ∀ args w, (callFunc 114 args).run Tryz.prog w = .ok (.enter 114 args) w := za7 Tryz.func114 (by kernel_rfl) (by kernel_rfl)
theorem zw9 (p q1 q2 : Option Addr) (n cp m1 c1 m2 c2 : Nat) (l : List Nd) (a : List UInt64) (b : List Bool) (i : Int) (w : World) (h : SlE Ene w (.slice p n cp) l) (hl : l.length = n) (ha : a.length = m1) (hb : b.length = m2) (hn : n ≤ 1000) (hk : zdm l a b = false ∨ i < 0) :
  Calls Tryz.prog 117 #[.agg (tr ⟨⟨p, n, cp⟩⟩), .slice q1 m1 c1, .slice q2 m2 c2, .int .i64 i] w fun e w' => e = .returned (.int .i64 (-1)) ∧ Below w.heap.size w w' := by
 have HT := Lib.hid (fun W (g : Below w.heap.size w W) => zie p q1 q2 n cp m1 c1 m2 c2 l a b W (zad g h) hl ha hb hn)
 obtain ⟨r, hr⟩ : ∃ r, r = zdm l a b := ⟨_, rfl⟩
 rw [← hr] at HT hk
 have HK := Lib.hid hk
 obtain ⟨W0, hW0⟩ : ∃ W0, W0 = w.alloc (.cells (tr ⟨⟨p, n, cp⟩⟩) 24) := ⟨_, rfl⟩
 have HB : Hid (Below w.heap.size w W0) := by rw [hW0]; exact below1
 have M0 : Hid (W0.heap[w.heap.size]? = some (.cells (tr ⟨⟨p, n, cp⟩⟩) 24 (0, 0))) := by rw [hW0]; exact heap_alloc_last w _
 have HW := Lib.hid hW0
 clear hW0 h hl ha hb hn hr hk
 go_enter Tryz.func117, Tryz.ntmps117
 go_wp2_with fail
 rw [← HW.out]
 refine (HT.out W0 HB.out).mono ?_
 rintro e w1 ⟨rfl, g1⟩
 have G1 := Lib.hid (zab HB.out g1)
 have M1 := Lib.hid (zac g1 M0.out)
 clear g1
 go_wp2_with fail
 go_loopw [9, 11] (fun v i wr => v = .int .i64 (-1) ∧ i = .int .i64 0 ∧ wr = w1) (fun _ _ _ => 1)
 case atStart => exact ⟨rfl, rfl, rfl⟩
 case round =>
  obtain ⟨rfl, rfl, rfl⟩ := hrel
  obtain ⟨z0, z1, zl⟩ := zai M1.out
  dsimp only at z0
  rw [za0] at z0
  obtain ⟨x, hx⟩ : ∃ r, r = decide (0 < n) := ⟨_, rfl⟩
  cases x
  ·
   have t0 : decide (0 < n) = false := hx.symm
   have t0' : decide ((0 : Int) < (n : Int)) = false := by rw [decide_eq_false_iff_not]; have := of_decide_eq_false hx.symm; omega
   clear hx
   go_wp2_with fail
   go_ret
   exact ⟨rfl, G1.out⟩
  ·
   have t0 : decide (0 < n) = true := hx.symm
   have t0' : decide ((0 : Int) < (n : Int)) = true := by rw [decide_eq_true_iff]; have := of_decide_eq_true hx.symm; omega
   clear hx
   cases r
   ·
    go_wp2_with fail
    go_ret
    exact ⟨rfl, G1.out⟩
   ·
    have hi : i < 0 := HK.out.resolve_left (by simp)
    have t1 : decide (0 ≤ i) = false := decide_eq_false (by omega)
    clear hi
    go_wp2_with fail
    go_ret
    exact ⟨rfl, G1.out⟩
theorem zui (p q1 q2 : Option Addr) (n cp c1 c2 : Nat) (l : List Nd) (a : List UInt64) (b : List Bool) (i : Nat) (w : World) (h : SlE Ene w (.slice p n cp) l) (h1 : SlE Enum w (.slice q1 n c1) a) (h2 : SlE Eboo w (.slice q2 n c2) b) (hl : l.length = n) (ht : zdm l a b = true) :
  Calls Tryz.prog 117 #[.agg (tr ⟨⟨p, n, cp⟩⟩), .slice q1 n c1, .slice q2 n c2, .int .i64 (i : Int)] w fun e w' => e = .returned (.int .i64 (optZ (zeq l a b i))) ∧ Below w.heap.size w w' := by
 obtain ⟨hm, hal, hbl⟩ := zdk.1 ht
 have HT : Hid (∀ W, Below w.heap.size w W → Calls Tryz.prog 116 #[.agg (tr ⟨⟨p, n, cp⟩⟩), .slice q1 n c1, .slice q2 n c2] W fun e w' => e = .returned (.bool true) ∧ Below W.heap.size W w') := fun W g => by
  have := zie p q1 q2 n cp n c1 n c2 l a b W (zad g h) hl (hal.trans hl) (hbl.trans hl) (by have := hm.le; omega)
  rwa [ht] at this
 obtain ⟨res, hres⟩ : ∃ res, res = optZ (zeq l a b i) := ⟨_, rfl⟩
 rw [← hres]
 have HR := Lib.hid hres
 obtain ⟨W0, hW0⟩ : ∃ W0, W0 = w.alloc (.cells (tr ⟨⟨p, n, cp⟩⟩) 24) := ⟨_, rfl⟩
 have HB : Hid (Below w.heap.size w W0) := by rw [hW0]; exact below1
 have M0 : Hid (W0.heap[w.heap.size]? = some (.cells (tr ⟨⟨p, n, cp⟩⟩) 24 (0, 0))) := by rw [hW0]; exact heap_alloc_last w _
 have HW := Lib.hid hW0
 have HL := Lib.hid hl
 have HA := Lib.hid (hal.trans hl)
 have HBb := Lib.hid (hbl.trans hl)
 have HN : Hid (n ≤ 12) := by show n ≤ 12; have := hm.le; omega
 have HLe := Lib.hid (fun W (x y : Rt) => zug x y W)
 obtain ⟨b0, o0, rfl, r0, x0⟩ := zcj h hm.pos
 obtain ⟨b1, o1, rfl, r1, x1⟩ := zcm h1 (by have := hm.pos; omega)
 obtain ⟨b2, o2, e2, r2, x2⟩ : ∃ bb o, q2 = some ⟨bb, o, none⟩ ∧ bb < w.heap.size ∧ w.rangeAt bb o (zaq Eboo b) := by
  obtain ⟨bb, o, c, e, _, q, x⟩ := zcz h2 (by have := hm.pos; omega)
  injection e with e1 _ _
  exact ⟨bb, o, e1, q, x⟩
 subst e2
 have X0 := Lib.hid x0
 have X1 := Lib.hid x1
 have X2 := Lib.hid x2
 clear hW0 h h1 h2 hl ht hm hal hbl hres x0 x1 x2 r0 r1 r2
 go_enter Tryz.func117, Tryz.ntmps117
 go_wp2_with fail
 rw [← HW.out]
 refine (HT.out W0 HB.out).mono ?_
 rintro e w1 ⟨rfl, g1⟩
 have G1 := Lib.hid (zab HB.out g1)
 have M1 := Lib.hid (zac g1 M0.out)
 clear g1
 have i0 : decide ((0 : Int) ≤ (i : Int)) = true := decide_eq_true (by omega)
 go_wp2_with fail
 go_loopw [9, 11] (fun v k wr => ∃ j : Nat, j ≤ n ∧ k = .int .i64 (j : Int) ∧ v = .int .i64 (optZ (zb5 l a b i j)) ∧ Below w1.heap.size w1 wr) (fun _ k _ => n - (intOf k).toNat)
 case atStart => exact ⟨0, Nat.zero_le _, rfl, rfl, Below.refl _ _⟩
 case round =>
  obtain ⟨j, hj, rfl, rfl, hb⟩ := hrel
  have HBB := Lib.hid hb
  have GW := Lib.hid (zab G1.out hb)
  obtain ⟨z0, z1, zl⟩ := zai (zac hb M1.out)
  dsimp only at z0
  rw [za0] at z0
  clear hb
  by_cases hlt : j < n
  ·
   have t0 : decide (j < n) = true := decide_eq_true hlt
   have t0' : decide ((j : Int) < (n : Int)) = true := by rw [decide_eq_true_iff]; omega
   have j0 : (0 : Int) ≤ (j : Int) := by omega
   have j1 : (j : Int) < (n : Int) := by omega
   have u1 : (j : Int) + 1 < 10000 := by have := HN.out; omega
   have y0 := zga (zbu GW.out X0.out) (i := j) (by have := HL.out; omega)
   have yb := zmh (zbu GW.out X2.out) (i := j) (by have := HBb.out; omega)
   obtain ⟨P, hP⟩ : ∃ P, P = (nd l j).parent := ⟨_, rfl⟩
   obtain ⟨L, hL⟩ : ∃ L, L = bn b j := ⟨_, rfl⟩
   rw [← hP] at y0
   rw [← hL] at yb
   have HC : Hid (zdb l (bn b) i j = (decide (P = (i : Int)) && L)) := by show zdb l (bn b) i j = _; unfold zdb; rw [hP, hL]
   have HJT := Lib.hid hlt
   clear hlt hP hL
   by_cases hpi : P = (i : Int)
   ·
    have t1 : (P != (i : Int)) = false := by rw [bne_eq_false_iff_eq]; exact hpi
    cases L
    ·
     have HE : Hid (zb5 l a b i (j + 1) = zb5 l a b i j) := zhg (by rw [HC.out, Bool.and_false])
     clear hpi
     go_wp2_with fail
     go_roundw
     case rel => exact ⟨j + 1, HJT.out, by go_num, by rw [HE.out], HBB.out⟩
     case measure => simp [intOf]; have := HJT.out; omega
    ·
     have HCT : Hid (zdb l (bn b) i j = true) := by show zdb l (bn b) i j = true; rw [HC.out, decide_eq_true hpi]; rfl
     clear hpi
     cases hq : zb5 l a b i j with
     | none =>
      have HE : Hid (zb5 l a b i (j + 1) = some j) := zkt HCT.out hq
      clear hq
      rw [zg3]
      go_wp2_with fail
      go_quiet (fail)
      go_wp2_with fail
      go_roundw
      case rel => exact ⟨j + 1, HJT.out, by go_num, by rw [HE.out, zet], zah HBB.out _⟩
      case measure => simp [intOf]; have := HJT.out; omega
     | some m =>
      have hmj := z31 hq
      have HE : Hid (zb5 l a b i (j + 1) = if zbs l zbh (fn a) j m = true then some j else some m) := zme HCT.out hq
      clear hq
      rw [zet]
      have yj := zbt (zbu GW.out X1.out) (i := j) (by have := HA.out; have := HJT.out; omega)
      have ym := zbt (zbu GW.out X1.out) (i := m) (by have := HA.out; have := HJT.out; omega)
      obtain ⟨X, hX⟩ : ∃ X, X = fn a j := ⟨_, rfl⟩
      obtain ⟨Y, hY⟩ : ∃ Y, Y = fn a m := ⟨_, rfl⟩
      rw [← hX] at yj
      rw [← hY] at ym
      have m0 : (0 : Int) ≤ (m : Int) := by omega
      have m1 : (m : Int) < (n : Int) := by have := HJT.out; omega
      have m2 : decide ((m : Int) < 0) = false := decide_eq_false (by omega)
      have HMJ := Lib.hid hmj
      have HBt : Hid (zbs l zbh (fn a) j m = (decide (Y < X) || (decide (X = Y) && zbh (nd l m).root (nd l j).root))) := by show zbs l zbh (fn a) j m = _; unfold zbs; rw [hX, hY]
      clear hX hY hmj
      by_cases hxy : Y < X
      ·
       have t2 : decide ((Y : Int) < (X : Int)) = true := decide_eq_true (by omega)
       have t2' : decide (Y < X) = true := decide_eq_true hxy
       have HE2 : Hid (zb5 l a b i (j + 1) = some j) := by show zb5 l a b i (j + 1) = some j; rw [HE.out, HBt.out, t2']; rfl
       clear hxy
       go_wp2_with fail
       go_quiet (fail)
       go_wp2_with fail
       go_roundw
       case rel => exact ⟨j + 1, HJT.out, by go_num, by rw [HE2.out, zet], zah HBB.out _⟩
       case measure => simp [intOf]; have := HJT.out; omega
      ·
       have t2 : decide ((Y : Int) < (X : Int)) = false := decide_eq_false (by omega)
       have t2' : decide (Y < X) = false := decide_eq_false hxy
       obtain ⟨rl, hrl⟩ : ∃ rl, rl = zbh (nd l m).root (nd l j).root := ⟨_, rfl⟩
       have HE2 : Hid (zb5 l a b i (j + 1) = if (decide (X = Y) && rl) = true then some j else some m) := by show zb5 l a b i (j + 1) = _; rw [HE.out, HBt.out, t2', hrl]; rfl
       have HCl := Lib.hid (fun W => HLe.out W (nd l m).root (nd l j).root)
       rw [← hrl] at HCl
       have yr1 := zdf (zbu GW.out X0.out) (i := m) (by have := HL.out; have := HMJ.out; have := HJT.out; omega)
       have yr2 := zdf (zbu GW.out X0.out) (i := j) (by have := HL.out; have := HJT.out; omega)
       generalize (nd l m).root = R1 at *
       generalize (nd l j).root = R2 at *
       clear hxy hrl HE HBt
       go_wp2_with fail
       go_quiet (fail)
       go_wp2_with fail
       have HB2 : Hid (Below w1.heap.size w1 (wr.drewN nq)) := zah HBB.out nq
       have q0 : (wr.drewN nq).cell? ⟨w.heap.size, 0, none⟩ = some (.slice (some ⟨b0, o0, none⟩) n cp) := z0
       have s1 : ldA (wr.drewN nq) (.pointer (some ⟨b0, o0 + m * 35, none⟩)) 32 = some (rc R1) := yr1
       have s2 : ldA (wr.drewN nq) (.pointer (some ⟨b0, o0 + j * 35, none⟩)) 32 = some (rc R2) := yr2
       have d1 : (wr.drewN nq).cell? ⟨b1, o1 + j, none⟩ = some (.int .u64 (X : Int)) := yj
       have d2 : (wr.drewN nq).cell? ⟨b1, o1 + m, none⟩ = some (.int .u64 (Y : Int)) := ym
       clear z0 z1 zl yr1 yr2 yj ym y0 yb t2 t2'
       generalize wr.drewN nq = wy at *
       have L0 := fun q : Wd wy.drew => zbc q0 q
       have L1 := fun q : Wd wy.drew => zbb s1 (by decide) q
       have L2 := fun q : Wd wy.drew => zbb s2 (by decide) q
       refine zaj [12] (by kernel_rfl) (by kernel_rfl) (by kernel_rfl) ?_
       repeat (first | (refine zae rfl rfl _ zaf ?_; (first | go_big_quiet_step (fail) | quiet_step (fail)); refine wpQuiet_nil ?_) | refine zag rfl ?_)
       refine zan rfl rfl rfl zkc #[.agg (rc R1), .agg (rc R2)] rfl ?_
       refine (HCl.out _).mono ?_
       rintro e u ⟨rfl, g⟩
       refine ⟨_, rfl, g, ?_⟩
       simp only [Act.put, List.setIfInBounds_toArray, List.set_cons_zero, List.set_cons_succ]
       have f1 : u.cell? ⟨b1, o1 + j, none⟩ = some (.int .u64 (X : Int)) := zbc d1 ⟨u, g⟩
       have f2 : u.cell? ⟨b1, o1 + m, none⟩ = some (.int .u64 (Y : Int)) := zbc d2 ⟨u, g⟩
       have G3 := Lib.hid (zab HB2.out (zab (zah (Below.refl _ _) 1) g))
       clear g d1 d2
       repeat (first | (refine zae rfl rfl _ zaf ?_; (first | go_big_quiet_step (fail) | quiet_step (fail)); refine wpQuiet_nil ?_) | refine zag rfl ?_)
       refine za3 ?_
       clear L0 L1 L2 q0 s1 s2
       obtain ⟨q, hq⟩ : ∃ q, q = decide (X = Y) := ⟨_, rfl⟩
       rw [← hq] at HE2
       have t3 : ((X : Int) == (Y : Int)) = q := by rw [hq, Bool.eq_iff_iff, beq_iff_eq, decide_eq_true_iff]; omega
       clear hq
       cases q
       ·
        go_wp2_with fail
        go_quiet (fail)
        go_wp2_with fail
        go_roundw
        case rel => exact ⟨j + 1, HJT.out, by go_num, by rw [HE2.out]; rfl, zah G3.out _⟩
        case measure => simp [intOf]; have := HJT.out; omega
       ·
        cases rl
        ·
         go_wp2_with fail
         go_quiet (fail)
         go_wp2_with fail
         go_roundw
         case rel => exact ⟨j + 1, HJT.out, by go_num, by rw [HE2.out]; rfl, zah G3.out _⟩
         case measure => simp [intOf]; have := HJT.out; omega
        ·
         go_wp2_with fail
         go_quiet (fail)
         go_wp2_with fail
         go_roundw
         case rel => exact ⟨j + 1, HJT.out, by go_num, by rw [HE2.out]; rfl, zah G3.out _⟩
         case measure => simp [intOf]; have := HJT.out; omega
   ·
    have t1 : (P != (i : Int)) = true := by rw [bne_iff_ne]; exact hpi
    have HE : Hid (zb5 l a b i (j + 1) = zb5 l a b i j) := zhg (by rw [HC.out, decide_eq_false hpi]; rfl)
    clear hpi
    go_wp2_with fail
    go_roundw
    case rel => exact ⟨j + 1, HJT.out, by go_num, by rw [HE.out], HBB.out⟩
    case measure => simp [intOf]; have := HJT.out; omega
  ·
   obtain rfl : j = n := by omega
   have t0 : decide (j < j) = false := decide_eq_false (Nat.lt_irrefl _)
   have t0' : decide ((j : Int) < (j : Int)) = false := decide_eq_false (Int.lt_irrefl _)
   have hX : Hid (res = optZ (zb5 l a b i j)) := by show res = _; rw [HR.out, ← zo9, HL.out]
   clear hlt
   go_wp2_with fail
   go_ret
   exact ⟨by rw [hX.out]; first | done | rfl, GW.out⟩
theorem yb6 (s : SlV) (v u : Value) (l : List Nd) (a : List UInt64) (b : List Bool) (i : Int) (w : World) (h : SlE Ene w (sv s) l) (h1 : SlE Enum w v a) (h2 : SlE Eboo w u b) (hn : l.length ≤ 1000) :
  Calls Tryz.prog 117 #[.agg (tr ⟨s⟩), v, u, .int .i64 i] w fun e w' => e = .returned (.int .i64 (kidZ l a b i)) ∧ Below w.heap.size w w' := by
 have hl := zbk h
 obtain ⟨p, n, cp⟩ := s
 dsimp only at hl
 have k1 := h1
 have k2 := h2
 obtain ⟨q1, c1, e1, _⟩ := zal h1
 obtain ⟨q2, c2, e2, _⟩ := zal h2
 by_cases hk : zdm l a b = true ∧ 0 ≤ i
 ·
  obtain ⟨_, hal, hbl⟩ := zdk.1 hk.1
  obtain ⟨i', rfl⟩ : ∃ i' : Nat, i = i' := ⟨i.toNat, by omega⟩
  rw [yfx hk.1]
  rw [hal, hl] at e1
  rw [hbl, hl] at e2
  subst e1 e2
  exact zui p q1 q2 n cp c1 c2 l a b i' w h k1 k2 hl hk.1
 ·
  have hk' : zdm l a b = false ∨ i < 0 := by
   cases ht : zdm l a b
   ·
    exact .inl rfl
   ·
    exact .inr (Classical.byContradiction fun hi => hk ⟨ht, by omega⟩)
  rw [zyv (by rw [← Bool.not_eq_true, zeu]; rintro ⟨x, y, _⟩; exact hk ⟨x, y⟩)]
  subst e1 e2
  exact zw9 p q1 q2 n cp _ c1 _ c2 l a b i w h hl rfl rfl (by omega) hk'
def wayM (n : Nat) (x : Int) : Nat := if x < 0 then 0 else n + 1 - x.toNat
theorem z8m {n k : Nat} {c : Int} (h : c < 0 ∨ (k : Int) < c) (hk : k < n) : wayM n c < wayM n (k : Int) := by
 unfold wayM
 rw [if_neg (show ¬ (k : Int) < 0 by omega)]
 by_cases hc : c < 0
 ·
  rw [if_pos hc]; omega
 ·
  rw [if_neg hc]; omega
def yh2 (l : List Nd) (a : List UInt64) (b : List Bool) (i : Nat) (pre : List Int) (c : Int) : Prop :=
 (c = -1 ∧ pre = (wayN l a b i).map (fun k : Nat => (k : Int))) ∨ ∃ k : Nat, c = k ∧ k < l.length ∧ (wayN l a b i).map (fun k : Nat => (k : Int)) = pre ++ (wayN l a b k).map (fun k : Nat => (k : Int))
theorem z3e {l : List Nd} {a : List UInt64} {b : List Bool} (hm : MayT l) {i k : Nat} {pre : List Int} (e : (wayN l a b i).map (fun k : Nat => (k : Int)) = pre ++ (wayN l a b k).map (fun k : Nat => (k : Int))) : yh2 l a b i (pre ++ [(k : Int)]) (optZ (zeq l a b k)) := by
 cases hb : zeq l a b k with
 | none =>
  refine .inl ⟨rfl, ?_⟩
  have h1 : wayN l a b k = [k] := zl4 hb
  rw [e, h1]; rfl
 | some c =>
  refine .inr ⟨c, rfl, z32 hb, ?_⟩
  have h1 : wayN l a b k = k :: wayN l a b c := zl5 ltS hm hb
  rw [e, h1, List.map_cons, List.append_assoc]; rfl
theorem zxa (p q1 q2 : Option Addr) (n cp m1 c1 m2 c2 : Nat) (l : List Nd) (a : List UInt64) (b : List Bool) (i : Int) (w : World) (h : SlE Ene w (.slice p n cp) l) (h1 : SlE Enum w (.slice q1 m1 c1) a) (h2 : SlE Eboo w (.slice q2 m2 c2) b) (hl : l.length = n) (ha : a.length = m1) (hb : b.length = m2) (hn : n ≤ 1000) :
  Calls Tryz.prog 76 #[.agg (tr ⟨⟨p, n, cp⟩⟩), .slice q1 m1 c1, .slice q2 m2 c2, .int .i64 i] w (IntsIs (wayZ l a b i) w) := by
 have HT := Lib.hid (fun W (g : Below w.heap.size w W) => zie p q1 q2 n cp m1 c1 m2 c2 l a b W (zad g h) hl ha hb hn)
 have HK := Lib.hid (fun W (g : Below w.heap.size w W) (i : Int) => yb6 ⟨p, n, cp⟩ _ _ l a b i W (zad g h) (zad g h1) (zad g h2) (by omega))
 obtain ⟨r, hr⟩ : ∃ r, r = zdm l a b := ⟨_, rfl⟩
 rw [← hr] at HT
 have HR := Lib.hid hr
 obtain ⟨W0, hW0⟩ : ∃ W0, W0 = w.alloc (.cells (tr ⟨⟨p, n, cp⟩⟩) 24) := ⟨_, rfl⟩
 have HB : Hid (Below w.heap.size w W0) := by rw [hW0]; exact below1
 have M0 : Hid (W0.heap[w.heap.size]? = some (.cells (tr ⟨⟨p, n, cp⟩⟩) 24 (0, 0))) := by rw [hW0]; exact heap_alloc_last w _
 have HW := Lib.hid hW0
 have HL := Lib.hid hl
 clear hW0 h h1 h2 hl ha hb hn hr
 go_enter Tryz.func76, Tryz.ntmps76
 go_wp2_with fail
 rw [← HW.out]
 refine (HT.out W0 HB.out).mono ?_
 rintro e w1 ⟨rfl, g1⟩
 have G1 := Lib.hid (zab HB.out g1)
 have M1 := Lib.hid (zac g1 M0.out)
 obtain ⟨z0, z1, zl⟩ := zai M1.out
 dsimp only at z0
 rw [za0] at z0
 clear g1
 by_cases hi : (n : Int) ≤ i
 ·
  have t0 : decide ((n : Int) ≤ i) = true := decide_eq_true hi
  have hX : Hid (wayZ l a b i = []) := zsp (by rw [← Bool.not_eq_true, zeu]; rintro ⟨_, _, y⟩; have := HL.out; omega)
  clear hi
  go_wp2_with fail
  go_ret
  exact ⟨_, rfl, by rw [hX.out]; exact za8 _ _ _, G1.out⟩
 have t0 : decide ((n : Int) ≤ i) = false := decide_eq_false hi
 by_cases hk : r = true ∧ 0 ≤ i
 case neg =>
  have hX : Hid (wayZ l a b i = []) := zsp (by rw [← Bool.not_eq_true, zeu, ← HR.out]; rintro ⟨x, y, _⟩; exact hk ⟨x, y⟩)
  have HKn : Hid (r = true → decide (0 ≤ i) = false) := fun e => decide_eq_false (fun h => hk ⟨e, h⟩)
  clear hi hk
  go_wp2_with fail
  go_loopw [3, 9] (fun c v wr => c = .int .i64 i ∧ v = .slice none 0 0 ∧ wr = w1) (fun _ _ _ => 1)
  case atStart => exact ⟨rfl, rfl, rfl⟩
  case round =>
   obtain ⟨rfl, rfl, rfl⟩ := hrel
   cases r
   ·
    go_wp2_with fail
    go_ret
    exact ⟨_, rfl, by rw [hX.out]; exact za8 _ _ _, G1.out⟩
   ·
    have t1 := HKn.out (by simp)
    go_wp2_with fail
    go_ret
    exact ⟨_, rfl, by rw [hX.out]; exact za8 _ _ _, G1.out⟩
 obtain ⟨rfl, hi0⟩ := hk
 obtain ⟨i, rfl⟩ : ∃ i' : Nat, i = i' := ⟨i.toNat, by omega⟩
 have ht : zdm l a b = true := HR.out.symm
 have hm := (zdk.1 ht).1
 have HM := Lib.hid hm
 have HTd := Lib.hid ht
 have HI : Hid (i < n) := by show i < n; omega
 have t0n : decide (n ≤ i) = false := decide_eq_false (by omega)
 have HN : Hid (n ≤ 12) := by show n ≤ 12; have := hm.le; have := HL.out; omega
 have hX : Hid (wayZ l a b (i : Int) = (wayN l a b i).map (fun k : Nat => (k : Int))) := zz5 ht (by have := HL.out; omega)
 have HWl : Hid ((wayN l a b i).length ≤ l.length) := (zwd hm (i := i) (by have := HL.out; omega)).2.2.2.2.1
 clear hi hi0 ht hm
 go_wp2_with fail
 go_loopw [3, 9] (fun c v wr => ∃ (x : Int) (pre : List Int), c = .int .i64 x ∧ yh2 l a b i pre x ∧ OwnE Eint wr w1.heap.size v pre ∧ Below w1.heap.size w1 wr) (fun c _ _ => wayM n (intOf c))
 case atStart => exact ⟨(i : Int), [], rfl, .inr ⟨i, rfl, by have := HI.out; have := HL.out; omega, rfl⟩, za8 _ _ _, Below.refl _ _⟩
 case round =>
  obtain ⟨x, pre, rfl, hat, hown, hb⟩ := hrel
  have HAT := Lib.hid hat
  have HO := Lib.hid hown
  have HBB := Lib.hid hb
  clear hat hown hb
  rcases HAT.out with ⟨rfl, hpre⟩ | ⟨k, rfl, hkl, hpre⟩
  ·
   have HP := Lib.hid hpre
   clear hpre z0 z1 zl HAT
   go_wp2_with fail
   go_ret
   exact ⟨_, rfl, by rw [hX.out, ← HP.out]; exact zbi HO.out G1.out.size, zab G1.out HBB.out⟩
  ·
   have k0 : decide ((0 : Int) ≤ (k : Int)) = true := decide_eq_true (by omega)
   have HST := Lib.hid (z3e HM.out hpre)
   have HPl : Hid (pre.length ≤ 12) := by
    show pre.length ≤ 12
    have e1 := congrArg List.length hpre
    rw [List.length_map, List.length_append] at e1
    have := HWl.out; have := HL.out; have := HN.out
    omega
   have HLT : Hid (∀ c, optZ (zeq l a b k) = (c : Int) → (c : Int) < 0 ∨ (k : Int) < c) := fun c hc => by
    cases hq : zeq l a b k with
    | none => rw [hq, zg3] at hc; exact .inl (by omega)
    | some m =>
     rw [hq, zet] at hc
     have := (zj4 ltS HM.out hq).1
     exact .inr (by omega)
   have HKn : Hid (k < n) := by show k < n; have := HL.out; omega
   have HC := Lib.hid (fun W g => HK.out W g (k : Int))
   rw [zyu HTd.out hkl] at HC
   obtain ⟨c, hc⟩ : ∃ c, c = optZ (zeq l a b k) := ⟨_, rfl⟩
   rw [← hc] at HC HST HLT
   clear hc hkl hpre HAT z0 z1 zl
   obtain ⟨pv, cv, rfl⟩ := zb4 HO.out
   go_wp2_with (at_builtin; refine za1 Kint _ rfl (.tmp 25) (.tmp 27) rfl w1.heap.size _ pre rfl (zaw HO.out _) _ [(k : Int)] rfl (zdu _ [(k : Int)] 1 _ _ _ rfl (by simp) rfl) (by have := HPl.out; simp; omega) (by have := HBB.out.size; simp; omega) ?_; intro v2 w2 ho2 hg2; have G2 := Lib.hid (hg2.own (zaw HO.out _) (by have := HBB.out.size; simp; omega)); have zz := (zai (zac (HBB.out.trans ((below1.mono HBB.out.size).trans G2.out)) M1.out)).2.1)
   refine (HC.out w2 (zab G1.out (HBB.out.trans ((below1.mono HBB.out.size).trans G2.out)))).mono ?_
   rintro e w3 ⟨rfl, g3⟩
   have HB3 := Lib.hid (zab (HBB.out.trans ((below1.mono HBB.out.size).trans G2.out)) g3)
   have HO3 := Lib.hid (za5 g3 ho2)
   clear g3 zz ho2 hg2
   go_wp2_with fail
   go_roundw
   case rel => exact ⟨c, pre ++ [(k : Int)], rfl, HST.out, HO3.out, HB3.out⟩
   case measure =>
    have h1 := HLT.out c rfl
    have h2 := HKn.out
    exact z8m h1 h2
theorem z7k (s : SlV) (v u : Value) (l : List Nd) (a : List UInt64) (b : List Bool) (i : Int) (w : World) (h : SlE Ene w (sv s) l) (h1 : SlE Enum w v a) (h2 : SlE Eboo w u b) (hn : l.length ≤ 1000) :
  Calls Tryz.prog 76 #[.agg (tr ⟨s⟩), v, u, .int .i64 i] w (IntsIs (wayZ l a b i) w) := by
 have hl := zbk h
 obtain ⟨p, n, cp⟩ := s
 dsimp only at hl
 have k1 := h1
 have k2 := h2
 obtain ⟨q1, c1, rfl, _⟩ := zal h1
 obtain ⟨q2, c2, rfl, _⟩ := zal h2
 exact zxa p q1 q2 n cp _ c1 _ c2 l a b i w h k1 k2 hl rfl rfl (by omega)
theorem z3f (l : List Nd) (a : List UInt64) (b : List Bool) (i : Int) : (wayZ l a b i = [] ∧ zib l a b i = -1) ∨ (0 < (wayZ l a b i).length ∧ (wayZ l a b i).length ≤ 12 ∧ (wayZ l a b i).getD ((wayZ l a b i).length - 1) 0 = zib l a b i) := by
 cases hp : zd0 l a b i
 ·
  exact .inl ⟨zsp hp, z5i hp⟩
 ·
  obtain ⟨ht, h0, h1⟩ := zeu.1 hp
  obtain ⟨i, rfl⟩ : ∃ i' : Nat, i = i' := ⟨i.toNat, by omega⟩
  have hm := (zdk.1 ht).1
  have hi : i < l.length := by omega
  obtain ⟨_, _, _, c1, c2, _, c3, _⟩ := zwd (w := a) (b := b) hm hi
  rw [zz5 ht hi, ztf ht hi]
  have := hm.le
  refine .inr ⟨by rw [List.length_map]; exact c1, by rw [List.length_map]; omega, ?_⟩
  rw [List.length_map, List.getD_eq_getElem?_getD, List.getElem?_map]
  rw [List.getD_eq_getElem?_getD] at c3
  have h2 : (wayN l a b i).length - 1 < (wayN l a b i).length := by omega
  rw [List.getElem?_eq_getElem h2] at c3 ⊢
  simp only [Option.getD_some] at c3
  simp only [Option.map_some, Option.getD_some]
  rw [c3]
theorem z7j (s : SlV) (v u : Value) (l : List Nd) (a : List UInt64) (b : List Bool) (i : Int) (w : World) (h : SlE Ene w (sv s) l) (h1 : SlE Enum w v a) (h2 : SlE Eboo w u b) (hn : l.length ≤ 1000) :
  Calls Tryz.prog 36 #[.agg (tr ⟨s⟩), v, u, .int .i64 i] w fun e w' => e = .returned (.int .i64 (zib l a b i)) ∧ Below w.heap.size w w' := by
 have HC := Lib.hid (fun W (g : Below w.heap.size w W) => z7k s v u l a b i W (zad g h) (zad g h1) (zad g h2) hn)
 have HWC := Lib.hid (z3f l a b i)
 obtain ⟨W0, hW0⟩ : ∃ W0, W0 = w.alloc (.cells (tr ⟨s⟩) 24) := ⟨_, rfl⟩
 have HB : Hid (Below w.heap.size w W0) := by rw [hW0]; exact below1
 have HW := Lib.hid hW0
 generalize wayZ l a b i = K at *
 generalize zib l a b i = H at *
 clear hW0 h h1 h2 hn
 go_enter Tryz.func36, Tryz.ntmps36
 go_wp2_with fail
 rw [← HW.out]
 refine (HC.out W0 HB.out).mono ?_
 rintro e w1 ⟨x, rfl, ho, g1⟩
 have G1 := Lib.hid (zab HB.out g1)
 obtain ⟨pv, cv, rfl⟩ := zb4 ho
 have HO := Lib.hid (za2 ho)
 clear ho g1
 rcases HWC.out with ⟨rfl, rfl⟩ | ⟨k0, k1, k2⟩
 ·
  clear HWC
  go_wp2_with fail
  go_ret
  exact ⟨rfl, G1.out⟩
 ·
  obtain ⟨n, hn⟩ : ∃ n, K.length = n + 1 := ⟨K.length - 1, by omega⟩
  rw [hn] at HO k1 k2 ⊢
  obtain ⟨b1, o1, rfl, _, x1⟩ := zq8 HO.out (by omega)
  have y1 := zwa x1 (i := n) (by omega)
  rw [show n + 1 - 1 = n by omega] at k2
  rw [k2] at y1
  have t0 : (((n + 1 : Nat) : Int) == 0) = false := by rw [beq_eq_false_iff_ne]; omega
  have t1 : ((n + 1 : Nat) : Int) - 1 = (n : Int) := by omega
  have i0 : (0 : Int) ≤ (n : Int) := by omega
  have i1 : (n : Int) < ((n + 1 : Nat) : Int) := by omega
  have u1 : (n : Int) + 1 < 10000 := by omega
  clear k0 k1 k2 hn x1 HWC
  go_wp2_with fail
  go_ret
  exact ⟨rfl, G1.out⟩
theorem zla : ∀ args w, (callFunc 36 args).run Tryz.prog w = .ok (.enter 36 args) w := za7 Tryz.func36 (by kernel_rfl) (by kernel_rfl)
theorem zw6 {c r : Array Value} (h : r.size = c.size) : zba c 0 r = r := by
 apply Array.toList_inj.1
 unfold zba
 simp only [List.take_zero, List.nil_append, Nat.zero_add]
 rw [List.drop_of_length_le (by rw [Array.length_toList]; omega), List.append_nil]
theorem ygn (x : En) (g : Eg) (ver : Int) (w : World) (h : LaidG w x g) (sg : zep g) (hjk : g.j.length + g.k.length ≤ 1000) :
  Calls Tryz.prog 13 #[.agg (en x), .int .i64 ver] w (SnIs (ofE g ver) w) := by
 obtain ⟨W0, hW0⟩ : ∃ W0, W0 = (w.alloc (.cells (en x) 38)).alloc (.cells (sn zsn) 40) := ⟨_, rfl⟩
 obtain ⟨hB, q0, q1, _⟩ := zc2 w _ _ _ _ W0 hW0
 have A : Hid (Gv w W0 w.heap.size x g) := ⟨q0, h.keep hB, hB⟩
 have MR : Hid (W0.heap[w.heap.size + 1]? = some (.cells (sn zsn) 40 (0, 0))) := q1
 have HW := Lib.hid hW0
 have HM := Lib.hid (fun W hh => ycc x g W hh sg hjk)
 have HBe := Lib.hid (fun W (hh : LaidG W x g) => z7q x.t.n (sv x.j) g.t g.j g.fin W hh.t hh.j sg.t sg.j)
 have HFd := Lib.hid (fun W (hh : LaidG W x g) => zg6 x.t.n g.t g.fin.root W hh.t sg.t)
 have HLe := Lib.hid (fun i W (hh : LaidG W x g) => z2b x.t.n g.t (zdy g).epoch.toNat i W hh.t sg.t)
 have HFr := Lib.hid (fun i W (hh : LaidG W x g) => z7l x.t.n g.t (zdy g).root i W hh.t sg.t)
 have HHd := Lib.hid (fun u b i W (hh : LaidG W x g) hu => z7j x.t.n (sv x.w) u g.t g.w b i W hh.t hh.w hu sg.t)
 obtain ⟨m, hm⟩ : ∃ m, m = mayG g := ⟨_, rfl⟩
 rw [← hm] at HM
 obtain ⟨S, hS⟩ : ∃ S, S = ofE g ver := ⟨_, rfl⟩
 rw [← hS]
 have HS := Lib.hid hS
 have HMy := Lib.hid hm.symm
 obtain ⟨⟨pt, nt, ct⟩, hst⟩ : ∃ s : SlV, s = x.t.n := ⟨_, rfl⟩
 have HSt := Lib.hid hst
 have HNt : Hid (g.t.length = nt) := by have := zoe h.t; rw [← hst] at this; exact this
 have HS0 := Lib.hid h.t
 clear hW0 hB q0 q1 h sg hjk hm hS hst
 go_enter Tryz.func13, Tryz.ntmps13
 go_upto_region 1 with fail
 rw [← HW.out]
 have z := A.out.z
 go_wp2_with fail
 refine (HM.out _ A.out.l).mono ?_
 rintro e w1 ⟨rfl, g⟩
 replace A := Lib.hid (A.out.keep g)
 replace MR := Lib.hid (zac g MR.out)
 clear g z HM HW
 cases m
 ·
  obtain rfl : S = zSg := by rw [HS.out]; unfold ofE; rw [if_neg (by rw [HMy.out]; exact Bool.false_ne_true)]
  have yw := zau MR.out (zcb _)
  go_wp2_with fail
  exact bodyPost_ret (zao Tryz.isAgg40 Tryz.sizeOf40 _ 4 rfl _ _ _ _ rfl (za4 MR.out (zcb _) (zcb _))) rfl ⟨zsn, rfl, ⟨(by first | exact zbg _ _ _ _ | (unfold sv; exact zbg _ _ _ _)), rfl, rfl, rfl, rfl⟩, zas A.out.g (by omega)⟩
 ·
  have MS := Lib.hid (zy4.1 HMy.out)
  obtain ⟨i, k, mm, hi, hk, hmm, f1, f2, r2, r1, a1, a2, g1, g2, g3⟩ := z5j MS.out
  have HJr : Hid (zaz g.t g.fin.root = (i : Int)) := f1
  have HF2 : Hid (zq5 g = (k : Int)) := g1
  have HH2 : Hid (zte g = (mm : Int)) := g2
  have HMm := Lib.hid hmm
  have HE : Hid (S = ⟨ver, g.t, (nd g.t mm).root, zdy g, g.fin⟩) := by show _ = _; rw [HS.out, z6r MS.out, g2]; rfl
  rw [show zaz g.t g.fin.root = (i : Int) from f1] at HFd
  have HFr2 := Lib.hid (HFr.out (i : Int))
  rw [show zm5 g.t (zdy g).root (i : Int) = zq5 g by unfold zq5; rw [show zh2 g = (i : Int) from f1], g1] at HFr2
  have HLe2 := Lib.hid (HLe.out (i : Int))
  obtain ⟨B, hBd⟩ : ∃ B, B = zp1 g.t (zdy g).epoch.toNat (i : Int) := ⟨_, rfl⟩
  rw [← hBd] at HLe2
  have HHd2 := Lib.hid (fun u W hh hu => HHd.out u B (k : Int) W hh hu)
  rw [show zib g.t g.w B (k : Int) = (mm : Int) by rw [hBd, ← g2]; unfold zte ztq; rw [show zh2 g = (i : Int) from f1, g1]] at HHd2
  have HBe2 : Hid (∀ W, LaidG W x g → Calls Tryz.prog 33 #[.agg (tr ⟨x.t.n⟩), sv x.j, .agg (cc g.fin)] W fun e w' => e = .returned (.agg (cc (zdy g))) ∧ Below W.heap.size W w') := HBe.out
  obtain ⟨J, hJ⟩ : ∃ J, J = zdy g := ⟨_, rfl⟩
  rw [← hJ] at HBe2 HLe2 HFr2 HE
  clear hi hk hmm f1 f2 r2 r1 a1 a2 g1 g2 g3 hBd HBe HFr HLe HHd hJ HS
  have zT := A.out.zT
  have zj := A.out.zj
  have zf := A.out.zf
  go_wp2_with fail
  refine (HBe2.out _ A.out.l).mono ?_
  rintro e w2 ⟨rfl, gg⟩
  have Q : Hid ((w2.alloc (.cells (cc J) 36)).heap[w2.heap.size]? = some (.cells (cc J) 36 (0, 0))) := heap_alloc_last w2 _
  replace A := Lib.hid (A.out.keep (zab gg (below1 (o := .cells (cc J) 36))))
  replace MR := Lib.hid (zac (zab gg (below1 (o := .cells (cc J) 36))) MR.out)
  clear gg zT zj zf HBe2
  have zT := A.out.zT
  have zr := A.out.zr
  go_wp2_with fail
  refine (HFd.out _ A.out.l).mono ?_
  rintro e w3 ⟨rfl, g⟩
  replace A := Lib.hid (A.out.keep g)
  replace MR := Lib.hid (zac g MR.out)
  replace Q := Lib.hid (zac g Q.out)
  clear g zT zr HFd
  have zT := A.out.zT
  have ze := zgt Q.out
  go_wp2_with fail
  refine (HLe2.out _ A.out.l).mono ?_
  rintro e w4 ⟨vb, rfl, hob, gg⟩
  replace A := Lib.hid (A.out.keep gg)
  replace MR := Lib.hid (zac gg MR.out)
  replace Q := Lib.hid (zac gg Q.out)
  obtain ⟨pb, cb, rfl⟩ := zb4 hob
  have SB := Lib.hid (za2 hob)
  clear gg hob zT ze HLe2
  have zT := A.out.zT
  have zw := A.out.zw
  have zr := zb0 Q.out
  obtain ⟨nb, hnb⟩ : ∃ n, n = B.length := ⟨_, rfl⟩
  rw [← hnb] at SB ⊢
  clear hnb
  go_upto_region 7 with fail
  have L0 := fun p : Wd w4.drew => zbb zT (by decide) p
  have L1 := fun p : Wd w4.drew => zbc zw p
  have L2 := fun p : Wd w4.drew => zbb zr (by decide) p
  clear zT zw zr
  refine zaj [10, 11] (by kernel_rfl) (by kernel_rfl) (by kernel_rfl) ?_
  repeat (first | (refine zae rfl rfl _ zaf ?_; (first | go_big_quiet_step (fail) | quiet_step (fail)); refine wpQuiet_nil ?_) | refine zag rfl ?_)
  refine zan rfl rfl rfl zlb #[.agg (tr ⟨x.t.n⟩), .agg (rc J.root), .int .i64 (i : Int)] rfl ?_
  refine (HFr2.out _ (A.out.l.keep (zah (Below.refl _ _) 1))).mono ?_
  rintro e u ⟨rfl, g⟩
  refine ⟨_, rfl, g, ?_⟩
  simp only [Act.put, List.setIfInBounds_toArray, List.set_cons_zero, List.set_cons_succ]
  have GB : Hid (Below w4.heap.size w4 u) := zab (zah (Below.refl _ _) 1) g
  clear g
  repeat (first | (refine zae rfl rfl _ zaf ?_; (first | go_big_quiet_step (fail) | quiet_step (fail)); refine wpQuiet_nil ?_) | refine zag rfl ?_)
  refine zan rfl rfl rfl zla #[.agg (tr ⟨x.t.n⟩), sv x.w, .slice pb nb cb, .int .i64 (k : Int)] rfl ?_
  refine (HHd2.out _ _ (A.out.l.keep GB.out) (zad GB.out SB.out)).mono ?_
  rintro e u ⟨rfl, g⟩
  refine ⟨_, rfl, g, ?_⟩
  simp only [Act.put, List.setIfInBounds_toArray, List.set_cons_zero, List.set_cons_succ]
  replace GB : Hid (Below w4.heap.size w4 u) := zab GB.out g
  clear g
  repeat (first | (refine zae rfl rfl _ zaf ?_; (first | go_big_quiet_step (fail) | quiet_step (fail)); refine wpQuiet_nil ?_) | refine zag rfl ?_)
  refine za3 ?_
  clear L0 L1 L2
  replace A := Lib.hid (A.out.keep GB.out)
  replace MR := Lib.hid (zac GB.out MR.out)
  replace Q := Lib.hid (zac GB.out Q.out)
  replace SB := Lib.hid (zad GB.out SB.out)
  clear GB
  obtain ⟨w5, rfl⟩ : ∃ W : World, W = u := ⟨_, rfl⟩
  have zT := A.out.zT
  have zt := A.out.zt
  rw [← HSt.out, za0] at zt
  have zf := A.out.zf
  have zJ := zar Q.out (zax _)
  have hs := A.out.l.t
  rw [← HSt.out, za0] at hs
  obtain ⟨bq, oq, hpq, _, qq⟩ := zcj hs (by have := HMm.out; omega)
  subst hpq
  have yq := zdf qq (i := mm) HMm.out
  have q4 := HMm.out
  rw [HNt.out] at q4
  have i0 : (0 : Int) ≤ (mm : Int) := by omega
  have i1 : (mm : Int) < (nt : Int) := by omega
  clear hs qq q4
  go_upto_region 8 with fail
  have HLt : Hid (w.heap.size + 1 < w5.heap.size) := (Array.getElem?_eq_some_iff.1 MR.out).1
  have hwB : w.heap.size + 1 ≤ w5.drew.heap.size := Nat.le_of_lt HLt.out
  have Q0 := fun p : Wd w5.drew => zbb zT (by decide) p
  have Q1 := fun p : Wd w5.drew => zbc zt p
  have Q2 := fun p : Wd w5.drew => zbb yq (by decide) p
  have Q3 := fun p : Wd w5.drew => zbb zJ (by decide) p
  have Q4 := fun p : Wd w5.drew => zbb zf (by decide) p
  clear zT zt yq zJ zf
  refine zol (w.heap.size + 1) [0, 1, 2, 3, 4, 5, 6, 7, 8, 9, 10, 11, 12] [14] (by kernel_rfl) ?_
  refine GX.take1 0 rfl rfl rfl (by kernel_rfl) (by kernel_rfl) (by kernel_rfl) rfl hwB ?_
  (first | go_big_quiet_step (fail) | quiet_step (fail)); refine wpQuiet_nil ?_
  refine GX.take1 1 rfl rfl rfl (by kernel_rfl) (by kernel_rfl) (by kernel_rfl) rfl hwB ?_
  (first | go_big_quiet_step (fail) | quiet_step (fail)); refine wpQuiet_nil ?_
  refine GX.take1 2 rfl rfl rfl (by kernel_rfl) (by kernel_rfl) (by kernel_rfl) rfl hwB ?_
  (first | go_big_quiet_step (fail) | quiet_step (fail)); refine wpQuiet_nil ?_
  refine GX.take1 3 rfl rfl rfl (by kernel_rfl) (by kernel_rfl) (by kernel_rfl) rfl hwB ?_
  (first | go_big_quiet_step (fail) | quiet_step (fail)); refine wpQuiet_nil ?_
  refine GX.take1 4 rfl rfl rfl (by kernel_rfl) (by kernel_rfl) (by kernel_rfl) rfl hwB ?_
  (first | go_big_quiet_step (fail) | quiet_step (fail)); refine wpQuiet_nil ?_
  refine GX.take1 5 rfl rfl rfl (by kernel_rfl) (by kernel_rfl) (by kernel_rfl) rfl hwB ?_
  (first | go_big_quiet_step (fail) | quiet_step (fail)); refine wpQuiet_nil ?_
  refine GX.take1 6 rfl rfl rfl (by kernel_rfl) (by kernel_rfl) (by kernel_rfl) rfl hwB ?_
  (first | go_big_quiet_step (fail) | quiet_step (fail)); refine wpQuiet_nil ?_
  refine GX.take1 7 rfl rfl rfl (by kernel_rfl) (by kernel_rfl) (by kernel_rfl) rfl hwB ?_
  (first | go_big_quiet_step (fail) | quiet_step (fail)); refine wpQuiet_nil ?_
  refine GX.take1 8 rfl rfl rfl (by kernel_rfl) (by kernel_rfl) (by kernel_rfl) rfl hwB ?_
  (first | go_big_quiet_step (fail) | quiet_step (fail)); refine wpQuiet_nil ?_
  refine GX.take1 9 rfl rfl rfl (by kernel_rfl) (by kernel_rfl) (by kernel_rfl) rfl hwB ?_
  (first | go_big_quiet_step (fail) | quiet_step (fail)); refine wpQuiet_nil ?_
  refine GX.take1 10 rfl rfl rfl (by kernel_rfl) (by kernel_rfl) (by kernel_rfl) rfl hwB ?_
  (first | go_big_quiet_step (fail) | quiet_step (fail)); refine wpQuiet_nil ?_
  refine GX.take1 11 rfl rfl rfl (by kernel_rfl) (by kernel_rfl) (by kernel_rfl) rfl hwB ?_
  (first | go_big_quiet_step (fail) | quiet_step (fail)); refine wpQuiet_nil ?_
  refine GX.take1 12 rfl rfl rfl (by kernel_rfl) (by kernel_rfl) (by kernel_rfl) rfl hwB ?_
  (first | go_big_quiet_step (fail) | quiet_step (fail)); refine wpQuiet_nil ?_
  refine GX.take2 13 rfl rfl rfl (by kernel_rfl) (by kernel_rfl) (by kernel_rfl) rfl hwB ?_
  (first | go_big_quiet_step (fail) | quiet_step (fail)); refine wpQuiet_nil ?_
  have me : w5.drew.heap[w.heap.size + 1]? = some (.cells (sn zsn) 40 (0, 0)) := MR.out
  have yw := zau me (zcb _)
  refine GX.branch1 14 (by kernel_rfl) ?_
  refine zvg rfl rfl rfl (stA w5.drew (.pointer (some ⟨w.heap.size + 1, 0, none⟩)) (.agg (sn ⟨ver, ⟨x.t.n⟩, (nd g.t mm).root, J, g.fin⟩))) (by (go_simp; first | done | rfl)) (zn8 (by kernel_rfl) (zas (Below.refl _ _) (Nat.le_refl _))) ?_
  simp only [Act.put]
  have HR : Hid (LaidS (stA w5.drew (.pointer (some ⟨w.heap.size + 1, 0, none⟩)) (.agg (sn ⟨ver, ⟨x.t.n⟩, (nd g.t mm).root, J, g.fin⟩))) ⟨ver, ⟨x.t.n⟩, (nd g.t mm).root, J, g.fin⟩ S) := by rw [HE.out]; exact ⟨zad (zas (zah A.out.g 1) (Nat.le_succ _)) HS0.out, rfl, rfl, rfl, rfl⟩
  have HZ : Hid (Below w.heap.size w (stA w5.drew (.pointer (some ⟨w.heap.size + 1, 0, none⟩)) (.agg (sn ⟨ver, ⟨x.t.n⟩, (nd g.t mm).root, J, g.fin⟩)))) := zas (zah A.out.g 1) (Nat.le_succ _)
  have HM : Hid ((stA w5.drew (.pointer (some ⟨w.heap.size + 1, 0, none⟩)) (.agg (sn ⟨ver, ⟨x.t.n⟩, (nd g.t mm).root, J, g.fin⟩))).heap[w.heap.size + 1]? = some (.cells (sn ⟨ver, ⟨x.t.n⟩, (nd g.t mm).root, J, g.fin⟩) 40 (0, 0))) := by show _ = _; rw [zb6 me (by rw [zcb, zcb]; decide)]; congr 2; exact zw6 (by rw [zcb, zcb])
  clear yw
  refine GX.nil (by kernel_rfl) ?_
  clear Q0 Q1 Q2 Q3 Q4 hwB
  go_wp2_with fail
  exact bodyPost_ret (zao Tryz.isAgg40 Tryz.sizeOf40 _ 4 rfl _ _ _ _ rfl (zar HM.out (zcb _))) rfl ⟨_, rfl, HR.out, HZ.out⟩
theorem zoq : ∀ args w, (callFunc 13 args).run Tryz.prog w = .ok (.enter 13 args) w := za7 Tryz.func13 (by kernel_rfl) (by kernel_rfl)
end Go.Proofs.YtkalofboioffiaaGreat
