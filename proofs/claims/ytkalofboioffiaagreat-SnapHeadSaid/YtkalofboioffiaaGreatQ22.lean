import Derived.Test.YtkalofboioffiaaGreatQ21
import Derived.Maps.OwnIn
namespace Go.Proofs.YtkalofboioffiaaGreat
open Go.RowKit
set_option maxRecDepth 200000
set_option maxHeartbeats 64000000
theorem zz3 (t : Tr) (p : Option Addr) (n c : Nat) (w : World) :
  Calls Tryz.prog 172 #[.agg (tr t), .slice p n c] w fun e w' => e = .returned (.func (.func 192) #[] #[.pointer (some ⟨w.heap.size + 1, 0, none⟩), .pointer (some ⟨w.heap.size, 0, none⟩)]) ∧ w' = (w.alloc (.cells (tr t) 24)).alloc (.cells #[.slice p n c] 25) := by
 go_enter Tryz.func172, Tryz.ntmps172
 go_wp2_with fail
 go_ret
 exact ⟨rfl, rfl⟩
theorem zn5 : ∀ args w, (callFunc 102 args).run Tryz.prog w = .ok (.enter 102 args) w := zbe Tryz.func102 (by kernel_rfl) (by kernel_rfl)
theorem yo5 (bw bt b0 o0 b1 o1 n cp c1 : Nat) (l : List Nd) (a : List UInt64) (x y : Nat) (w : World) (hx : x < n) (hy : y < n) (hl : l.length = n) (ha : a.length = n)
  (M0 : w.heap[bt]? = some (.cells (tr ⟨⟨some ⟨b0, o0, none⟩, n, cp⟩⟩) 24 (0, 0))) (M1 : w.cell? ⟨bw, 0, none⟩ = some (.slice (some ⟨b1, o1, none⟩) n c1)) (x0 : w.rangeAt b0 o0 (zaq Ene l)) (x1 : w.rangeAt b1 o1 (zaq Enum a)) :
  Calls Tryz.prog 192 #[.int .i64 (x : Int), .int .i64 (y : Int), .pointer (some ⟨bw, 0, none⟩), .pointer (some ⟨bt, 0, none⟩)] w fun e w' => e = .returned (.bool (zch l zbz (fn a) x y)) ∧ Below w.heap.size w w' := by
 have yx := zd4 x1 (i := x) (by omega)
 have yy := zd4 x1 (i := y) (by omega)
 have rx := zoq x0 (i := x) (by omega)
 have ry := zoq x0 (i := y) (by omega)
 have HLe := Lib.hid (fun W => z4g (nd l y).root (nd l x).root W)
 obtain ⟨res, hres⟩ : ∃ r, r = zch l zbz (fn a) x y := ⟨_, rfl⟩
 rw [← hres]
 have HR : Hid (res = (decide (fn a y < fn a x) || (decide (fn a x = fn a y) && zbz (nd l y).root (nd l x).root))) := hres
 obtain ⟨X, hX⟩ : ∃ X, X = fn a x := ⟨_, rfl⟩
 obtain ⟨Y, hY⟩ : ∃ Y, Y = fn a y := ⟨_, rfl⟩
 obtain ⟨rl, hrl⟩ : ∃ rl, rl = zbz (nd l y).root (nd l x).root := ⟨_, rfl⟩
 rw [← hX] at yx HR
 rw [← hY] at yy HR
 rw [← hrl] at HLe HR
 obtain ⟨z0, z1, zl⟩ := zaw M0
 dsimp only at z0
 rw [za7] at z0
 have i0 : (0 : Int) ≤ (x : Int) := by omega
 have i1 : (x : Int) < (n : Int) := by omega
 have j0 : (0 : Int) ≤ (y : Int) := by omega
 have j1 : (y : Int) < (n : Int) := by omega
 generalize (nd l x).root = R1 at *
 generalize (nd l y).root = R2 at *
 clear hX hY hrl hres hx hy hl ha M0 x0 x1
 by_cases he : X = Y
 ·
  have t1 : ((X : Int) != (Y : Int)) = false := by rw [bne_eq_false_iff_eq]; omega
  have hX : Hid (res = rl) := by show res = rl; rw [HR.out, decide_eq_false (by omega), decide_eq_true he]; rfl
  clear he HR
  go_enter Tryz.func192, Tryz.ntmps192
  go_wp2_with fail
  go_quiet (fail)
  go_wp2_with fail
  have B2 : Hid (Below w.heap.size w (w.drewN nq)) := zak (Below.refl _ _) nq
  have q0 : (w.drewN nq).cell? ⟨bt, 0, none⟩ = some (.slice (some ⟨b0, o0, none⟩) n cp) := z0
  have s1 : ldA (w.drewN nq) (.pointer (some ⟨b0, o0 + x * 35, none⟩)) 32 = some (rc R1) := rx
  have s2 : ldA (w.drewN nq) (.pointer (some ⟨b0, o0 + y * 35, none⟩)) 32 = some (rc R2) := ry
  clear z0 z1 zl rx ry yx yy t1 M1
  generalize w.drewN nq = wy at *
  have L0 := fun q : Wd wy.drew => zay q0 q
  have L1 := fun q : Wd wy.drew => za8 s1 (by decide) q
  have L2 := fun q : Wd wy.drew => za8 s2 (by decide) q
  refine zan [12] (by kernel_rfl) (by kernel_rfl) (by kernel_rfl) ?_
  repeat (refine zae rfl rfl _ zaf ?_; (first | go_big_quiet_step (fail) | quiet_step (fail)); refine wpQuiet_nil ?_)
  refine zau rfl rfl rfl zn5 #[.agg (rc R2), .agg (rc R1)] rfl ?_
  refine (HLe.out _).mono ?_
  rintro e u ⟨rfl, g⟩
  refine ⟨_, rfl, g, ?_⟩
  simp only [Act.put, List.setIfInBounds_toArray, List.set_cons_zero, List.set_cons_succ]
  have G3 := Lib.hid (zac B2.out (zac (zak (Below.refl _ _) 1) g))
  clear g
  repeat (refine zae rfl rfl _ zaf ?_; (first | go_big_quiet_step (fail) | quiet_step (fail)); refine wpQuiet_nil ?_)
  refine zbd ?_
  go_wp2_with fail
  go_ret
  exact ⟨by rw [hX.out]; first | done | rfl, G3.out⟩
 ·
  have t1 : ((X : Int) != (Y : Int)) = true := by rw [bne_iff_ne]; omega
  obtain ⟨q, hq⟩ : ∃ q, q = decide (Y < X) := ⟨_, rfl⟩
  have t2 : decide (Y < X) = q := hq.symm
  have t3 : decide ((Y : Int) < (X : Int)) = q := by rw [hq, Bool.eq_iff_iff, decide_eq_true_iff, decide_eq_true_iff]; omega
  have hX : Hid (res = q) := by show res = q; rw [HR.out, ← hq, decide_eq_false he, Bool.false_and, Bool.or_false]
  clear he HR hq
  go_enter Tryz.func192, Tryz.ntmps192
  go_wp2_with fail
  go_quiet (fail)
  go_wp2_with fail
  go_quiet (fail)
  go_wp2_with fail
  go_ret
  exact ⟨by rw [hX.out]; first | done | rfl, zak (zak (Below.refl _ _) _) _⟩
theorem z4z (p q1 q2 : Option Addr) (n cp c1 c2 : Nat) (l : List Nd) (a : List UInt64) (b : List Bool) (i : Nat) (w : World) (h : SlE Ene w (.slice p n cp) l) (h1 : SlE Enum w (.slice q1 n c1) a) (h2 : SlE Eboo w (.slice q2 n c2) b) (hl : l.length = n) (ht : znh l a b = true) (hi : i < n) :
  Calls Tryz.prog 143 #[.agg (tr ⟨⟨p, n, cp⟩⟩), .slice q1 n c1, .slice q2 n c2, .int .i64 (i : Int)] w fun e w' => e = .returned (.int .i64 (optZ (zn2 l a b i))) ∧ Below w.heap.size w w' := by
 obtain ⟨hm, hal, hbl⟩ := zl5.1 ht
 obtain ⟨res, hres⟩ : ∃ res, res = optZ (zn2 l a b i) := ⟨_, rfl⟩
 rw [← hres]
 have HN : Hid (n ≤ 12) := by show n ≤ 12; have := hm.le; omega
 obtain ⟨ks, hks⟩ : ∃ ks, ks = zhi l i n := ⟨_, rfl⟩
 have HR : Hid (res = optZ (zh3 l a b ks)) := by show res = _; rw [hres, ← z41, ← z1k, hl, hks]
 have HKl : Hid (ks.length ≤ n) := by show ks.length ≤ n; rw [hks]; unfold zhi; have := List.length_filter_le (fun k => decide ((nd l k).parent = (i : Int))) (List.range n); rwa [List.length_range] at this
 have HM : Hid (∀ k ∈ ks, k < n) := fun k hk => by rw [hks] at hk; exact z0w hk
 have HC : Hid (zkf l (i : Int) = ks.map fun k : Nat => (k : Int)) := by show _ = _; rw [zxv hm (by omega), z55, hl, hks]
 have HK := Lib.hid (fun W (g : Below w.heap.size w W) => zwi ⟨p, n, cp⟩ l (i : Int) W (zad g h))
 rw [HC.out] at HK
 obtain ⟨W0, hW0⟩ : ∃ W0, W0 = w.alloc (.cells (tr ⟨⟨p, n, cp⟩⟩) 24) := ⟨_, rfl⟩
 have HB : Hid (Below w.heap.size w W0) := by rw [hW0]; exact below1
 have M0 : Hid (W0.heap[w.heap.size]? = some (.cells (tr ⟨⟨p, n, cp⟩⟩) 24 (0, 0))) := by rw [hW0]; exact heap_alloc_last w _
 have HW := Lib.hid hW0
 have HL := Lib.hid hl
 have HA := Lib.hid (hal.trans hl)
 have HBb := Lib.hid (hbl.trans hl)
 obtain ⟨b0, o0, rfl, r0, x0⟩ := zda h hm.pos
 obtain ⟨b1, o1, rfl, r1, x1⟩ := zgi h1 (by have := hm.pos; omega)
 obtain ⟨b2, o2, rfl, r2, x2⟩ := z20 h2 (by have := hm.pos; omega)
 have X0 := Lib.hid x0
 have X1 := Lib.hid x1
 have X2 := Lib.hid x2
 clear hW0 h h1 h2 hl ht hm hal hbl hres hks hi HC x0 x1 x2 r0 r1 r2
 go_enter Tryz.func143, Tryz.ntmps143
 obtain ⟨z0, z1, zl⟩ := zaw M0.out
 dsimp only at z0
 rw [za7] at z0
 go_wp2_with fail
 rw [← HW.out]
 clear z0 zl
 go_wp2_with fail
 refine (zz3 _ _ _ _ W0).mono ?_
 rintro e w1 ⟨rfl, hw1⟩
 obtain ⟨hB1, hT1, hC1, hz1⟩ := zdb W0 _ _ _ _ w1 hw1
 have G1 := Lib.hid (zac HB.out hB1)
 have M1 := Lib.hid (zab hB1 M0.out)
 have HT1 := Lib.hid hT1
 have HC1 := Lib.hid hC1
 clear hw1 hT1 hC1 hz1 z1 hB1
 obtain ⟨z0, z1, zl⟩ := zaw M1.out
 clear z0
 go_wp2_with fail
 refine (HK.out w1 G1.out).mono ?_
 rintro e w2 ⟨v, rfl, hv, g2⟩
 obtain ⟨pk, ck, rfl⟩ := zdg hv (n := ks.length) (by rw [List.length_map])
 have HV := Lib.hid (zat hv)
 have G2 := Lib.hid (zac G1.out g2)
 have HT2 := Lib.hid (zab g2 HT1.out)
 have HC2 := Lib.hid (zab g2 HC1.out)
 clear hv g2 z1 zl
 obtain ⟨m, hm⟩ : ∃ m, m = ks.length := ⟨_, rfl⟩
 rw [← hm] at HV
 rw [← hm]
 have HMl := Lib.hid hm
 have HMn : Hid (m ≤ n) := by show m ≤ n; rw [hm]; exact HKl.out
 clear hm
 go_wp2_with fail
 go_loopw [10, 20] (fun v k wr => ∃ j : Nat, j ≤ m ∧ k = .int .i64 (j : Int) ∧ v = .int .i64 (optZ (zh3 l a b (ks.take j))) ∧ Below w2.heap.size w2 wr) (fun _ k _ => m - (intOf k).toNat)
 case atStart => exact ⟨0, Nat.zero_le _, rfl, by rw [List.take_zero]; rfl, Below.refl _ _⟩
 case round =>
  obtain ⟨j, hj, rfl, rfl, hb⟩ := hrel
  have HBB := Lib.hid hb
  have GW := Lib.hid (zac G2.out hb)
  clear hb
  by_cases hlt : j < m
  ·
   have t0 : decide ((j : Int) < (m : Int)) = true := by rw [decide_eq_true_iff]; omega
   have j0 : (0 : Int) ≤ (j : Int) := by omega
   have j1 : (j : Int) < (m : Int) := by omega
   obtain ⟨b3, o3, rfl, _, x3⟩ := z3m HV.out (by rw [List.length_map, ← HMl.out]; omega)
   have hkl : j < (ks.map fun k : Nat => (k : Int)).length := by rw [List.length_map, ← HMl.out]; exact hlt
   have yk := yay (zfu HBB.out x3) (i := j) hkl
   have hke : (ks.map fun k : Nat => (k : Int)).getD j 0 = ((ks.getD j 0 : Nat) : Int) := by
    rw [List.getD_eq_getElem?_getD, List.getElem?_eq_getElem hkl, List.getElem_map, List.getD_eq_getElem?_getD, List.getElem?_eq_getElem (by rw [List.length_map] at hkl; exact hkl)]; rfl
   rw [hke] at yk
   have hmem : ks.getD j 0 ∈ ks := by
    rw [List.getD_eq_getElem?_getD, List.getElem?_eq_getElem (by rw [← HMl.out]; exact hlt)]
    exact List.getElem_mem _
   have HT : Hid (zh3 l a b (ks.take (j + 1)) = zrd l a b (zh3 l a b (ks.take j)) (ks.getD j 0)) := ycg (by rw [← HMl.out]; exact hlt)
   have HPm : Hid (∀ x, zh3 l a b (ks.take j) = some x → x < n) := fun x hx => HM.out x (List.mem_of_mem_take (z4a ks j (by rw [← HMl.out]; omega) x hx))
   obtain ⟨k, hk⟩ : ∃ k, k = ks.getD j 0 := ⟨_, rfl⟩
   rw [← hk] at yk hmem HT
   have HKn : Hid (k < n) := HM.out k hmem
   have k0 : (0 : Int) ≤ (k : Int) := by omega
   have k1 : (k : Int) < (n : Int) := by have := HKn.out; omega
   have yb := zw4 (zfu GW.out X2.out) (i := k) (by have := HBb.out; have := HKn.out; omega)
   obtain ⟨L, hL⟩ : ∃ L, L = bn b k := ⟨_, rfl⟩
   rw [← hL] at yb
   have HLL := Lib.hid hL
   have HJT := Lib.hid hlt
   have u1 : (j : Int) + 1 < 10000 := by have := HMn.out; have := HN.out; omega
   clear hlt hk hmem hke hkl hL x3
   cases L
   ·
    have HE : Hid (zh3 l a b (ks.take (j + 1)) = zh3 l a b (ks.take j)) := HT.out.trans (zwb HLL.out.symm)
    go_wp2_with fail
    go_roundw
    case rel => exact ⟨j + 1, HJT.out, by go_num, by rw [HE.out], HBB.out⟩
    case measure => simp [intOf]; have := HJT.out; omega
   ·
    cases hq : zh3 l a b (ks.take j) with
    | none =>
     have HE : Hid (zh3 l a b (ks.take (j + 1)) = some k) := by show _ = _; rw [HT.out, hq]; exact znc HLL.out.symm
     clear hq
     rw [zyo]
     go_wp2_with fail
     go_roundw
     case rel => exact ⟨j + 1, HJT.out, by go_num, by rw [HE.out, zqy], HBB.out⟩
     case measure => simp [intOf]; have := HJT.out; omega
    | some x =>
     have HXn : Hid (x < n) := HPm.out x hq
     have HE : Hid (zh3 l a b (ks.take (j + 1)) = if zch l zbz (fn a) k x = true then some k else some x) := by show _ = _; rw [HT.out, hq]; exact zrf HLL.out.symm
     have HCt := Lib.hid (yo5 (W0.heap.size + 1) W0.heap.size b0 o0 b1 o1 n cp c1 l a k x wr HKn.out HXn.out HL.out HA.out (zab HBB.out HT2.out) (zaj (zab HBB.out HC2.out)).1 (zfu GW.out X0.out) (zfu GW.out X1.out))
     obtain ⟨r, hr⟩ : ∃ r, r = zch l zbz (fn a) k x := ⟨_, rfl⟩
     rw [← hr] at HE HCt
     have t2 : ((x : Int) == -1) = false := by rw [beq_eq_false_iff_ne]; omega
     clear hq hr
     rw [zqy]
     go_wp2_with fail
     refine HCt.out.mono ?_
     rintro e w4 ⟨rfl, g⟩
     have G4 := Lib.hid (zac HBB.out g)
     clear g yk yb
     cases r
     ·
      go_wp2_with fail
      go_roundw
      case rel => exact ⟨j + 1, HJT.out, by go_num, by rw [HE.out]; rfl, G4.out⟩
      case measure => simp [intOf]; have := HJT.out; omega
     ·
      go_wp2_with fail
      go_roundw
      case rel => exact ⟨j + 1, HJT.out, by go_num, by rw [HE.out]; rfl, G4.out⟩
      case measure => simp [intOf]; have := HJT.out; omega
  ·
   obtain rfl : j = m := by omega
   have t0 : decide ((j : Int) < (j : Int)) = false := decide_eq_false (Int.lt_irrefl _)
   have hX : Hid (res = optZ (zh3 l a b (ks.take j))) := by show res = _; rw [HR.out, HMl.out, List.take_length]
   clear hlt
   go_wp2_with fail
   go_ret
   exact ⟨by rw [hX.out]; first | done | rfl, GW.out⟩
def wayM (n : Nat) (x : Int) : Nat := if x < 0 then 0 else n + 1 - x.toNat
theorem yoc {n k : Nat} {c : Int} (h : c < 0 ∨ (k : Int) < c) (hk : k < n) : wayM n c < wayM n (k : Int) := by
 unfold wayM
 rw [if_neg (show ¬ (k : Int) < 0 by omega)]
 by_cases hc : c < 0
 ·
  rw [if_pos hc]; omega
 ·
  rw [if_neg hc]; omega
section
open Go.Shelf
open Go.RowKit Go.Shelf
structure But (s0 n₀ D : Nat) (W W' : World) : Prop where
 below : Below s0 W W'
 block : ∀ k, k < n₀ → k ≠ D → W'.heap[k]? = W.heap[k]?
section
variable {s0 n₀ D : Nat} {A W W' : World}
theorem But.refl (s0 n₀ D : Nat) (W : World) : But s0 n₀ D W W := ⟨Below.refl _ _, fun _ _ _ => rfl⟩
theorem But.trans (h : But s0 n₀ D A W) (k : But s0 n₀ D W W') : But s0 n₀ D A W' := ⟨h.below.trans k.below, fun j hj hn => (k.block j hj hn).trans (h.block j hj hn)⟩
theorem But.of_below (h : Below n₀ W W') (hs : s0 ≤ n₀) : But s0 n₀ D W W' := ⟨h.mono hs, fun k hk _ => h.block k hk⟩
theorem But.then (h : But s0 n₀ D A W) (g : Below W.heap.size W W') (hs : s0 ≤ n₀) (hn : n₀ ≤ W.heap.size) : But s0 n₀ D A W' := h.trans (But.of_below (g.mono hn) hs)
theorem But.setCell (h : But s0 n₀ D A W) (hD : s0 ≤ D) (v : Value) : But s0 n₀ D A (W.setCell ⟨D, 0, none⟩ v) :=
 h.trans ⟨(Below.refl _ _).setCell (p := ⟨D, 0, none⟩) hD v, fun _ _ hn => Below.heap_setCell _ _ _ _ hn⟩
theorem But.blk {k : Nat} {o : Obj} (h : But s0 n₀ D W W') (hk : k < n₀) (hn : k ≠ D) (e : W.heap[k]? = some o) : W'.heap[k]? = some o := (h.block k hk hn).trans e
theorem z22 {A B C : World} (h : But s0 n₀ D A B) (k : But s0 n₀ D B C) : But s0 n₀ D A C := h.trans k
theorem z21 {w : World} (hs : s0 ≤ n₀) (hn : n₀ ≤ w.heap.size) (W : World) (l : Nat) (o o' : Obj) (hl : w.heap.size ≤ l) (h : W.heap[l]? = some o) (h1 : o.isCells = false) (h2 : o.isWalk = false) : But s0 n₀ D W (W.putObj l o') :=
 But.of_below (belowK_b hn W l o o' hl h h1 h2) hs
theorem But.own {α : Type} {B : Nat} {W0 : World} (hn : n₀ ≤ B) (h0 : n₀ ≤ W0.heap.size) (hs : s0 ≤ n₀) : OwnFrom B (fun (_ : List α) W => But s0 n₀ D W0 W) := fun _ W W' row h hg hr =>
 h.trans ⟨⟨hg.os, hg.tape, hg.output, hg.size, fun k hk => hg.block k (Nat.lt_of_lt_of_le (Nat.lt_of_lt_of_le (Nat.lt_of_lt_of_le hk hs) h0) h.below.size) (fun e => by have := (hr k e.symm).1; omega)⟩, fun k hk _ => hg.block k (Nat.lt_of_lt_of_le (Nat.lt_of_lt_of_le hk h0) h.below.size) (fun e => by have := (hr k e.symm).1; omega)⟩
theorem zbl (h : Below W.heap.size W W') : W.grownBy W' none := ⟨h.os, h.tape, h.output, h.size, fun k hk _ => h.block k hk⟩
theorem zz6 {α : Type} {B : Nat} (f : List α → Obj) (hD : D < B) : OwnFrom B (fun s W => W.heap[D]? = some (f s)) := fun _ W W' row h hg hr =>
 (hg.block D (Array.getElem?_eq_some_iff.1 h).1 (fun e => by have := (hr D e.symm).1; omega)).trans h
theorem zz7 {v : Value} {t : TypeId} (h : W.heap[D]? = some (.cells #[v] t (0, 0))) (v' : Value) : (W.setCell ⟨D, 0, none⟩ v').heap[D]? = some (.cells #[v'] t (0, 0)) := by
 obtain ⟨hlt, hk⟩ := Array.getElem?_eq_some_iff.1 h
 show (W.heap.modify D _)[D]? = _
 rw [Array.getElem?_eq_getElem (by rw [Array.size_modify]; exact hlt), Array.getElem_modify_self, hk]
 rfl
theorem ztm {α : Type} {E : Lie α} {base : Nat} {v : Value} {l : List α} (ho : OwnE E W base v l) {k : Nat} {o : Obj} (hk : v.ownBlock = some k) (hb : W.heap[k]? = some o) : o.isCells = true := by
 rcases ho.2 with ⟨rfl, _⟩ | ⟨g, cap, cur, rfl, _, hg, _⟩
 ·
  cases hk
 ·
  have e : g = k := by injection hk
  subst e
  rw [hg] at hb
  cases hb
  rfl
theorem z1h {α β : Type} {E : Lie β} {B base : Nat} (v : List α → Value) (f : List α → List β) : OwnFrom B (fun s W => OwnE E W base (v s) (f s)) := fun _ W W' row h hg hr =>
 zc7 h fun b hb hk => hg.block b hb (fun e => by
  obtain ⟨_, o, ho, hc⟩ := hr b e.symm
  have := ztm h hk ho
  rw [this] at hc; cases hc)
end
section
variable {P : Program} {ops : Array Oper} {rest : List Oper} {o : Oper} {a : Act} {Q : Exit → Act → World → Prop}
theorem znl {F : Fence} {nF : Nat} {α : Type} {E : Lie α} {T : TypeId} (K : Known P E T) (w : World) (hgd : o.guard = none) (s x : Operand)
  (ho : o.op = .call { callee := .builtin .append, args := #[s, x], argTypes := #[T, T] })
  (base : Nat) (v : Value) (k : List α) (hs : a.eval s = v) (hown : OwnE E w base v k) (vx : Value) (l : List α) (hx : a.eval x = vx) (hsl : SlE E w vx l)
  (hlen : k.length + l.length ≤ 1000000) (hbase : base ≤ w.heap.size)
  (h : ∀ v' w', OwnE E w' base v' (k ++ l) → Gr w v w' v' → wpListIn F nF P ops Q rest (a.put o.dst v') w') : wpListIn F nF P ops Q (o :: rest) a w := by
 refine wpListIn_plain hgd fun K' hK' => ?_
 obtain ⟨v', w', hr, h2, h3⟩ := znv K w o.type base v k hown vx l hsl hlen hbase
 unfold Oper.wpIn
 refine ⟨?_, ?_⟩
 ·
  simp [Oper.about, ho, resolve, Target.leads, Sem.run_pure]
 ·
  rw [Oper.semAt_plain F _ _ (by rw [ho]; intro c hc'; cases hc')]
  simp [execOp, ho, resolve, invoke, builtin, hs, hx, hr, Result.andThen]
  exact hK' _ _ (h v' w' h2 h3)
end
end
section
open Go.Shelf
attribute [local go_sem] Oper.semAt_some
@[local go_sem ↓ high] theorem yom {P : Program} (l : Option Nat) (ρ : Operand → Value) (o : Oper) (w : World) (h : ∀ c, o.op ≠ .defer c) : (Oper.semAt l ρ o).run P w = (execOp ρ o).run P w := by rw [Oper.semAt_eq l ρ o h]
theorem yes (t : Tr) (q1 q2 : Option Addr) (m1 c1 m2 c2 : Nat) (i : Int) (w : World) :
  Calls Tryz.prog 104 #[.agg (tr t), .slice q1 m1 c1, .slice q2 m2 c2, .int .i64 i] w fun e w' => e = .returned (.func (.func 141) #[] #[.pointer (some ⟨w.heap.size, 0, none⟩), .pointer (some ⟨w.heap.size + 1, 0, none⟩), .pointer (some ⟨w.heap.size + 1 + 1, 0, none⟩), .pointer (some ⟨w.heap.size + 1 + 1 + 1, 0, none⟩)]) ∧ w' = (((w.alloc (.cells (tr t) 24)).alloc (.cells #[.slice q1 m1 c1] 25)).alloc (.cells #[.slice q2 m2 c2] 79)).alloc (.cells #[.int .i64 i] 3) := by
 go_enter Tryz.func104, Tryz.ntmps104
 go_wp2_with fail
 go_ret
 exact ⟨rfl, rfl⟩
theorem ysx (w : World) (a b c d : Array Value) (s t u v : TypeId) (W : World) (hW : W = (((w.alloc (.cells a s)).alloc (.cells b t)).alloc (.cells c u)).alloc (.cells d v)) : Below w.heap.size w W ∧ W.heap[w.heap.size]? = some (.cells a s (0, 0)) ∧ W.heap[w.heap.size + 1]? = some (.cells b t (0, 0)) ∧ W.heap[w.heap.size + 1 + 1]? = some (.cells c u (0, 0)) ∧ W.heap[w.heap.size + 1 + 1 + 1]? = some (.cells d v (0, 0)) ∧ W.heap.size = w.heap.size + 4 := by
 obtain ⟨V, hV⟩ : ∃ V, V = ((w.alloc (.cells a s)).alloc (.cells b t)).alloc (.cells c u) := ⟨_, rfl⟩
 obtain ⟨hB, h0, h1, h2, hz⟩ := zft w _ _ _ _ _ _ V hV
 rw [← hV] at hW
 subst hW
 have h3 := heap_alloc_last V (.cells d v)
 rw [hz] at h3
 exact ⟨zac hB below1, zab below1 h0, zab below1 h1, zab below1 h2, h3, by simp; omega⟩
def DnTo (l : List Nd) (a : List UInt64) (b : List Bool) (L pre : List Nat) (x : Int) : Prop := (x = -1 ∧ pre = L) ∨ ∃ k : Nat, x = k ∧ k < l.length ∧ L = pre ++ wayN l a b k
theorem z9t {l : List Nd} {a : List UInt64} {b : List Bool} (hm : MayT l) {L pre : List Nat} {k : Nat} (e : L = pre ++ wayN l a b k) : DnTo l a b L (pre ++ [k]) (optZ (zn2 l a b k)) := by
 cases hb : zn2 l a b k with
 | none =>
  refine .inl ⟨rfl, ?_⟩
  have h1 : wayN l a b k = [k] := zwo hb
  rw [e, h1]
 | some c =>
  refine .inr ⟨c, rfl, ykv hb, ?_⟩
  have h1 : wayN l a b k = k :: wayN l a b c := zwp ltS hm hb
  rw [e, h1, List.append_assoc]; rfl
theorem z5j (d : Nat) (hd : 1 ≤ d) (L : List Nat) (D bt : Nat) (p q1 q2 : Option Addr) (n cp c1 c2 : Nat) (l : List Nd) (a : List UInt64) (b : List Bool) (i : Nat) (w0 w : World)
  (h : SlE Ene w0 (.slice p n cp) l) (h1 : SlE Enum w0 (.slice q1 n c1) a) (h2 : SlE Eboo w0 (.slice q2 n c2) b) (hl : l.length = n) (ht : znh l a b = true) (hi : i < n) (hL : L = wayN l a b i) (hw : Below w0.heap.size w0 w) (hDb : D < bt)
  (t0 : w.heap[bt]? = some (.cells (tr ⟨⟨p, n, cp⟩⟩) 24 (0, 0))) (t1 : w.heap[bt + 1]? = some (.cells #[.slice q1 n c1] 25 (0, 0))) (t2 : w.heap[bt + 1 + 1]? = some (.cells #[.slice q2 n c2] 79 (0, 0))) (t3 : w.heap[bt + 1 + 1 + 1]? = some (.cells #[.int .i64 (i : Int)] 3 (0, 0))) :
  SeqStopsK Fence.wide d Tryz.prog 141 #[.pointer (some ⟨bt, 0, none⟩), .pointer (some ⟨bt + 1, 0, none⟩), .pointer (some ⟨bt + 1 + 1, 0, none⟩), .pointer (some ⟨bt + 1 + 1 + 1, 0, none⟩)] (fun x : { x : Nat // x ∈ L } => #[Value.int .i64 (x.1 : Int)]) (But w0.heap.size w.heap.size D) (fun ys => ys.map Subtype.val = L) (fun pre => pre.map Subtype.val <+: L) L.length w := by
 intro lo J Jx W hW hAJ _ hY hJ0
 obtain ⟨hm, hal, hbl⟩ := zl5.1 ht
 have hsz : ∀ {k : Nat} {o : Obj}, w.heap[k]? = some o → k < w.heap.size := fun e => (Array.getElem?_eq_some_iff.1 e).1
 have HT : Hid (∀ W', But w0.heap.size w.heap.size D w W' → W'.heap[bt]? = some (.cells (tr ⟨⟨p, n, cp⟩⟩) 24 (0, 0)) ∧ W'.heap[bt + 1]? = some (.cells #[.slice q1 n c1] 25 (0, 0)) ∧ W'.heap[bt + 1 + 1]? = some (.cells #[.slice q2 n c2] 79 (0, 0)) ∧ W'.heap[bt + 1 + 1 + 1]? = some (.cells #[.int .i64 (i : Int)] 3 (0, 0))) := fun W' g =>
  ⟨g.blk (hsz t0) (by omega) t0, g.blk (hsz t1) (by omega) t1, g.blk (hsz t2) (by omega) t2, g.blk (hsz t3) (by omega) t3⟩
 have HP : Hid (∀ W', But w0.heap.size w.heap.size D w W' → Calls Tryz.prog 142 #[.agg (tr ⟨⟨p, n, cp⟩⟩), .slice q1 n c1, .slice q2 n c2, .int .i64 (i : Int)] W' fun e w' => e = .returned (.bool true) ∧ Below W'.heap.size W' w') := fun W' g => by
  have := zo8 p q1 q2 n cp n c1 n c2 l a b (i : Int) W' (zad (hw.trans g.below) h) hl (hal.trans hl) (hbl.trans hl)
  rwa [zys ht (by omega)] at this
 have HK : Hid (∀ W' (k : Nat), k < n → But w0.heap.size w.heap.size D w W' → Calls Tryz.prog 143 #[.agg (tr ⟨⟨p, n, cp⟩⟩), .slice q1 n c1, .slice q2 n c2, .int .i64 (k : Int)] W' fun e w' => e = .returned (.int .i64 (optZ (zn2 l a b k))) ∧ Below W'.heap.size W' w') := fun W' k hk g =>
  z4z p q1 q2 n cp c1 c2 l a b k W' (zad (hw.trans g.below) h) (zad (hw.trans g.below) h1) (zad (hw.trans g.below) h2) hl ht hk
 have HS : Hid (w0.heap.size ≤ w.heap.size) := hw.size
 have HG0 : Hid (But w0.heap.size w.heap.size D w W) := But.of_below hW HS.out
 have HGZ : Hid (∀ {W1 W' : World}, w.heap.size ≤ W1.heap.size → But w0.heap.size w.heap.size D w W1 → Below W1.heap.size W1 W' → But w0.heap.size w.heap.size D w W') := fun hs g k => g.then k HS.out hs
 have HWs : Hid (w.heap.size ≤ W.heap.size) := hW.size
 have HBT : Hid (∀ {A B C : World}, But w0.heap.size w.heap.size D A B → But w0.heap.size w.heap.size D B C → But w0.heap.size w.heap.size D A C) := fun h k => h.trans k
 have HBS : Hid (∀ W', But w0.heap.size w.heap.size D w W' → w.heap.size ≤ W'.heap.size) := fun W' g => g.below.size
 have HAJ : Hid (∀ pre W1 W', J pre W1 → Below W1.heap.size W1 W' → J pre W') := fun pre W1 W' hj g => hAJ pre W1 W' none hj (zbl g) (fun r e => by cases e)
 have HL := Lib.hid hl
 have HM := Lib.hid hm
 have HI := Lib.hid hi
 have HLL := Lib.hid hL
 have HY := Lib.hid hY
 have HJ0 := Lib.hid hJ0
 clear hsz hl hm hi hL hY hJ0 hW hAJ hal hbl ht t0 t1 t2 t3 h h1 h2 hw hDb
 generalize But w0.heap.size w.heap.size D = BU at *
 refine callsIn_of_wp Tryz.func141 rfl trivial ?_ rfl
 simp only [Tryz.ntmps141, List.size_toArray, List.length_cons, List.length_nil, Nat.reduceAdd, Nat.reduceSub, Array.replicate_succ, Array.replicate_zero, List.push_toArray, List.append_toArray, List.nil_append, List.cons_append]
 obtain ⟨y0, y1, y2, y3⟩ := HT.out W HG0.out
 have z0 := (zaw y0).2.1
 have z1 := (zaj y1).1
 have z2 := (zaj y2).1
 have z3 := (zaj y3).1
 clear y0 y1 y2 y3
 gi_wp2
 refine ⟨trivial, (callsIn_wide.2 (HP.out W HG0.out)).mono ?_⟩
 rintro e W1 ⟨rfl, g1⟩
 have HG1 := Lib.hid (HGZ.out HWs.out HG0.out g1)
 have HJ1 := Lib.hid (HAJ.out _ _ _ HJ0.out g1)
 clear g1 z0 z1 z2 z3
 obtain ⟨_, _, _, y3⟩ := HT.out W1 HG1.out
 have z3 := (zaj y3).1
 clear y3
 gi_wp2
 gi_loopw [6] (fun v wr => ∃ (pre : List { x : Nat // x ∈ L }) (x : Int), v = .int .i64 x ∧ DnTo l a b L (pre.map Subtype.val) x ∧ BU w wr ∧ J pre wr) (fun v _ => wayM n (intOf v))
 case atStart => exact ⟨[], (i : Int), rfl, .inr ⟨i, rfl, by have := HI.out; have := HL.out; omega, HLL.out⟩, HG1.out, HJ1.out⟩
 case round =>
  obtain ⟨pre, x, rfl, hat, hg, hj⟩ := hrel
  have HG := Lib.hid hg
  have HJ := Lib.hid hj
  clear hg hj
  rcases hat with ⟨rfl, hpre⟩ | ⟨k, rfl, hkl, hpre⟩
  ·
   have HE := Lib.hid hpre
   clear hpre
   gi_wp2
   go_end0
   exact ⟨⟨_, rfl⟩, .inl ⟨pre, HE.out, HJ.out⟩⟩
  ·
   obtain ⟨r, hr⟩ := zma (l := l) (lt := zbz) (w := fn a) (leads := bn b) k
   have hr' : wayN l a b k = k :: r := hr
   have HE : Hid (L = pre.map Subtype.val ++ (k :: r)) := by show _ = _; rw [← hr']; exact hpre
   have HIN : Hid (k ∈ L) := by show k ∈ L; rw [HE.out]; simp
   have HST := Lib.hid (z9t HM.out hpre)
   have HKn : Hid (k < n) := by show k < n; have := HL.out; omega
   have HLT : Hid (∀ c, optZ (zn2 l a b k) = (c : Int) → (c : Int) < 0 ∨ (k : Int) < c) := fun c hc => by
    cases hq : zn2 l a b k with
    | none => rw [hq, zyo] at hc; exact .inl (by omega)
    | some m =>
     rw [hq, zqy] at hc
     have := (zmk ltS HM.out hq).1
     exact .inr (by omega)
   have HCk := Lib.hid (fun W' g => HK.out W' k HKn.out g)
   obtain ⟨c, hc⟩ : ∃ c, c = optZ (zn2 l a b k) := ⟨_, rfl⟩
   rw [← hc] at HCk HST HLT
   have t0 : ((k : Int) != -1) = true := by simp
   obtain ⟨fn, tmps, assign, body, hy, hR⟩ := HY.out pre ⟨k, HIN.out⟩ wr HJ.out (by have e := congrArg List.length HE.out; rw [List.length_append, List.length_map, List.length_cons] at e; omega)
   have HRR := Lib.hid hR
   clear hr hr' hpre hkl hR hc
   gi_wp2
   refine HRR.out.mono ?_
   rintro e W3 (⟨rfl, hJ3, hk3⟩ | ⟨rfl, hJx3⟩)
   ·
    have HG3 := Lib.hid (HBT.out HG.out hk3)
    have HJ3 := Lib.hid hJ3
    clear hJ3 hk3
    obtain ⟨y0, y1, y2, y3⟩ := HT.out W3 HG3.out
    have z0 := (zaw y0).2.1
    have z1 := (zaj y1).1
    have z2 := (zaj y2).1
    clear y0 y1 y2 y3
    gi_wp2
    refine ⟨trivial, (callsIn_wide.2 (HCk.out W3 HG3.out)).mono ?_⟩
    rintro e W4 ⟨rfl, g4⟩
    have HG4 := Lib.hid (HGZ.out (HBS.out _ HG3.out) HG3.out g4)
    have HJ4 := Lib.hid (HAJ.out _ _ _ HJ3.out g4)
    clear g4 z0 z1 z2
    gi_wp2
    go_roundw
    case rel => exact ⟨pre ++ [⟨k, HIN.out⟩], c, rfl, by rw [List.map_append]; exact HST.out, HG4.out, HJ4.out⟩
    case measure =>
     have h1 := HLT.out c rfl
     have h2 := HKn.out
     exact yoc h1 h2
   ·
    have HJ3 := Lib.hid hJx3
    clear hJx3
    gi_wp2
    refine bodyPost_ret (results_none rfl _ _ _) rfl ?_
    exact ⟨⟨_, rfl⟩, .inr ⟨pre ++ [⟨k, HIN.out⟩], ⟨r, by have e := HE.out; rw [List.map_append, List.append_assoc]; exact e.symm⟩, HJ3.out⟩⟩
theorem z9u (d : Nat) (hd : 1 ≤ d) (D bt : Nat) (p q1 q2 : Option Addr) (n cp m1 c1 m2 c2 : Nat) (l : List Nd) (a : List UInt64) (b : List Bool) (i : Int) (w0 w : World)
  (h : SlE Ene w0 (.slice p n cp) l) (hl : l.length = n) (ha : a.length = m1) (hb : b.length = m2) (hp : ziq l a b i = false) (hw : Below w0.heap.size w0 w)
  (t0 : w.heap[bt]? = some (.cells (tr ⟨⟨p, n, cp⟩⟩) 24 (0, 0))) (t1 : w.heap[bt + 1]? = some (.cells #[.slice q1 m1 c1] 25 (0, 0))) (t2 : w.heap[bt + 1 + 1]? = some (.cells #[.slice q2 m2 c2] 79 (0, 0))) (t3 : w.heap[bt + 1 + 1 + 1]? = some (.cells #[.int .i64 i] 3 (0, 0))) :
  SeqStopsK Fence.wide d Tryz.prog 141 #[.pointer (some ⟨bt, 0, none⟩), .pointer (some ⟨bt + 1, 0, none⟩), .pointer (some ⟨bt + 1 + 1, 0, none⟩), .pointer (some ⟨bt + 1 + 1 + 1, 0, none⟩)] (fun x : { x : Nat // x ∈ ([] : List Nat) } => #[Value.int .i64 (x.1 : Int)]) (But w0.heap.size w.heap.size D) (fun ys => ys.map Subtype.val = []) (fun pre => pre.map Subtype.val <+: []) 0 w := by
 intro lo J Jx W hW hAJ _ hY hJ0
 have HP : Hid (Calls Tryz.prog 142 #[.agg (tr ⟨⟨p, n, cp⟩⟩), .slice q1 m1 c1, .slice q2 m2 c2, .int .i64 i] W fun e w' => e = .returned (.bool false) ∧ Below W.heap.size W w') := by
  have := zo8 p q1 q2 n cp m1 c1 m2 c2 l a b i W (zad (hw.trans (hW.mono hw.size)) h) hl ha hb
  rwa [hp] at this
 have HAJ : Hid (∀ pre W1 W', J pre W1 → Below W1.heap.size W1 W' → J pre W') := fun pre W1 W' hj g => hAJ pre W1 W' none hj (zbl g) (fun r e => by cases e)
 have HJ0 := Lib.hid hJ0
 have z0 := (zaw (zab hW t0)).2.1
 have z1 := (zaj (zab hW t1)).1
 have z2 := (zaj (zab hW t2)).1
 have z3 := (zaj (zab hW t3)).1
 clear hY hJ0 hW hAJ t0 t1 t2 t3 h hw hl ha hb hp
 refine callsIn_of_wp Tryz.func141 rfl trivial ?_ rfl
 simp only [Tryz.ntmps141, List.size_toArray, List.length_cons, List.length_nil, Nat.reduceAdd, Nat.reduceSub, Array.replicate_succ, Array.replicate_zero, List.push_toArray, List.append_toArray, List.nil_append, List.cons_append]
 gi_wp2
 refine ⟨trivial, (callsIn_wide.2 HP.out).mono ?_⟩
 rintro e W1 ⟨rfl, g1⟩
 have HJ1 := Lib.hid (HAJ.out _ _ _ HJ0.out g1)
 clear g1 z0 z1 z2 z3
 gi_wp2
 refine bodyPost_ret (results_none rfl _ _ _) rfl ?_
 exact ⟨⟨_, rfl⟩, .inl ⟨[], rfl, HJ1.out⟩⟩
def dnL (l : List Nd) (a : List UInt64) (b : List Bool) (i : Int) : List Nat := if ziq l a b i = true then wayN l a b i.toNat else []
def z0x (ks : List Nat) : Int := (ks.map fun k : Nat => (k : Int)).getLastD (-1)
theorem yfx (l : List Nd) (a : List UInt64) (b : List Bool) (i : Int) : zxr l a b i = z0x (dnL l a b i) := by
 unfold zxr dnL z0x
 by_cases hp : ziq l a b i = true
 ·
  rw [if_pos hp, if_pos hp]
  obtain ⟨r, hr⟩ := zma (l := l) (lt := zbz) (w := fn a) (leads := bn b) i.toNat
  have e : zn6 l a b i.toNat = (wayN l a b i.toNat).getLastD i.toNat := rfl
  have hr' : wayN l a b i.toNat = i.toNat :: r := hr
  rw [e]
  rcases List.eq_nil_or_concat (wayN l a b i.toNat) with e0 | ⟨s, x, e0⟩
  ·
   rw [hr'] at e0; cases e0
  ·
   rw [e0, List.concat_eq_append, List.map_append]; simp [List.getLastD_eq_getLast?]
 ·
  rw [if_neg hp, if_neg hp]; rfl
theorem yfy (d : Nat) (hd : 1 ≤ d) (D bt : Nat) (p q1 q2 : Option Addr) (n cp m1 c1 m2 c2 : Nat) (l : List Nd) (a : List UInt64) (b : List Bool) (i : Int) (w0 w : World)
  (h : SlE Ene w0 (.slice p n cp) l) (h1 : SlE Enum w0 (.slice q1 m1 c1) a) (h2 : SlE Eboo w0 (.slice q2 m2 c2) b) (hl : l.length = n) (ha : a.length = m1) (hb : b.length = m2) (hw : Below w0.heap.size w0 w) (hDb : D < bt)
  (t0 : w.heap[bt]? = some (.cells (tr ⟨⟨p, n, cp⟩⟩) 24 (0, 0))) (t1 : w.heap[bt + 1]? = some (.cells #[.slice q1 m1 c1] 25 (0, 0))) (t2 : w.heap[bt + 1 + 1]? = some (.cells #[.slice q2 m2 c2] 79 (0, 0))) (t3 : w.heap[bt + 1 + 1 + 1]? = some (.cells #[.int .i64 i] 3 (0, 0))) :
  SeqStopsK Fence.wide d Tryz.prog 141 #[.pointer (some ⟨bt, 0, none⟩), .pointer (some ⟨bt + 1, 0, none⟩), .pointer (some ⟨bt + 1 + 1, 0, none⟩), .pointer (some ⟨bt + 1 + 1 + 1, 0, none⟩)] (fun x : { x : Nat // x ∈ dnL l a b i } => #[Value.int .i64 (x.1 : Int)]) (But w0.heap.size w.heap.size D) (fun ys => ys.map Subtype.val = dnL l a b i) (fun pre => pre.map Subtype.val <+: dnL l a b i) (dnL l a b i).length w := by
 by_cases hp : ziq l a b i = true
 ·
  have e : dnL l a b i = wayN l a b i.toNat := by unfold dnL; rw [if_pos hp]
  obtain ⟨ht, h0, h3⟩ := zyr.1 hp
  obtain ⟨_, hal, hbl⟩ := zl5.1 ht
  obtain rfl : m1 = n := by omega
  obtain rfl : m2 = m1 := by omega
  obtain ⟨i', rfl⟩ : ∃ i' : Nat, i = i' := ⟨i.toNat, by omega⟩
  rw [Int.toNat_natCast] at e
  exact z5j d hd _ D bt p q1 q2 _ cp c1 c2 l a b i' w0 w h h1 h2 hl ht (by omega) e hw hDb t0 t1 t2 t3
 ·
  have e : dnL l a b i = [] := by unfold dnL; rw [if_neg hp]
  rw [e]
  exact z9u d hd D bt p q1 q2 n cp m1 c1 m2 c2 l a b i w0 w h hl ha hb (by simpa using hp) hw t0 t1 t2 t3
end
end Go.Proofs.YtkalofboioffiaaGreat
