/-
  The best of a node's children, plainly: one child after the other.
  Package best: mayBeTold, isPlace, walked.
  Package best: heavier (and what it hands back), pick, walked.
  Package best: down, and the function that it hands on: whatever loop ranges over it.
  Package best: Kid, Head, walked.
  Package best: Line, All, walked.
-/
import Derived.Test.YtjmpgphoiehdmaaBestQ
import Derived.Test.YtjmpgphoiehdmaaGI
import Derived.Test.YtjmpgphoiehdmaaP06May
import Derived.Test.YtjmpgphoiehdmaaP06Kids
import Derived.Test.YtjmpgphoiehdmaaLeave
import Derived.Test.YtjmpgphoiehdmaaR09Line
import Derived.Test.YtjmpgphoiehdmaaElIn
import Derived.Test.YtjmpgphoiehdmaaW09
namespace Go.Proofs.Ytjmpgphoiehdmaa

def kidsNat (l : List Nd) (i j : Nat) : List Nat := (List.range j).filter fun k => decide ((nd l k).parent = (i : Int))
theorem kidsUp_map (l : List Nd) (i j : Nat) : kidsUp l i j = (kidsNat l i j).map fun k : Nat => (k : Int) := rfl
theorem kidsNat_mem {l : List Nd} {i j k : Nat} (h : k ∈ kidsNat l i j) : k < j := by
  unfold kidsNat at h
  exact List.mem_range.1 (List.mem_filter.1 h).1
def stepO (l : List Nd) (a : List UInt64) (b : List Bool) (o : Option Nat) (k : Nat) : Option Nat :=
  if bn b k = true then (match o with | none => some k | some m => if betterB l lessR (fn a) k m = true then some k else some m) else o
def pickO (l : List Nd) (a : List UInt64) (b : List Bool) (ks : List Nat) : Option Nat := ks.foldl (stepO l a b) none
section
variable {l : List Nd} {a : List UInt64} {b : List Bool}
theorem pick_snoc (ks : List Nat) (k : Nat) : pickO l a b (ks ++ [k]) = stepO l a b (pickO l a b ks) k := by
  unfold pickO
  rw [List.foldl_append]; rfl
theorem step_off {o : Option Nat} {k : Nat} (h : bn b k = false) : stepO l a b o k = o := by
  unfold stepO; rw [h]; rfl
theorem step_first {k : Nat} (h : bn b k = true) : stepO l a b none k = some k := by
  unfold stepO; rw [h]; rfl
theorem step_next {k m : Nat} (h : bn b k = true) : stepO l a b (some m) k = if betterB l lessR (fn a) k m = true then some k else some m := by
  unfold stepO; rw [h]; rfl
theorem pick_up (i : Nat) : ∀ j, pickO l a b (kidsNat l i j) = bestUp l a b i j
  | 0 => rfl
  | j + 1 => by
    have e : kidsNat l i (j + 1) = kidsNat l i j ++ (if (nd l j).parent = (i : Int) then [j] else []) := by
      unfold kidsNat
      rw [List.range_succ, List.filter_append]
      by_cases hp : (nd l j).parent = (i : Int) <;> simp [hp]
    rw [e]
    by_cases hp : (nd l j).parent = (i : Int)
    · rw [if_pos hp, pick_snoc, pick_up i j]
      cases hb : bn b j
      · rw [step_off hb, bestUp_not (by unfold candB; rw [hb, Bool.and_false])]
      · have hc : candB l (bn b) i j = true := by unfold candB; rw [hb, decide_eq_true hp]; rfl
        cases hq : bestUp l a b i j with
        | none => rw [step_first hb, bestUp_first hc hq]
        | some m => rw [step_next hb, bestUp_next hc hq]
    · rw [if_neg hp, List.append_nil, pick_up i j, bestUp_not (by unfold candB; rw [decide_eq_false hp]; rfl)]
theorem step_mem {ks : List Nat} {k m : Nat} {o : Option Nat} (hs : ∀ x, o = some x → x ∈ ks) (h : stepO l a b o k = some m) : m ∈ ks ++ [k] := by
  cases hb : bn b k
  · rw [step_off hb] at h
    exact List.mem_append.2 (.inl (hs m h))
  · cases o with
    | none =>
      rw [step_first hb] at h
      obtain rfl := Option.some.inj h
      simp
    | some x =>
      rw [step_next hb] at h
      split at h
      · obtain rfl := Option.some.inj h
        simp
      · obtain rfl := Option.some.inj h
        exact List.mem_append.2 (.inl (hs x rfl))
theorem pick_mem (ks : List Nat) : ∀ j, j ≤ ks.length → ∀ m, pickO l a b (ks.take j) = some m → m ∈ ks.take j
  | 0, _, m, h => by rw [List.take_zero] at h; cases h
  | j + 1, hj, m, h => by
    have e : ks.take (j + 1) = ks.take j ++ [ks[j]] := by rw [List.take_add_one, List.getElem?_eq_getElem (by omega)]; rfl
    rw [e] at h ⊢
    rw [pick_snoc] at h
    exact step_mem (fun x hx => pick_mem ks j (by omega) x hx) h
/-- One child more. -/
theorem pick_take {ks : List Nat} {j : Nat} (hj : j < ks.length) : pickO l a b (ks.take (j + 1)) = stepO l a b (pickO l a b (ks.take j)) (ks.getD j 0) := by
  have e : ks.take (j + 1) = ks.take j ++ [ks.getD j 0] := by rw [List.take_add_one, List.getD_eq_getElem?_getD, List.getElem?_eq_getElem hj]; rfl
  rw [e, pick_snoc]
end
end Go.Proofs.Ytjmpgphoiehdmaa
namespace Go.Proofs.Ytjmpgphoiehdmaa
open Go.RowKit

set_option maxRecDepth 100000 in
set_option maxHeartbeats 4000000 in
theorem bestTold_n (p q1 q2 : Option Addr) (n cp m1 c1 m2 c2 : Nat) (l : List Nd) (a : List UInt64) (b : List Bool) (w : World) (h : SlE Ene w (.slice p n cp) l) (hl : l.length = n) (ha : a.length = m1) (hb : b.length = m2) :
    Calls Try.prog 26 #[.agg (tr ⟨⟨p, n, cp⟩⟩), .slice q1 m1 c1, .slice q2 m2 c2] w fun e w' => e = .returned (.bool (toldB l a b)) ∧ Below w.heap.size w w' := by
  have HM := Lib.hid (fun W (g : Below w.heap.size w W) => treeMay ⟨p, n, cp⟩ l W (slE_keep g h))
  obtain ⟨r, hr⟩ : ∃ r, r = decide (MayT l) := ⟨_, rfl⟩
  obtain ⟨x, hx⟩ : ∃ x, x = ((m1 : Int) == (n : Int)) := ⟨_, rfl⟩
  obtain ⟨y, hy⟩ : ∃ x, x = ((m2 : Int) == (n : Int)) := ⟨_, rfl⟩
  rw [← hr] at HM
  have HT : Hid (toldB l a b = (r && (x && y))) := by
    show toldB l a b = _
    rw [Bool.eq_iff_iff, told_iff, hr, hx, hy, Bool.and_eq_true, Bool.and_eq_true, decide_eq_true_iff, beq_iff_eq, beq_iff_eq, ha, hb, hl]
    exact ⟨fun h => ⟨h.1, by omega, by omega⟩, fun h => ⟨h.1, by omega, by omega⟩⟩
  rw [HT.out]
  have tx : ((m1 : Int) == (n : Int)) = x := hx.symm
  have ty : ((m2 : Int) == (n : Int)) = y := hy.symm
  obtain ⟨W0, hW0⟩ : ∃ W0, W0 = w.alloc (.cells (tr ⟨⟨p, n, cp⟩⟩) 24) := ⟨_, rfl⟩
  have HB : Hid (Below w.heap.size w W0) := by rw [hW0]; exact below1
  have M0 : Hid (W0.heap[w.heap.size]? = some (.cells (tr ⟨⟨p, n, cp⟩⟩) 24 (0, 0))) := by rw [hW0]; exact heap_alloc_last w _
  have HW := Lib.hid hW0
  clear hW0 h hl ha hb hr hx hy HT
  go_enter Try.func26, Try.ntmps26
  go_wp2_with fail
  rw [← HW.out]
  refine (HM.out W0 HB.out).mono ?_
  rintro e w1 ⟨rfl, g1⟩
  have G1 := Lib.hid (belowT HB.out g1)
  obtain ⟨z0, z1, zl⟩ := tr_cells (blk_keep g1 M0.out)
  dsimp only at z0
  rw [sv_mk] at z0
  clear g1
  cases r
  · go_wp2_with fail
    go_ret
    exact ⟨rfl, G1.out⟩
  · cases x
    · go_wp2_with fail
      go_ret
      exact ⟨rfl, G1.out⟩
    · cases y
      · go_wp2_with fail
        go_ret
        exact ⟨rfl, G1.out⟩
      · go_wp2_with fail
        go_ret
        exact ⟨rfl, G1.out⟩
set_option maxRecDepth 100000 in
set_option maxHeartbeats 4000000 in
theorem bestPlace_n (p q1 q2 : Option Addr) (n cp m1 c1 m2 c2 : Nat) (l : List Nd) (a : List UInt64) (b : List Bool) (i : Int) (w : World) (h : SlE Ene w (.slice p n cp) l) (hl : l.length = n) (ha : a.length = m1) (hb : b.length = m2) :
    Calls Try.prog 27 #[.agg (tr ⟨⟨p, n, cp⟩⟩), .slice q1 m1 c1, .slice q2 m2 c2, .int .i64 i] w fun e w' => e = .returned (.bool (placeB l a b i)) ∧ Below w.heap.size w w' := by
  have HM := Lib.hid (fun W (g : Below w.heap.size w W) => bestTold_n p q1 q2 n cp m1 c1 m2 c2 l a b W (slE_keep g h) hl ha hb)
  obtain ⟨r, hr⟩ : ∃ r, r = toldB l a b := ⟨_, rfl⟩
  rw [← hr] at HM
  obtain ⟨x, hx⟩ : ∃ x, x = placeB l a b i := ⟨_, rfl⟩
  rw [← hx]
  have HX : Hid (x = (r && (decide (0 ≤ i) && decide (i < (n : Int))))) := by rw [hx, hr]; unfold placeB; rw [hl]; rfl
  obtain ⟨W0, hW0⟩ : ∃ W0, W0 = w.alloc (.cells (tr ⟨⟨p, n, cp⟩⟩) 24) := ⟨_, rfl⟩
  have HB : Hid (Below w.heap.size w W0) := by rw [hW0]; exact below1
  have M0 : Hid (W0.heap[w.heap.size]? = some (.cells (tr ⟨⟨p, n, cp⟩⟩) 24 (0, 0))) := by rw [hW0]; exact heap_alloc_last w _
  have HW := Lib.hid hW0
  clear hW0 h hl ha hb hr hx
  go_enter Try.func27, Try.ntmps27
  go_wp2_with fail
  rw [← HW.out]
  refine (HM.out W0 HB.out).mono ?_
  rintro e w1 ⟨rfl, g1⟩
  have G1 := Lib.hid (belowT HB.out g1)
  obtain ⟨z0, z1, zl⟩ := tr_cells (blk_keep g1 M0.out)
  dsimp only at z0
  rw [sv_mk] at z0
  cases r
  · go_wp2_with fail
    go_ret
    exact ⟨by rw [HX.out]; rfl, G1.out⟩
  · by_cases h0 : 0 ≤ i
    · have t0 : decide (0 ≤ i) = true := decide_eq_true h0
      by_cases h1 : i < (n : Int)
      · have t1 : decide (i < (n : Int)) = true := decide_eq_true h1
        have hX : Hid (x = true) := by show x = true; rw [HX.out, t0, t1]; rfl
        clear h0 h1
        go_wp2_with fail
        go_ret
        exact ⟨by rw [hX.out]; first | done | rfl, G1.out⟩
      · have t1 : decide (i < (n : Int)) = false := decide_eq_false h1
        have hX : Hid (x = false) := by show x = false; rw [HX.out, t0, t1]; rfl
        clear h0 h1
        go_wp2_with fail
        go_ret
        exact ⟨by rw [hX.out]; first | done | rfl, G1.out⟩
    · have t0 : decide (0 ≤ i) = false := decide_eq_false h0
      have hX : Hid (x = false) := by show x = false; rw [HX.out, t0]; rfl
      clear h0
      go_wp2_with fail
      go_ret
      exact ⟨by rw [hX.out]; first | done | rfl, G1.out⟩

theorem enters_bestPlace : ∀ args w, (callFunc 27 args).run Try.prog w = .ok (.enter 27 args) w := entersE Try.func27 (by kernel_rfl) (by kernel_rfl)
end Go.Proofs.Ytjmpgphoiehdmaa
namespace Go.Proofs.Ytjmpgphoiehdmaa
open Go.RowKit

set_option maxRecDepth 100000 in
set_option maxHeartbeats 1000000 in
/-- heavier: the tree and the weights are boxed; what is handed back captures both. -/
theorem bestHeavier (t : Tr) (p : Option Addr) (n c : Nat) (w : World) :
    Calls Try.prog 36 #[.agg (tr t), .slice p n c] w fun e w' => e = .returned (.func (.func 38) #[] #[.pointer (some ⟨w.heap.size + 1, 0, none⟩), .pointer (some ⟨w.heap.size, 0, none⟩)]) ∧ w' = (w.alloc (.cells (tr t) 24)).alloc (.cells #[.slice p n c] 25) := by
  go_enter Try.func36, Try.ntmps36
  go_wp2_with fail
  go_ret
  exact ⟨rfl, rfl⟩
theorem enters_rootLessK : ∀ args w, (callFunc 21 args).run Try.prog w = .ok (.enter 21 args) w := entersE Try.func21 (by kernel_rfl) (by kernel_rfl)

set_option maxRecDepth 100000 in
set_option maxHeartbeats 8000000 in
theorem bestIs (bw bt b0 o0 b1 o1 n cp c1 : Nat) (l : List Nd) (a : List UInt64) (x y : Nat) (w : World) (hx : x < n) (hy : y < n) (hl : l.length = n) (ha : a.length = n)
    (M0 : w.heap[bt]? = some (.cells (tr ⟨⟨some ⟨b0, o0, none⟩, n, cp⟩⟩) 24 (0, 0))) (M1 : w.cell? ⟨bw, 0, none⟩ = some (.slice (some ⟨b1, o1, none⟩) n c1)) (x0 : w.rangeAt b0 o0 (cellsE Ene l)) (x1 : w.rangeAt b1 o1 (cellsE Enum a)) :
    Calls Try.prog 38 #[.int .i64 (x : Int), .int .i64 (y : Int), .pointer (some ⟨bw, 0, none⟩), .pointer (some ⟨bt, 0, none⟩)] w fun e w' => e = .returned (.bool (betterB l lessR (fn a) x y)) ∧ Below w.heap.size w w' := by
  have yx := nums_cell x1 (i := x) (by omega)
  have yy := nums_cell x1 (i := y) (by omega)
  have rx := nds_root x0 (i := x) (by omega)
  have ry := nds_root x0 (i := y) (by omega)
  have HLe := Lib.hid (fun W => rootLess (nd l y).root (nd l x).root W)
  obtain ⟨res, hres⟩ : ∃ r, r = betterB l lessR (fn a) x y := ⟨_, rfl⟩
  rw [← hres]
  have HR : Hid (res = (decide (fn a y < fn a x) || (decide (fn a x = fn a y) && lessR (nd l y).root (nd l x).root))) := hres
  obtain ⟨X, hX⟩ : ∃ X, X = fn a x := ⟨_, rfl⟩
  obtain ⟨Y, hY⟩ : ∃ Y, Y = fn a y := ⟨_, rfl⟩
  obtain ⟨rl, hrl⟩ : ∃ rl, rl = lessR (nd l y).root (nd l x).root := ⟨_, rfl⟩
  rw [← hX] at yx HR
  rw [← hY] at yy HR
  rw [← hrl] at HLe HR
  obtain ⟨z0, z1, zl⟩ := tr_cells M0
  dsimp only at z0
  rw [sv_mk] at z0
  have i0 : (0 : Int) ≤ (x : Int) := by omega
  have i1 : (x : Int) < (n : Int) := by omega
  have j0 : (0 : Int) ≤ (y : Int) := by omega
  have j1 : (y : Int) < (n : Int) := by omega
  generalize (nd l x).root = R1 at *
  generalize (nd l y).root = R2 at *
  clear hX hY hrl hres hx hy hl ha M0 x0 x1
  by_cases he : X = Y
  · have t1 : ((X : Int) != (Y : Int)) = false := by rw [bne_eq_false_iff_eq]; omega
    have hX : Hid (res = rl) := by show res = rl; rw [HR.out, decide_eq_false (by omega), decide_eq_true he]; rfl
    clear he HR
    go_enter Try.func38, Try.ntmps38
    go_wp2_with fail
    go_quiet (fail)
    go_wp2_with fail
    have B2 : Hid (Below w.heap.size w (w.drewN nq)) := belowD (Below.refl _ _) nq
    have q0 : (w.drewN nq).cell? ⟨bt, 0, none⟩ = some (.slice (some ⟨b0, o0, none⟩) n cp) := z0
    have s1 : ldA (w.drewN nq) (.pointer (some ⟨b0, o0 + x * 35, none⟩)) 32 = some (rc R1) := rx
    have s2 : ldA (w.drewN nq) (.pointer (some ⟨b0, o0 + y * 35, none⟩)) 32 = some (rc R2) := ry
    clear z0 z1 zl rx ry yx yy t1 M1
    generalize w.drewN nq = wy at *
    have L0 := fun q : Wd wy.drew => wd_cell q0 q
    have L1 := fun q : Wd wy.drew => wd_ld s1 (by decide) q
    have L2 := fun q : Wd wy.drew => wd_ld s2 (by decide) q
    refine wp_region_lex [12] (by kernel_rfl) (by kernel_rfl) (by kernel_rfl) ?_
    repeat (refine wpXL_quiet rfl rfl _ cls_begin ?_; (first | go_big_quiet_step (fail) | quiet_step (fail)); refine wpQuiet_nil ?_)
    refine wpXL_call rfl rfl rfl enters_rootLessK #[.agg (rc R2), .agg (rc R1)] rfl ?_
    refine (HLe.out _).mono ?_
    rintro e u ⟨rfl, g⟩
    refine ⟨_, rfl, g, ?_⟩
    simp only [Act.put, List.setIfInBounds_toArray, List.set_cons_zero, List.set_cons_succ]
    have G3 := Lib.hid (belowT B2.out (belowT (belowD (Below.refl _ _) 1) g))
    clear g
    repeat (refine wpXL_quiet rfl rfl _ cls_begin ?_; (first | go_big_quiet_step (fail) | quiet_step (fail)); refine wpQuiet_nil ?_)
    refine wpXL_nil ?_
    go_wp2_with fail
    go_ret
    exact ⟨by rw [hX.out]; first | done | rfl, G3.out⟩
  · have t1 : ((X : Int) != (Y : Int)) = true := by rw [bne_iff_ne]; omega
    obtain ⟨q, hq⟩ : ∃ q, q = decide (Y < X) := ⟨_, rfl⟩
    have t2 : decide (Y < X) = q := hq.symm
    have t3 : decide ((Y : Int) < (X : Int)) = q := by rw [hq, Bool.eq_iff_iff, decide_eq_true_iff, decide_eq_true_iff]; omega
    have hX : Hid (res = q) := by show res = q; rw [HR.out, ← hq, decide_eq_false he, Bool.false_and, Bool.or_false]
    clear he HR hq
    go_enter Try.func38, Try.ntmps38
    go_wp2_with fail
    go_quiet (fail)
    go_wp2_with fail
    go_quiet (fail)
    go_wp2_with fail
    go_ret
    exact ⟨by rw [hX.out]; first | done | rfl, belowD (belowD (Below.refl _ _) _) _⟩

set_option maxRecDepth 100000 in
set_option maxHeartbeats 16000000 in
/-- pick. -/
theorem bestPick_n (p q1 q2 : Option Addr) (n cp c1 c2 : Nat) (l : List Nd) (a : List UInt64) (b : List Bool) (i : Nat) (w : World) (h : SlE Ene w (.slice p n cp) l) (h1 : SlE Enum w (.slice q1 n c1) a) (h2 : SlE Eboo w (.slice q2 n c2) b) (hl : l.length = n) (ht : toldB l a b = true) (hi : i < n) :
    Calls Try.prog 28 #[.agg (tr ⟨⟨p, n, cp⟩⟩), .slice q1 n c1, .slice q2 n c2, .int .i64 (i : Int)] w fun e w' => e = .returned (.int .i64 (optZ (bestN l a b i))) ∧ Below w.heap.size w w' := by
  obtain ⟨hm, hal, hbl⟩ := told_iff.1 ht
  obtain ⟨res, hres⟩ : ∃ res, res = optZ (bestN l a b i) := ⟨_, rfl⟩
  rw [← hres]
  have HN : Hid (n ≤ 12) := by show n ≤ 12; have := hm.le; omega
  obtain ⟨ks, hks⟩ : ∃ ks, ks = kidsNat l i n := ⟨_, rfl⟩
  have HR : Hid (res = optZ (pickO l a b ks)) := by show res = _; rw [hres, ← bestUp_all, ← pick_up, hl, hks]
  have HKl : Hid (ks.length ≤ n) := by show ks.length ≤ n; rw [hks]; unfold kidsNat; have := List.length_filter_le (fun k => decide ((nd l k).parent = (i : Int))) (List.range n); rwa [List.length_range] at this
  have HM : Hid (∀ k ∈ ks, k < n) := fun k hk => by rw [hks] at hk; exact kidsNat_mem hk
  have HC : Hid (kidsI l (i : Int) = ks.map fun k : Nat => (k : Int)) := by show _ = _; rw [kidsI_nat hm (by omega), kidsUp_map, hl, hks]
  have HK := Lib.hid (fun W (g : Below w.heap.size w W) => treeKids ⟨p, n, cp⟩ l (i : Int) W (slE_keep g h))
  rw [HC.out] at HK
  obtain ⟨W0, hW0⟩ : ∃ W0, W0 = w.alloc (.cells (tr ⟨⟨p, n, cp⟩⟩) 24) := ⟨_, rfl⟩
  have HB : Hid (Below w.heap.size w W0) := by rw [hW0]; exact below1
  have M0 : Hid (W0.heap[w.heap.size]? = some (.cells (tr ⟨⟨p, n, cp⟩⟩) 24 (0, 0))) := by rw [hW0]; exact heap_alloc_last w _
  have HW := Lib.hid hW0
  have HL := Lib.hid hl
  have HA := Lib.hid (hal.trans hl)
  have HBb := Lib.hid (hbl.trans hl)
  obtain ⟨b0, o0, rfl, r0, x0⟩ := slE_ptr h hm.pos
  obtain ⟨b1, o1, rfl, r1, x1⟩ := nums_ptr h1 (by have := hm.pos; omega)
  obtain ⟨b2, o2, rfl, r2, x2⟩ := boos_ptr h2 (by have := hm.pos; omega)
  have X0 := Lib.hid x0
  have X1 := Lib.hid x1
  have X2 := Lib.hid x2
  clear hW0 h h1 h2 hl ht hm hal hbl hres hks hi HC x0 x1 x2 r0 r1 r2
  go_enter Try.func28, Try.ntmps28
  obtain ⟨z0, z1, zl⟩ := tr_cells M0.out
  dsimp only at z0
  rw [sv_mk] at z0
  go_wp2_with fail
  rw [← HW.out]
  clear z0 zl
  go_wp2_with fail
  refine (bestHeavier _ _ _ _ W0).mono ?_
  rintro e w1 ⟨rfl, hw1⟩
  obtain ⟨hB1, hT1, hC1, hz1⟩ := heap2 W0 _ _ _ _ w1 hw1
  have G1 := Lib.hid (belowT HB.out hB1)
  have M1 := Lib.hid (blk_keep hB1 M0.out)
  have HT1 := Lib.hid hT1
  have HC1 := Lib.hid hC1
  clear hw1 hT1 hC1 hz1 z1 hB1
  obtain ⟨z0, z1, zl⟩ := tr_cells M1.out
  clear z0
  go_wp2_with fail
  refine (HK.out w1 G1.out).mono ?_
  rintro e w2 ⟨v, rfl, hv, g2⟩
  obtain ⟨pk, ck, rfl⟩ := ownE_len hv (n := ks.length) (by rw [List.length_map])
  have HV := Lib.hid (ownE_slE hv)
  have G2 := Lib.hid (belowT G1.out g2)
  have HT2 := Lib.hid (blk_keep g2 HT1.out)
  have HC2 := Lib.hid (blk_keep g2 HC1.out)
  clear hv g2 z1 zl
  obtain ⟨m, hm⟩ : ∃ m, m = ks.length := ⟨_, rfl⟩
  rw [← hm] at HV
  rw [← hm]
  have HMl := Lib.hid hm
  have HMn : Hid (m ≤ n) := by show m ≤ n; rw [hm]; exact HKl.out
  clear hm
  go_wp2_with fail
  go_loopw [10, 20] (fun v k wr => ∃ j : Nat, j ≤ m ∧ k = .int .i64 (j : Int) ∧ v = .int .i64 (optZ (pickO l a b (ks.take j))) ∧ Below w2.heap.size w2 wr) (fun _ k _ => m - (intOf k).toNat)
  case atStart => exact ⟨0, Nat.zero_le _, rfl, by rw [List.take_zero]; rfl, Below.refl _ _⟩
  case round =>
    obtain ⟨j, hj, rfl, rfl, hb⟩ := hrel
    have HBB := Lib.hid hb
    have GW := Lib.hid (belowT G2.out hb)
    clear hb
    by_cases hlt : j < m
    · have t0 : decide ((j : Int) < (m : Int)) = true := by rw [decide_eq_true_iff]; omega
      have j0 : (0 : Int) ≤ (j : Int) := by omega
      have j1 : (j : Int) < (m : Int) := by omega
      obtain ⟨b3, o3, rfl, _, x3⟩ := ints_ptr HV.out (by rw [List.length_map, ← HMl.out]; omega)
      have hkl : j < (ks.map fun k : Nat => (k : Int)).length := by rw [List.length_map, ← HMl.out]; exact hlt
      have yk := ints_at (keepR HBB.out x3) (i := j) hkl
      have hke : (ks.map fun k : Nat => (k : Int)).getD j 0 = ((ks.getD j 0 : Nat) : Int) := by
        rw [List.getD_eq_getElem?_getD, List.getElem?_eq_getElem hkl, List.getElem_map, List.getD_eq_getElem?_getD, List.getElem?_eq_getElem (by rw [List.length_map] at hkl; exact hkl)]; rfl
      rw [hke] at yk
      have hmem : ks.getD j 0 ∈ ks := by
        rw [List.getD_eq_getElem?_getD, List.getElem?_eq_getElem (by rw [← HMl.out]; exact hlt)]
        exact List.getElem_mem _
      have HT : Hid (pickO l a b (ks.take (j + 1)) = stepO l a b (pickO l a b (ks.take j)) (ks.getD j 0)) := pick_take (by rw [← HMl.out]; exact hlt)
      have HPm : Hid (∀ x, pickO l a b (ks.take j) = some x → x < n) := fun x hx => HM.out x (List.mem_of_mem_take (pick_mem ks j (by rw [← HMl.out]; omega) x hx))
      obtain ⟨k, hk⟩ : ∃ k, k = ks.getD j 0 := ⟨_, rfl⟩
      rw [← hk] at yk hmem HT
      have HKn : Hid (k < n) := HM.out k hmem
      have k0 : (0 : Int) ≤ (k : Int) := by omega
      have k1 : (k : Int) < (n : Int) := by have := HKn.out; omega
      have yb := boos_cell (keepR GW.out X2.out) (i := k) (by have := HBb.out; have := HKn.out; omega)
      obtain ⟨L, hL⟩ : ∃ L, L = bn b k := ⟨_, rfl⟩
      rw [← hL] at yb
      have HLL := Lib.hid hL
      have HJT := Lib.hid hlt
      have u1 : (j : Int) + 1 < 10000 := by have := HMn.out; have := HN.out; omega
      clear hlt hk hmem hke hkl hL x3
      cases L
      · have HE : Hid (pickO l a b (ks.take (j + 1)) = pickO l a b (ks.take j)) := HT.out.trans (step_off HLL.out.symm)
        go_wp2_with fail
        go_roundw
        case rel => exact ⟨j + 1, HJT.out, by go_num, by rw [HE.out], HBB.out⟩
        case measure => simp [intOf]; have := HJT.out; omega
      · cases hq : pickO l a b (ks.take j) with
        | none =>
          have HE : Hid (pickO l a b (ks.take (j + 1)) = some k) := by show _ = _; rw [HT.out, hq]; exact step_first HLL.out.symm
          clear hq
          rw [optZ_none]
          go_wp2_with fail
          go_roundw
          case rel => exact ⟨j + 1, HJT.out, by go_num, by rw [HE.out, optZ_some], HBB.out⟩
          case measure => simp [intOf]; have := HJT.out; omega
        | some x =>
          have HXn : Hid (x < n) := HPm.out x hq
          have HE : Hid (pickO l a b (ks.take (j + 1)) = if betterB l lessR (fn a) k x = true then some k else some x) := by show _ = _; rw [HT.out, hq]; exact step_next HLL.out.symm
          have HCt := Lib.hid (bestIs (W0.heap.size + 1) W0.heap.size b0 o0 b1 o1 n cp c1 l a k x wr HKn.out HXn.out HL.out HA.out (blk_keep HBB.out HT2.out) (cell_of_box (blk_keep HBB.out HC2.out)).1 (keepR GW.out X0.out) (keepR GW.out X1.out))
          obtain ⟨r, hr⟩ : ∃ r, r = betterB l lessR (fn a) k x := ⟨_, rfl⟩
          rw [← hr] at HE HCt
          have t2 : ((x : Int) == -1) = false := by rw [beq_eq_false_iff_ne]; omega
          clear hq hr
          rw [optZ_some]
          go_wp2_with fail
          refine HCt.out.mono ?_
          rintro e w4 ⟨rfl, g⟩
          have G4 := Lib.hid (belowT HBB.out g)
          clear g yk yb
          cases r
          · go_wp2_with fail
            go_roundw
            case rel => exact ⟨j + 1, HJT.out, by go_num, by rw [HE.out]; rfl, G4.out⟩
            case measure => simp [intOf]; have := HJT.out; omega
          · go_wp2_with fail
            go_roundw
            case rel => exact ⟨j + 1, HJT.out, by go_num, by rw [HE.out]; rfl, G4.out⟩
            case measure => simp [intOf]; have := HJT.out; omega
    · obtain rfl : j = m := by omega
      have t0 : decide ((j : Int) < (j : Int)) = false := decide_eq_false (Int.lt_irrefl _)
      have hX : Hid (res = optZ (pickO l a b (ks.take j))) := by show res = _; rw [HR.out, HMl.out, List.take_length]
      clear hlt
      go_wp2_with fail
      go_ret
      exact ⟨by rw [hX.out]; first | done | rfl, GW.out⟩
end Go.Proofs.Ytjmpgphoiehdmaa
namespace Go.Proofs.Ytjmpgphoiehdmaa
open Go.RowKit Go.Shelf

attribute [local go_sem] Oper.semAt_some
@[local go_sem ↓] theorem semAt_run9 {P : Program} (l : Option Nat) (ρ : Operand → Value) (o : Oper) (w : World) (h : ∀ c, o.op ≠ .defer c) : (Oper.semAt l ρ o).run P w = (execOp ρ o).run P w := by rw [Oper.semAt_eq l ρ o h]

set_option maxRecDepth 100000 in
set_option maxHeartbeats 1000000 in
/-- down: all four arguments are boxed; what is handed on captures them. -/
theorem bestDown (t : Tr) (q1 q2 : Option Addr) (m1 c1 m2 c2 : Nat) (i : Int) (w : World) :
    Calls Try.prog 24 #[.agg (tr t), .slice q1 m1 c1, .slice q2 m2 c2, .int .i64 i] w fun e w' => e = .returned (.func (.func 34) #[] #[.pointer (some ⟨w.heap.size, 0, none⟩), .pointer (some ⟨w.heap.size + 1, 0, none⟩), .pointer (some ⟨w.heap.size + 1 + 1, 0, none⟩), .pointer (some ⟨w.heap.size + 1 + 1 + 1, 0, none⟩)]) ∧ w' = (((w.alloc (.cells (tr t) 24)).alloc (.cells #[.slice q1 m1 c1] 25)).alloc (.cells #[.slice q2 m2 c2] 26)).alloc (.cells #[.int .i64 i] 3) := by
  go_enter Try.func24, Try.ntmps24
  go_wp2_with fail
  go_ret
  exact ⟨rfl, rfl⟩
theorem heap4 (w : World) (a b c d : Array Value) (s t u v : TypeId) (W : World) (hW : W = (((w.alloc (.cells a s)).alloc (.cells b t)).alloc (.cells c u)).alloc (.cells d v)) : Below w.heap.size w W ∧ W.heap[w.heap.size]? = some (.cells a s (0, 0)) ∧ W.heap[w.heap.size + 1]? = some (.cells b t (0, 0)) ∧ W.heap[w.heap.size + 1 + 1]? = some (.cells c u (0, 0)) ∧ W.heap[w.heap.size + 1 + 1 + 1]? = some (.cells d v (0, 0)) ∧ W.heap.size = w.heap.size + 4 := by
  obtain ⟨V, hV⟩ : ∃ V, V = ((w.alloc (.cells a s)).alloc (.cells b t)).alloc (.cells c u) := ⟨_, rfl⟩
  obtain ⟨hB, h0, h1, h2, hz⟩ := heap3 w _ _ _ _ _ _ V hV
  rw [← hV] at hW
  subst hW
  have h3 := heap_alloc_last V (.cells d v)
  rw [hz] at h3
  exact ⟨belowT hB below1, blk_keep below1 h0, blk_keep below1 h1, blk_keep below1 h2, h3, by simp; omega⟩

/-- Where the way down stands: what is handed on so far, and the place that is next. -/
def DnTo (l : List Nd) (a : List UInt64) (b : List Bool) (L pre : List Nat) (x : Int) : Prop := (x = -1 ∧ pre = L) ∨ ∃ k : Nat, x = k ∧ k < l.length ∧ L = pre ++ wayN l a b k
theorem dnTo_step {l : List Nd} {a : List UInt64} {b : List Bool} (hm : MayT l) {L pre : List Nat} {k : Nat} (e : L = pre ++ wayN l a b k) : DnTo l a b L (pre ++ [k]) (optZ (bestN l a b k)) := by
  cases hb : bestN l a b k with
  | none =>
    refine .inl ⟨rfl, ?_⟩
    have h1 : wayN l a b k = [k] := way_none hb
    rw [e, h1]
  | some c =>
    refine .inr ⟨c, rfl, best_bd hb, ?_⟩
    have h1 : wayN l a b k = k :: wayN l a b c := way_some ltS hm hb
    rw [e, h1, List.append_assoc]; rfl

set_option maxRecDepth 100000 in
set_option maxHeartbeats 8000000 in
theorem down_stops (d : Nat) (hd : 1 ≤ d) (L : List Nat) (D bt : Nat) (p q1 q2 : Option Addr) (n cp c1 c2 : Nat) (l : List Nd) (a : List UInt64) (b : List Bool) (i : Nat) (w0 w : World)
    (h : SlE Ene w0 (.slice p n cp) l) (h1 : SlE Enum w0 (.slice q1 n c1) a) (h2 : SlE Eboo w0 (.slice q2 n c2) b) (hl : l.length = n) (ht : toldB l a b = true) (hi : i < n) (hL : L = wayN l a b i) (hw : Below w0.heap.size w0 w) (hDb : D < bt)
    (t0 : w.heap[bt]? = some (.cells (tr ⟨⟨p, n, cp⟩⟩) 24 (0, 0))) (t1 : w.heap[bt + 1]? = some (.cells #[.slice q1 n c1] 25 (0, 0))) (t2 : w.heap[bt + 1 + 1]? = some (.cells #[.slice q2 n c2] 26 (0, 0))) (t3 : w.heap[bt + 1 + 1 + 1]? = some (.cells #[.int .i64 (i : Int)] 3 (0, 0))) :
    SeqStopsK Fence.wide d Try.prog 34 #[.pointer (some ⟨bt, 0, none⟩), .pointer (some ⟨bt + 1, 0, none⟩), .pointer (some ⟨bt + 1 + 1, 0, none⟩), .pointer (some ⟨bt + 1 + 1 + 1, 0, none⟩)] (fun x : { x : Nat // x ∈ L } => #[Value.int .i64 (x.1 : Int)]) (But w0.heap.size w.heap.size D) (fun ys => ys.map Subtype.val = L) (fun pre => pre.map Subtype.val <+: L) L.length w := by
  intro lo J Jx W hW hAJ _ hY hJ0
  obtain ⟨hm, hal, hbl⟩ := told_iff.1 ht
  have hsz : ∀ {k : Nat} {o : Obj}, w.heap[k]? = some o → k < w.heap.size := fun e => (Array.getElem?_eq_some_iff.1 e).1
  have HT : Hid (∀ W', But w0.heap.size w.heap.size D w W' → W'.heap[bt]? = some (.cells (tr ⟨⟨p, n, cp⟩⟩) 24 (0, 0)) ∧ W'.heap[bt + 1]? = some (.cells #[.slice q1 n c1] 25 (0, 0)) ∧ W'.heap[bt + 1 + 1]? = some (.cells #[.slice q2 n c2] 26 (0, 0)) ∧ W'.heap[bt + 1 + 1 + 1]? = some (.cells #[.int .i64 (i : Int)] 3 (0, 0))) := fun W' g =>
    ⟨g.blk (hsz t0) (by omega) t0, g.blk (hsz t1) (by omega) t1, g.blk (hsz t2) (by omega) t2, g.blk (hsz t3) (by omega) t3⟩
  have HP : Hid (∀ W', But w0.heap.size w.heap.size D w W' → Calls Try.prog 27 #[.agg (tr ⟨⟨p, n, cp⟩⟩), .slice q1 n c1, .slice q2 n c2, .int .i64 (i : Int)] W' fun e w' => e = .returned (.bool true) ∧ Below W'.heap.size W' w') := fun W' g => by
    have := bestPlace_n p q1 q2 n cp n c1 n c2 l a b (i : Int) W' (slE_keep (hw.trans g.below) h) hl (hal.trans hl) (hbl.trans hl)
    rwa [place_nat ht (by omega)] at this
  have HK : Hid (∀ W' (k : Nat), k < n → But w0.heap.size w.heap.size D w W' → Calls Try.prog 28 #[.agg (tr ⟨⟨p, n, cp⟩⟩), .slice q1 n c1, .slice q2 n c2, .int .i64 (k : Int)] W' fun e w' => e = .returned (.int .i64 (optZ (bestN l a b k))) ∧ Below W'.heap.size W' w') := fun W' k hk g =>
    bestPick_n p q1 q2 n cp c1 c2 l a b k W' (slE_keep (hw.trans g.below) h) (slE_keep (hw.trans g.below) h1) (slE_keep (hw.trans g.below) h2) hl ht hk
  have HS : Hid (w0.heap.size ≤ w.heap.size) := hw.size
  have HG0 : Hid (But w0.heap.size w.heap.size D w W) := But.of_below hW HS.out
  have HGZ : Hid (∀ {W1 W' : World}, w.heap.size ≤ W1.heap.size → But w0.heap.size w.heap.size D w W1 → Below W1.heap.size W1 W' → But w0.heap.size w.heap.size D w W') := fun hs g k => g.then k HS.out hs
  have HWs : Hid (w.heap.size ≤ W.heap.size) := hW.size
  have HBT : Hid (∀ {A B C : World}, But w0.heap.size w.heap.size D A B → But w0.heap.size w.heap.size D B C → But w0.heap.size w.heap.size D A C) := fun h k => h.trans k
  have HBS : Hid (∀ W', But w0.heap.size w.heap.size D w W' → w.heap.size ≤ W'.heap.size) := fun W' g => g.below.size
  have HAJ : Hid (∀ pre W1 W', J pre W1 → Below W1.heap.size W1 W' → J pre W') := fun pre W1 W' hj g => hAJ pre W1 W' none hj (grown_of_below g) (fun r e => by cases e)
  have HL := Lib.hid hl
  have HM := Lib.hid hm
  have HI := Lib.hid hi
  have HLL := Lib.hid hL
  have HY := Lib.hid hY
  have HJ0 := Lib.hid hJ0
  clear hsz hl hm hi hL hY hJ0 hW hAJ hal hbl ht t0 t1 t2 t3 h h1 h2 hw hDb
  generalize But w0.heap.size w.heap.size D = BU at *
  refine callsIn_of_wp Try.func34 rfl trivial ?_ rfl
  simp only [Try.ntmps34, List.size_toArray, List.length_cons, List.length_nil, Nat.reduceAdd, Nat.reduceSub, Array.replicate_succ, Array.replicate_zero, List.push_toArray, List.append_toArray, List.nil_append, List.cons_append]
  obtain ⟨y0, y1, y2, y3⟩ := HT.out W HG0.out
  have z0 := (tr_cells y0).2.1
  have z1 := (cell_of_box y1).1
  have z2 := (cell_of_box y2).1
  have z3 := (cell_of_box y3).1
  clear y0 y1 y2 y3
  gi_wp2
  refine ⟨trivial, (callsIn_wide.2 (HP.out W HG0.out)).mono ?_⟩
  rintro e W1 ⟨rfl, g1⟩
  have HG1 := Lib.hid (HGZ.out HWs.out HG0.out g1)
  have HJ1 := Lib.hid (HAJ.out _ _ _ HJ0.out g1)
  clear g1 z0 z1 z2 z3
  obtain ⟨_, _, _, y3⟩ := HT.out W1 HG1.out
  have z3 := (cell_of_box y3).1
  clear y3
  gi_wp2
  gi_loopw [6] (fun v wr => ∃ (pre : List { x : Nat // x ∈ L }) (x : Int), v = .int .i64 x ∧ DnTo l a b L (pre.map Subtype.val) x ∧ BU w wr ∧ J pre wr) (fun v _ => wayM n (intOf v))
  case atStart => exact ⟨[], (i : Int), rfl, .inr ⟨i, rfl, by have := HI.out; have := HL.out; omega, HLL.out⟩, HG1.out, HJ1.out⟩
  case round =>
    obtain ⟨pre, x, rfl, hat, hg, hj⟩ := hrel
    have HG := Lib.hid hg
    have HJ := Lib.hid hj
    clear hg hj
    rcases hat with ⟨rfl, hpre⟩ | ⟨k, rfl, hkl, hpre⟩
    · have HE := Lib.hid hpre
      clear hpre
      gi_wp2
      go_end0
      exact ⟨⟨_, rfl⟩, .inl ⟨pre, HE.out, HJ.out⟩⟩
    · obtain ⟨r, hr⟩ := way_head (l := l) (lt := lessR) (w := fn a) (leads := bn b) k
      have hr' : wayN l a b k = k :: r := hr
      have HE : Hid (L = pre.map Subtype.val ++ (k :: r)) := by show _ = _; rw [← hr']; exact hpre
      have HIN : Hid (k ∈ L) := by show k ∈ L; rw [HE.out]; simp
      have HST := Lib.hid (dnTo_step HM.out hpre)
      have HKn : Hid (k < n) := by show k < n; have := HL.out; omega
      have HLT : Hid (∀ c, optZ (bestN l a b k) = (c : Int) → (c : Int) < 0 ∨ (k : Int) < c) := fun c hc => by
        cases hq : bestN l a b k with
        | none => rw [hq, optZ_none] at hc; exact .inl (by omega)
        | some m =>
          rw [hq, optZ_some] at hc
          have := (best_lt ltS HM.out hq).1
          exact .inr (by omega)
      have HCk := Lib.hid (fun W' g => HK.out W' k HKn.out g)
      obtain ⟨c, hc⟩ : ∃ c, c = optZ (bestN l a b k) := ⟨_, rfl⟩
      rw [← hc] at HCk HST HLT
      have t0 : ((k : Int) != -1) = true := by simp
      obtain ⟨fn, tmps, assign, body, hy, hR⟩ := HY.out pre ⟨k, HIN.out⟩ wr HJ.out (by have e := congrArg List.length HE.out; rw [List.length_append, List.length_map, List.length_cons] at e; omega)
      have HRR := Lib.hid hR
      clear hr hr' hpre hkl hR hc
      gi_wp2
      refine HRR.out.mono ?_
      rintro e W3 (⟨rfl, hJ3, hk3⟩ | ⟨rfl, hJx3⟩)
      · have HG3 := Lib.hid (HBT.out HG.out hk3)
        have HJ3 := Lib.hid hJ3
        clear hJ3 hk3
        obtain ⟨y0, y1, y2, y3⟩ := HT.out W3 HG3.out
        have z0 := (tr_cells y0).2.1
        have z1 := (cell_of_box y1).1
        have z2 := (cell_of_box y2).1
        clear y0 y1 y2 y3
        gi_wp2
        refine ⟨trivial, (callsIn_wide.2 (HCk.out W3 HG3.out)).mono ?_⟩
        rintro e W4 ⟨rfl, g4⟩
        have HG4 := Lib.hid (HGZ.out (HBS.out _ HG3.out) HG3.out g4)
        have HJ4 := Lib.hid (HAJ.out _ _ _ HJ3.out g4)
        clear g4 z0 z1 z2
        gi_wp2
        go_roundw
        case rel => exact ⟨pre ++ [⟨k, HIN.out⟩], c, rfl, by rw [List.map_append]; exact HST.out, HG4.out, HJ4.out⟩
        case measure =>
          have h1 := HLT.out c rfl
          have h2 := HKn.out
          exact wayM_lt h1 h2
      · have HJ3 := Lib.hid hJx3
        clear hJx3
        gi_wp2
        refine bodyPost_ret (results_none rfl _ _ _) rfl ?_
        exact ⟨⟨_, rfl⟩, .inr ⟨pre ++ [⟨k, HIN.out⟩], ⟨r, by have e := HE.out; rw [List.map_append, List.append_assoc]; exact e.symm⟩, HJ3.out⟩⟩

set_option maxRecDepth 100000 in
set_option maxHeartbeats 4000000 in
/-- What is no place hands nothing on. -/
theorem down_none (d : Nat) (hd : 1 ≤ d) (D bt : Nat) (p q1 q2 : Option Addr) (n cp m1 c1 m2 c2 : Nat) (l : List Nd) (a : List UInt64) (b : List Bool) (i : Int) (w0 w : World)
    (h : SlE Ene w0 (.slice p n cp) l) (hl : l.length = n) (ha : a.length = m1) (hb : b.length = m2) (hp : placeB l a b i = false) (hw : Below w0.heap.size w0 w)
    (t0 : w.heap[bt]? = some (.cells (tr ⟨⟨p, n, cp⟩⟩) 24 (0, 0))) (t1 : w.heap[bt + 1]? = some (.cells #[.slice q1 m1 c1] 25 (0, 0))) (t2 : w.heap[bt + 1 + 1]? = some (.cells #[.slice q2 m2 c2] 26 (0, 0))) (t3 : w.heap[bt + 1 + 1 + 1]? = some (.cells #[.int .i64 i] 3 (0, 0))) :
    SeqStopsK Fence.wide d Try.prog 34 #[.pointer (some ⟨bt, 0, none⟩), .pointer (some ⟨bt + 1, 0, none⟩), .pointer (some ⟨bt + 1 + 1, 0, none⟩), .pointer (some ⟨bt + 1 + 1 + 1, 0, none⟩)] (fun x : { x : Nat // x ∈ ([] : List Nat) } => #[Value.int .i64 (x.1 : Int)]) (But w0.heap.size w.heap.size D) (fun ys => ys.map Subtype.val = []) (fun pre => pre.map Subtype.val <+: []) 0 w := by
  intro lo J Jx W hW hAJ _ hY hJ0
  have HP : Hid (Calls Try.prog 27 #[.agg (tr ⟨⟨p, n, cp⟩⟩), .slice q1 m1 c1, .slice q2 m2 c2, .int .i64 i] W fun e w' => e = .returned (.bool false) ∧ Below W.heap.size W w') := by
    have := bestPlace_n p q1 q2 n cp m1 c1 m2 c2 l a b i W (slE_keep (hw.trans (hW.mono hw.size)) h) hl ha hb
    rwa [hp] at this
  have HAJ : Hid (∀ pre W1 W', J pre W1 → Below W1.heap.size W1 W' → J pre W') := fun pre W1 W' hj g => hAJ pre W1 W' none hj (grown_of_below g) (fun r e => by cases e)
  have HJ0 := Lib.hid hJ0
  have z0 := (tr_cells (blk_keep hW t0)).2.1
  have z1 := (cell_of_box (blk_keep hW t1)).1
  have z2 := (cell_of_box (blk_keep hW t2)).1
  have z3 := (cell_of_box (blk_keep hW t3)).1
  clear hY hJ0 hW hAJ t0 t1 t2 t3 h hw hl ha hb hp
  refine callsIn_of_wp Try.func34 rfl trivial ?_ rfl
  simp only [Try.ntmps34, List.size_toArray, List.length_cons, List.length_nil, Nat.reduceAdd, Nat.reduceSub, Array.replicate_succ, Array.replicate_zero, List.push_toArray, List.append_toArray, List.nil_append, List.cons_append]
  gi_wp2
  refine ⟨trivial, (callsIn_wide.2 HP.out).mono ?_⟩
  rintro e W1 ⟨rfl, g1⟩
  have HJ1 := Lib.hid (HAJ.out _ _ _ HJ0.out g1)
  clear g1 z0 z1 z2 z3
  gi_wp2
  refine bodyPost_ret (results_none rfl _ _ _) rfl ?_
  exact ⟨⟨_, rfl⟩, .inl ⟨[], rfl, HJ1.out⟩⟩

/-- All that is handed on. -/
def dnL (l : List Nd) (a : List UInt64) (b : List Bool) (i : Int) : List Nat := if placeB l a b i = true then wayN l a b i.toNat else []
theorem dnL_way (l : List Nd) (a : List UInt64) (b : List Bool) (i : Int) : wayZ l a b i = (dnL l a b i).map fun k : Nat => (k : Int) := by
  unfold wayZ dnL
  split <;> rfl
def lastZ (ks : List Nat) : Int := (ks.map fun k : Nat => (k : Int)).getLastD (-1)
theorem dnL_head (l : List Nd) (a : List UInt64) (b : List Bool) (i : Int) : headZ l a b i = lastZ (dnL l a b i) := by
  unfold headZ dnL lastZ
  by_cases hp : placeB l a b i = true
  · rw [if_pos hp, if_pos hp]
    obtain ⟨r, hr⟩ := way_head (l := l) (lt := lessR) (w := fn a) (leads := bn b) i.toNat
    have e : headN l a b i.toNat = (wayN l a b i.toNat).getLastD i.toNat := rfl
    have hr' : wayN l a b i.toNat = i.toNat :: r := hr
    rw [e]
    rcases List.eq_nil_or_concat (wayN l a b i.toNat) with e0 | ⟨s, x, e0⟩
    · rw [hr'] at e0; cases e0
    · rw [e0, List.concat_eq_append, List.map_append]; simp [List.getLastD_eq_getLast?]
  · rw [if_neg hp, if_neg hp]; rfl
theorem dnL_len {l : List Nd} {a : List UInt64} {b : List Bool} {i : Int} : (dnL l a b i).length ≤ 12 := by
  unfold dnL
  by_cases hp : placeB l a b i = true
  · obtain ⟨ht, h0, h1⟩ := place_iff.1 hp
    have hm := (told_iff.1 ht).1
    rw [if_pos hp]
    have := (law_way (w := a) (b := b) hm (i := i.toNat) (by omega)).2.2.2.2.1
    have := hm.le
    omega
  · rw [if_neg hp]; exact Nat.zero_le _
theorem down_all (d : Nat) (hd : 1 ≤ d) (D bt : Nat) (p q1 q2 : Option Addr) (n cp m1 c1 m2 c2 : Nat) (l : List Nd) (a : List UInt64) (b : List Bool) (i : Int) (w0 w : World)
    (h : SlE Ene w0 (.slice p n cp) l) (h1 : SlE Enum w0 (.slice q1 m1 c1) a) (h2 : SlE Eboo w0 (.slice q2 m2 c2) b) (hl : l.length = n) (ha : a.length = m1) (hb : b.length = m2) (hw : Below w0.heap.size w0 w) (hDb : D < bt)
    (t0 : w.heap[bt]? = some (.cells (tr ⟨⟨p, n, cp⟩⟩) 24 (0, 0))) (t1 : w.heap[bt + 1]? = some (.cells #[.slice q1 m1 c1] 25 (0, 0))) (t2 : w.heap[bt + 1 + 1]? = some (.cells #[.slice q2 m2 c2] 26 (0, 0))) (t3 : w.heap[bt + 1 + 1 + 1]? = some (.cells #[.int .i64 i] 3 (0, 0))) :
    SeqStopsK Fence.wide d Try.prog 34 #[.pointer (some ⟨bt, 0, none⟩), .pointer (some ⟨bt + 1, 0, none⟩), .pointer (some ⟨bt + 1 + 1, 0, none⟩), .pointer (some ⟨bt + 1 + 1 + 1, 0, none⟩)] (fun x : { x : Nat // x ∈ dnL l a b i } => #[Value.int .i64 (x.1 : Int)]) (But w0.heap.size w.heap.size D) (fun ys => ys.map Subtype.val = dnL l a b i) (fun pre => pre.map Subtype.val <+: dnL l a b i) (dnL l a b i).length w := by
  by_cases hp : placeB l a b i = true
  · have e : dnL l a b i = wayN l a b i.toNat := by unfold dnL; rw [if_pos hp]
    obtain ⟨ht, h0, h3⟩ := place_iff.1 hp
    obtain ⟨_, hal, hbl⟩ := told_iff.1 ht
    obtain rfl : m1 = n := by omega
    obtain rfl : m2 = m1 := by omega
    obtain ⟨i', rfl⟩ : ∃ i' : Nat, i = i' := ⟨i.toNat, by omega⟩
    rw [Int.toNat_natCast] at e
    exact down_stops d hd _ D bt p q1 q2 _ cp c1 c2 l a b i' w0 w h h1 h2 hl ht (by omega) e hw hDb t0 t1 t2 t3
  · have e : dnL l a b i = [] := by unfold dnL; rw [if_neg hp]
    rw [e]
    exact down_none d hd D bt p q1 q2 n cp m1 c1 m2 c2 l a b i w0 w h hl ha hb (by simpa using hp) hw t0 t1 t2 t3
end Go.Proofs.Ytjmpgphoiehdmaa
namespace Go.Proofs.Ytjmpgphoiehdmaa
open Go.RowKit Go.Shelf

attribute [local go_sem] Oper.semAt_some

set_option maxRecDepth 100000 in
set_option maxHeartbeats 4000000 in
theorem kidP_n (p q1 q2 : Option Addr) (n cp m1 c1 m2 c2 : Nat) (l : List Nd) (a : List UInt64) (b : List Bool) (i : Int) (w : World) (h : SlE Ene w (.slice p n cp) l) (h1 : SlE Enum w (.slice q1 m1 c1) a) (h2 : SlE Eboo w (.slice q2 m2 c2) b) (hl : l.length = n) (ha : a.length = m1) (hb : b.length = m2) :
    Calls Try.prog 15 #[.agg (tr ⟨⟨p, n, cp⟩⟩), .slice q1 m1 c1, .slice q2 m2 c2, .int .i64 i] w fun e w' => e = .returned (.int .i64 (kidZ l a b i)) ∧ Below w.heap.size w w' := by
  have HP := Lib.hid (fun W (g : Below w.heap.size w W) => bestPlace_n p q1 q2 n cp m1 c1 m2 c2 l a b i W (slE_keep g h) hl ha hb)
  have HK : Hid (placeB l a b i = true → ∀ W, Below w.heap.size w W → Calls Try.prog 28 #[.agg (tr ⟨⟨p, n, cp⟩⟩), .slice q1 m1 c1, .slice q2 m2 c2, .int .i64 i] W fun e w' => e = .returned (.int .i64 (kidZ l a b i)) ∧ Below W.heap.size W w') := fun hp W g => by
    obtain ⟨ht, h0, h3⟩ := place_iff.1 hp
    obtain ⟨_, hal, hbl⟩ := told_iff.1 ht
    obtain rfl : m1 = n := by omega
    obtain rfl : m2 = m1 := by omega
    obtain ⟨i', rfl⟩ : ∃ i' : Nat, i = i' := ⟨i.toNat, by omega⟩
    rw [kid_any ht]
    exact bestPick_n p q1 q2 _ cp c1 c2 l a b i' W (slE_keep g h) (slE_keep g h1) (slE_keep g h2) hl ht (by omega)
  have HN : Hid (placeB l a b i = false → kidZ l a b i = -1) := kidZ_not
  obtain ⟨r, hr⟩ : ∃ r, r = placeB l a b i := ⟨_, rfl⟩
  obtain ⟨z, hz⟩ : ∃ z, z = kidZ l a b i := ⟨_, rfl⟩
  rw [← hr] at HP HK HN
  rw [← hz] at HK HN
  rw [← hz]
  obtain ⟨W0, hW0⟩ : ∃ W0, W0 = w.alloc (.cells (tr ⟨⟨p, n, cp⟩⟩) 24) := ⟨_, rfl⟩
  have HB : Hid (Below w.heap.size w W0) := by rw [hW0]; exact below1
  have M0 : Hid (W0.heap[w.heap.size]? = some (.cells (tr ⟨⟨p, n, cp⟩⟩) 24 (0, 0))) := by rw [hW0]; exact heap_alloc_last w _
  have HW := Lib.hid hW0
  clear hW0 h h1 h2 hl ha hb hr hz
  go_enter Try.func15, Try.ntmps15
  go_wp2_with fail
  rw [← HW.out]
  refine (HP.out W0 HB.out).mono ?_
  rintro e w1 ⟨rfl, g1⟩
  have G1 := Lib.hid (belowT HB.out g1)
  have z1 := (tr_cells (blk_keep g1 M0.out)).2.1
  clear g1
  cases r
  · go_wp2_with fail
    go_ret
    exact ⟨by rw [HN.out (by first | rfl | trivial)]; first | done | rfl, G1.out⟩
  · go_wp2_with fail
    refine (HK.out (by first | rfl | trivial) w1 G1.out).mono ?_
    rintro e w2 ⟨rfl, g2⟩
    have G2 := Lib.hid (belowT G1.out g2)
    clear g2 z1
    go_wp2_with fail
    go_ret
    exact ⟨rfl, G2.out⟩
theorem bestKid : KidC := fun s v u l a b i w h h1 h2 => by
  have hl := sv_lenN h
  obtain ⟨p, n, cp⟩ := s
  dsimp only at hl
  have k1 := h1
  have k2 := h2
  obtain ⟨q1, c1, rfl, _⟩ := slE_shape h1
  obtain ⟨q2, c2, rfl, _⟩ := slE_shape h2
  exact kidP_n p q1 q2 n cp _ c1 _ c2 l a b i w h k1 k2 hl rfl rfl

theorem lastZ_snoc (ks : List Nat) (k : Nat) : lastZ (ks ++ [k]) = (k : Int) := by
  unfold lastZ
  rw [List.map_append]; simp [List.getLastD_eq_getLast?]

set_option maxRecDepth 100000 in
set_option maxHeartbeats 4000000 in
theorem headP_n (p q1 q2 : Option Addr) (n cp m1 c1 m2 c2 : Nat) (l : List Nd) (a : List UInt64) (b : List Bool) (i : Int) (w : World) (h : SlE Ene w (.slice p n cp) l) (h1 : SlE Enum w (.slice q1 m1 c1) a) (h2 : SlE Eboo w (.slice q2 m2 c2) b) (hl : l.length = n) (ha : a.length = m1) (hb : b.length = m2) :
    Calls Try.prog 17 #[.agg (tr ⟨⟨p, n, cp⟩⟩), .slice q1 m1 c1, .slice q2 m2 c2, .int .i64 i] w fun e w' => e = .returned (.int .i64 (headZ l a b i)) ∧ Below w.heap.size w w' := by
  obtain ⟨z, hz⟩ : ∃ z, z = headZ l a b i := ⟨_, rfl⟩
  have HZ : Hid (z = lastZ (dnL l a b i)) := by show z = _; rw [hz, dnL_head]
  rw [← hz]
  obtain ⟨W0, hW0⟩ : ∃ W0, W0 = (w.alloc (.cells (tr ⟨⟨p, n, cp⟩⟩) 24)).alloc (.cells #[.int .i64 (-1)] 3) := ⟨_, rfl⟩
  obtain ⟨hB, k0, k1, hz0⟩ := heap2 w _ _ _ _ W0 hW0
  have HB := Lib.hid hB
  have HW := Lib.hid hW0
  have K0 := Lib.hid k0
  have K1 := Lib.hid k1
  have HZ0 := Lib.hid hz0
  have HD := Lib.hid (fun (w2 : World) (bt : Nat) (hw : Below w.heap.size w w2) (hDb : w.heap.size + 1 < bt) => down_all 2 (by omega) (w.heap.size + 1) bt p q1 q2 n cp m1 c1 m2 c2 l a b i w w2 h h1 h2 hl ha hb hw hDb)
  clear hW0 h h1 h2 hl ha hb hz hB k0 k1 hz0
  refine callsIn_wide.1 (callsIn_of_wp_marks (n := 3) Try.func17 rfl trivial (wpIn_wide.2 ?_))
  simp only [Try.ntmps17, List.size_toArray, List.length_cons, List.length_nil, Nat.reduceAdd, Nat.reduceSub, Array.replicate_succ, Array.replicate_zero, List.push_toArray, List.append_toArray, List.nil_append, List.cons_append]
  go_wp2_with fail
  rw [← HW.out]
  have z1 := (tr_cells K0.out).2.1
  go_wp2_with fail
  refine (bestDown _ _ _ _ _ _ _ _ W0).mono ?_
  rintro e w2 ⟨rfl, hw2⟩
  obtain ⟨hB2, t0, t1, t2, t3, hz2⟩ := heap4 W0 _ _ _ _ _ _ _ _ w2 hw2
  have HB2 := Lib.hid hB2
  have HZ2 := Lib.hid hz2
  have HBw : Hid (Below w.heap.size w w2) := belowT HB.out hB2
  have HDn := Lib.hid (HD.out w2 W0.heap.size HBw.out (by have := HZ0.out; omega) t0 t1 t2 t3)
  have HK1 : Hid (w2.heap[w.heap.size + 1]? = some (.cells #[.int .i64 (-1)] 3 (0, 0))) := blk_keep hB2 K1.out
  have HSZ : Hid (w.heap.size ≤ w2.heap.size ∧ w.heap.size + 1 < w2.heap.size) := by show _ ∧ _; have := HZ0.out; omega
  clear hw2 hB2 t0 t1 t2 t3 hz2 z1 HD
  go_wp2_with fail
  refine (wpIn_wide (n := 3)).1 ?_
  refine wpIn_rangeFunc_ownF (w0 := w2) rfl (by omega) (gf := 34) (lb := #[.pointer (some ⟨W0.heap.size, 0, none⟩), .pointer (some ⟨W0.heap.size + 1, 0, none⟩), .pointer (some ⟨W0.heap.size + 1 + 1, 0, none⟩), .pointer (some ⟨W0.heap.size + 1 + 1 + 1, 0, none⟩)]) rfl trivial (entersE Try.func34 (by kernel_rfl) (by kernel_rfl))
    HDn.out butK_t (butK_b HSZ.out.1 (Nat.le_refl _)) (Below.refl _ _) (fun _ => rfl)
    (fun pre W => W.heap[w.heap.size + 1]? = some (.cells #[.int .i64 (lastZ (pre.map Subtype.val))] 3 (0, 0)) ∧ But w.heap.size w2.heap.size (w.heap.size + 1) w2 W)
    (fun _ _ _ => False)
    (OwnFrom.and (blk_own _ HSZ.out.2) (But.own (Nat.le_refl _) (Nat.le_refl _) HSZ.out.1)) (fun _ _ _ _ _ h _ _ => h)
    ⟨HK1.out, But.refl _ _ _ _⟩ ?a1 ?assign ?body ?done ?stop
  case assign =>
    intro lo x W K hK
    gi_wp2
    exact hK
  case body =>
    rintro lo pre x W ⟨hp, hB⟩ hlen
    have HP := Lib.hid hp
    have HBW := Lib.hid hB
    obtain ⟨c1, c2⟩ := cell_of_box hp
    clear hp hB hlen
    gi_wp2
    refine ⟨KeepsOthers.setCell _ _ _, (But.refl _ _ _ _).setCell (Nat.le_succ _) _, ?_, HBW.out.setCell (Nat.le_succ _) _⟩
    rw [List.map_append, List.map_cons, List.map_nil, lastZ_snoc]
    exact box_set HP.out _
  case done =>
    rintro D ys W hD hys ⟨hp, hB⟩ hK
    have hX : Hid (lastZ (ys.map Subtype.val) = z) := by show _ = z; rw [hys, HZ.out]
    rw [hX.out] at hp
    have c1 := (cell_of_box hp).1
    have HBf := Lib.hid (HBw.out.trans hB.below)
    have HKD := Lib.hid hK
    have hDD : Hid (w.heap.size ≤ D) := Nat.le_trans HSZ.out.1 hD
    clear hp hB hK hys hD
    go_wp2_with fail
    exact leave_M (v := .int .i64 z) HKD.out ⟨by simp [results, Try.results17, go_sem], rfl, below_shut HKD.out HBf.out hDD.out⟩
  case stop =>
    rintro D c pre W hD hpre h
    exact h.elim
theorem bestHead : HeadC := fun s v u l a b i w h h1 h2 => by
  have hl := sv_lenN h
  obtain ⟨p, n, cp⟩ := s
  dsimp only at hl
  have k1 := h1
  have k2 := h2
  obtain ⟨q1, c1, rfl, _⟩ := slE_shape h1
  obtain ⟨q2, c2, rfl, _⟩ := slE_shape h2
  exact headP_n p q1 q2 n cp _ c1 _ c2 l a b i w h k1 k2 hl rfl rfl
end Go.Proofs.Ytjmpgphoiehdmaa
namespace Go.Proofs.Ytjmpgphoiehdmaa
open Go.RowKit Go.Shelf

attribute [local go_sem] Oper.semAt_some

def toZ (ks : List Nat) : List Int := ks.map fun k : Nat => (k : Int)
theorem toZ_snoc (ks : List Nat) (k : Nat) : toZ (ks ++ [k]) = toZ ks ++ [(k : Int)] := by unfold toZ; rw [List.map_append]; rfl
theorem toZ_len (ks : List Nat) : (toZ ks).length = ks.length := List.length_map ..
/-- A variable holds a list of the call's own. -/
def Out (D n₀ : Nat) (L : List Int) (W : World) : Prop := ∃ v, W.heap[D]? = some (.cells #[v] 29 (0, 0)) ∧ OwnE Eint W n₀ v L
theorem out_own {α : Type} {B D n₀ : Nat} (f : List α → List Int) (hD : D < B) : OwnFrom B (fun s W => Out D n₀ (f s) W) := fun s W W' row ⟨v, h1, h2⟩ hg hr =>
  ⟨v, blk_own (fun _ : List α => Obj.cells #[v] 29 (0, 0)) hD s W W' row h1 hg hr, own_own (fun _ => v) f s W W' row h2 hg hr⟩
theorem But.grown {s0 n₀ D : Nat} {A W W' : World} {row : Option Nat} (h : But s0 n₀ D A W) (hg : W.grownBy W' row) (hr : ∀ r, row = some r → n₀ ≤ r) (hs : s0 ≤ n₀) (hn : n₀ ≤ W.heap.size) : But s0 n₀ D A W' :=
  h.trans (But.of_below ((Below.refl _ _).grown hg hn hr) hs)

set_option maxRecDepth 100000 in
set_option maxHeartbeats 4000000 in
theorem lineP_n (p q1 q2 : Option Addr) (n cp m1 c1 m2 c2 : Nat) (l : List Nd) (a : List UInt64) (b : List Bool) (i : Int) (w : World) (h : SlE Ene w (.slice p n cp) l) (h1 : SlE Enum w (.slice q1 m1 c1) a) (h2 : SlE Eboo w (.slice q2 m2 c2) b) (hl : l.length = n) (ha : a.length = m1) (hb : b.length = m2) :
    Calls Try.prog 10 #[.agg (tr ⟨⟨p, n, cp⟩⟩), .slice q1 m1 c1, .slice q2 m2 c2, .int .i64 i] w (ListIs (wayZ l a b i) w) := by
  obtain ⟨z, hz⟩ : ∃ z, z = wayZ l a b i := ⟨_, rfl⟩
  have HZ : Hid (z = toZ (dnL l a b i)) := by show z = _; rw [hz, dnL_way]; rfl
  have HN : Hid ((dnL l a b i).length ≤ 12) := dnL_len
  rw [← hz]
  obtain ⟨W0, hW0⟩ : ∃ W0, W0 = (w.alloc (.cells (tr ⟨⟨p, n, cp⟩⟩) 24)).alloc (.cells #[.slice none 0 0] 29) := ⟨_, rfl⟩
  obtain ⟨hB, k0, k1, hz0⟩ := heap2 w _ _ _ _ W0 hW0
  have HB := Lib.hid hB
  have HW := Lib.hid hW0
  have K0 := Lib.hid k0
  have K1 := Lib.hid k1
  have HZ0 := Lib.hid hz0
  have HD := Lib.hid (fun (w2 : World) (bt : Nat) (hw : Below w.heap.size w w2) (hDb : w.heap.size + 1 < bt) => down_all 2 (by omega) (w.heap.size + 1) bt p q1 q2 n cp m1 c1 m2 c2 l a b i w w2 h h1 h2 hl ha hb hw hDb)
  clear hW0 h h1 h2 hl ha hb hz hB k0 k1 hz0
  refine callsIn_wide.1 (callsIn_of_wp_marks (n := 3) Try.func10 rfl trivial (wpIn_wide.2 ?_))
  simp only [Try.ntmps10, List.size_toArray, List.length_cons, List.length_nil, Nat.reduceAdd, Nat.reduceSub, Array.replicate_succ, Array.replicate_zero, List.push_toArray, List.append_toArray, List.nil_append, List.cons_append]
  go_wp2_with fail
  rw [← HW.out]
  have z1 := (tr_cells K0.out).2.1
  go_wp2_with fail
  refine (bestDown _ _ _ _ _ _ _ _ W0).mono ?_
  rintro e w2 ⟨rfl, hw2⟩
  obtain ⟨hB2, t0, t1, t2, t3, hz2⟩ := heap4 W0 _ _ _ _ _ _ _ _ w2 hw2
  have HZ2 := Lib.hid hz2
  have HBw : Hid (Below w.heap.size w w2) := belowT HB.out hB2
  have HDn := Lib.hid (HD.out w2 W0.heap.size HBw.out (by have := HZ0.out; omega) t0 t1 t2 t3)
  have HK1 : Hid (w2.heap[w.heap.size + 1]? = some (.cells #[.slice none 0 0] 29 (0, 0))) := blk_keep hB2 K1.out
  have HSZ : Hid (w.heap.size ≤ w2.heap.size ∧ w.heap.size + 1 < w2.heap.size) := by show _ ∧ _; have := HZ0.out; omega
  clear hw2 hB2 t0 t1 t2 t3 hz2 z1 HD
  go_wp2_with fail
  refine (wpIn_wide (n := 3)).1 ?_
  refine wpIn_rangeFunc_ownF (w0 := w2) rfl (by omega) (gf := 34) (lb := #[.pointer (some ⟨W0.heap.size, 0, none⟩), .pointer (some ⟨W0.heap.size + 1, 0, none⟩), .pointer (some ⟨W0.heap.size + 1 + 1, 0, none⟩), .pointer (some ⟨W0.heap.size + 1 + 1 + 1, 0, none⟩)]) rfl trivial (entersE Try.func34 (by kernel_rfl) (by kernel_rfl))
    HDn.out butK_t (butK_b HSZ.out.1 (Nat.le_refl _)) (Below.refl _ _) (fun _ => rfl)
    (fun pre W => Out (w.heap.size + 1) w2.heap.size (toZ (pre.map Subtype.val)) W ∧ But w.heap.size w2.heap.size (w.heap.size + 1) w2 W)
    (fun _ _ _ => False)
    (OwnFrom.and (out_own _ HSZ.out.2) (But.own (Nat.le_refl _) (Nat.le_refl _) HSZ.out.1)) (fun _ _ _ _ _ h _ _ => h)
    ⟨⟨_, HK1.out, ownE_nil _ _ _⟩, But.refl _ _ _ _⟩ ?a1 ?assign ?body ?done ?stop
  case assign =>
    intro lo x W K hK
    gi_wp2
    exact hK
  case body =>
    rintro lo pre x W ⟨⟨v, hp, ho⟩, hB⟩ hlen
    obtain ⟨k, hk⟩ := x
    have HP := Lib.hid hp
    have HBW := Lib.hid hB
    have HO := Lib.hid ho
    have HE : Hid (toZ ((pre ++ [(⟨k, hk⟩ : { x : Nat // x ∈ dnL l a b i })]).map Subtype.val) = toZ (pre.map Subtype.val) ++ [(k : Int)]) := by show _ = _; rw [List.map_append, List.map_cons, List.map_nil, toZ_snoc]
    obtain ⟨K, hK⟩ : ∃ K, K = toZ (pre.map Subtype.val) := ⟨_, rfl⟩
    have HKl : Hid (K.length ≤ 12) := by show K.length ≤ 12; rw [hK, toZ_len, List.length_map]; have := HN.out; omega
    rw [← hK] at HE HO
    obtain ⟨m, hm⟩ : ∃ m, m = K.length := ⟨_, rfl⟩
    obtain ⟨pv, cv, rfl⟩ := ownE_len HO.out hm.symm
    have HM := Lib.hid hm
    obtain ⟨y1, y2⟩ := cell_of_box hp
    have HBS : Hid (w2.heap.size ≤ W.heap.size) := hB.below.size
    clear hp hB ho hlen hK hm
    show Code.wpIn _ _ _ _ (ownPostK _ _ _ (pre ++ [⟨k, hk⟩]) W) _ W
    gi_wp2_with (gi_at_builtin; refine wpListIn_append_E Kint _ rfl (.tmp 17) (.tmp 19) rfl w2.heap.size _ K rfl (ownE_alloc HO.out _) _ [(k : Int)] rfl (slE_lit _ [(k : Int)] 1 _ _ _ rfl (by simp) rfl) (by have := HKl.out; simp; omega) (by have := HBS.out; simp; omega) ?_; intro v' w' ho' hgr'; obtain ⟨vp, vc, hv⟩ := ownE_len ho' (n := m + 1) (by rw [List.length_append, HM.out]; rfl); rw [hv] at ho' hgr' ⊢; clear hv; have HO' := Lib.hid ho'; have HGR := Lib.hid hgr'; have HNR : Hid (∀ r, (Value.slice pv m cv).ownBlock = some r → w2.heap.size ≤ r) := (fun r e => (ownE_lt HO.out e).1); have HP' : Hid (w'.heap[w.heap.size + 1]? = some (.cells #[.slice pv m cv] 29 (0, 0))) := (hgr'.1.block _ (Nat.lt_of_lt_of_le HSZ.out.2 (Nat.le_trans HBS.out (by simp))) (fun e => by have := HNR.out _ e.symm; have := HSZ.out.2; omega)).trans (blk_keep below1 HP.out); have y3 := (cell_of_box HP'.out).1; have y4 := (cell_of_box HP'.out).2; clear ho' hgr')
    refine ⟨((KeepsOthers.alloc _ _).trans (KeepsOthers.of_grownBy HGR.out.1 (fun j o e hj => own_cellsR (ownE_alloc HO.out _) e hj))).trans (KeepsOthers.setCell _ _ _), ?_, ⟨_, box_set HP'.out _, ?_⟩, ?_⟩
    · exact (((But.refl _ _ _ _).then below1 HSZ.out.1 HBS.out).grown HGR.out.1 HNR.out HSZ.out.1 (by have := HBS.out; simp; omega)).setCell (Nat.le_succ _) _
    · show OwnE Eint _ _ _ (toZ ((pre ++ [(⟨k, hk⟩ : { x : Nat // x ∈ dnL l a b i })]).map Subtype.val))
      rw [HE.out]
      exact ownE_set HO'.out HSZ.out.2 _
    · exact ((HBW.out.then below1 HSZ.out.1 HBS.out).grown HGR.out.1 HNR.out HSZ.out.1 (by have := HBS.out; simp; omega)).setCell (Nat.le_succ _) _
  case done =>
    rintro D ys W hD hys ⟨⟨v, hp, ho⟩, hB⟩ hK
    have hX : Hid (toZ (ys.map Subtype.val) = z) := by show _ = z; rw [hys, HZ.out]
    rw [hX.out] at ho
    obtain ⟨pv, cv, rfl⟩ := ownE_len ho rfl
    have c1 := (cell_of_box hp).1
    have HO := Lib.hid ho
    have HBf := Lib.hid (HBw.out.trans hB.below)
    have HKD := Lib.hid hK
    have HDw := Lib.hid hD
    have hDD : Hid (w.heap.size ≤ D) := Nat.le_trans HSZ.out.1 hD
    clear hp hB hK hys hD ho
    generalize z.length = m at *
    go_wp2_with fail
    exact leave_M (v := .slice pv m cv) HKD.out ⟨by simp [results, Try.results10, go_sem], ⟨_, rfl, ownE_slE (OwnFrom.putObj (own_own (E := Eint) (B := w2.heap.size) (base := w2.heap.size) (fun _ : List Nat => Value.slice pv m cv) (fun _ => z)) (s := []) _ HO.out HDw.out HKD.out rfl), below_shut HKD.out HBf.out hDD.out⟩⟩
  case stop =>
    rintro D c pre W hD hpre h
    exact h.elim
theorem bestLine : LineC := fun s v u l a b i w h h1 h2 => by
  have hl := sv_lenN h
  obtain ⟨p, n, cp⟩ := s
  dsimp only at hl
  have k1 := h1
  have k2 := h2
  obtain ⟨q1, c1, rfl, _⟩ := slE_shape h1
  obtain ⟨q2, c2, rfl, _⟩ := slE_shape h2
  exact lineP_n p q1 q2 n cp _ c1 _ c2 l a b i w h k1 k2 hl rfl rfl

set_option maxRecDepth 100000 in
set_option maxHeartbeats 8000000 in
theorem allP_n (p q1 q2 : Option Addr) (n cp m1 c1 m2 c2 : Nat) (l : List Nd) (a : List UInt64) (b : List Bool) (w : World) (h : SlE Ene w (.slice p n cp) l) (h1 : SlE Enum w (.slice q1 m1 c1) a) (h2 : SlE Eboo w (.slice q2 m2 c2) b) (hl : l.length = n) (ha : a.length = m1) (hb : b.length = m2) :
    Calls Try.prog 13 #[.agg (tr ⟨⟨p, n, cp⟩⟩), .slice q1 m1 c1, .slice q2 m2 c2] w (PairsIs (allZ l a b) w) := by
  have HT := Lib.hid (fun W (g : Below w.heap.size w W) => bestTold_n p q1 q2 n cp m1 c1 m2 c2 l a b W (slE_keep g h) hl ha hb)
  have HK := Lib.hid (fun W (g : Below w.heap.size w W) (i : Int) => kidP_n p q1 q2 n cp m1 c1 m2 c2 l a b i W (slE_keep g h) (slE_keep g h1) (slE_keep g h2) hl ha hb)
  have HH := Lib.hid (fun W (g : Below w.heap.size w W) (i : Int) => headP_n p q1 q2 n cp m1 c1 m2 c2 l a b i W (slE_keep g h) (slE_keep g h1) (slE_keep g h2) hl ha hb)
  have HMn : Hid (toldB l a b = true → n ≤ 12) := fun ht => by have := (told_iff.1 ht).1.le; omega
  obtain ⟨r, hr⟩ : ∃ r, r = toldB l a b := ⟨_, rfl⟩
  rw [← hr] at HT HMn
  have HR := Lib.hid hr
  obtain ⟨W0, hW0⟩ : ∃ W0, W0 = w.alloc (.cells (tr ⟨⟨p, n, cp⟩⟩) 24) := ⟨_, rfl⟩
  have HB : Hid (Below w.heap.size w W0) := by rw [hW0]; exact below1
  have M0 : Hid (W0.heap[w.heap.size]? = some (.cells (tr ⟨⟨p, n, cp⟩⟩) 24 (0, 0))) := by rw [hW0]; exact heap_alloc_last w _
  have HW := Lib.hid hW0
  have HL := Lib.hid hl
  clear hW0 h h1 h2 hl ha hb hr
  go_enter Try.func13, Try.ntmps13
  go_wp2_with fail
  rw [← HW.out]
  refine (HT.out W0 HB.out).mono ?_
  rintro e w1 ⟨rfl, g1⟩
  have G1 := Lib.hid (belowT HB.out g1)
  have M1 := Lib.hid (blk_keep g1 M0.out)
  clear g1
  have HZ : Hid (w.heap.size < w1.heap.size) := (tr_cells M1.out).2.2
  cases r
  · have hX : Hid (allZ l a b = []) := allZ_no HR.out.symm
    go_wp2_with fail
    go_ret
    exact ⟨_, rfl, by rw [hX.out]; exact ownE_nil _ _ _, G1.out⟩
  · have HX : Hid (allZ l a b = allUp l a b n) := by show _ = _; rw [allZ_yes HR.out.symm, HL.out]
    have HN : Hid (n ≤ 12) := HMn.out rfl
    clear HMn
    obtain ⟨z0, z1, zl⟩ := tr_cells M1.out
    dsimp only at z0
    rw [sv_mk] at z0
    go_wp2_with fail
    clear z0 z1 zl
    go_loopw [7, 17] (fun v i wr => ∃ j : Nat, j ≤ n ∧ i = .int .i64 (j : Int) ∧ OwnE Epd wr w1.heap.size v (allUp l a b j) ∧ Below w1.heap.size w1 wr) (fun _ i _ => n - (intOf i).toNat)
    case atStart => exact ⟨0, Nat.zero_le _, rfl, ownE_nil _ _ _, Below.refl _ _⟩
    case round =>
      obtain ⟨j, hj, rfl, hown, hb⟩ := hrel
      have HO := Lib.hid hown
      have HBB := Lib.hid hb
      obtain ⟨z0, z1, zl⟩ := tr_cells (blk_keep hb M1.out)
      dsimp only at z0
      rw [sv_mk] at z0
      obtain ⟨pv, cv, rfl⟩ := ownE_len hown (allUp_len l a b j)
      clear hown hb
      by_cases hlt : j < n
      · have t0 : decide (j < n) = true := decide_eq_true hlt
        have t0' : decide ((j : Int) < (n : Int)) = true := by rw [decide_eq_true_iff]; omega
        have u1 : (j : Int) + 1 < 10000 := by have := HN.out; omega
        have L0 := fun q : WdB w1.heap.size wr.drew => ldA_wdB' (show ldA wr.drew (.pointer (some ⟨w.heap.size, 0, none⟩)) 1 = some (tr ⟨⟨p, n, cp⟩⟩) by rw [ldA_drew]; exact z1) HZ.out q
        have HT2 : Hid (allUp l a b (j + 1) = allUp l a b j ++ [⟨kidZ l a b (j : Int), headZ l a b (j : Int)⟩]) := allUp_succ l a b j
        have HLn := Lib.hid (allUp_len l a b j)
        have HJT := Lib.hid hlt
        clear hlt
        go_wp2_with fail
        clear z0 z1 zl t0 t0'
        refine wp_region_lexB w1.heap.size [5, 10, 11, 12, 13] (by kernel_rfl) (by kernel_rfl) (by kernel_rfl) ?_
        repeat (refine wpXL_quietB rfl rfl ?_; (first | go_big_quiet_step (fail) | quiet_step (fail)); refine wpQuiet_nil ?_)
        refine wpXL_call rfl rfl rfl enters_bestKid #[.agg (tr ⟨⟨p, n, cp⟩⟩), .slice q1 m1 c1, .slice q2 m2 c2, .int .i64 (j : Int)] rfl ?_
        refine (HK.out _ (belowT (belowT G1.out HBB.out) (belowD (Below.refl _ _) 1)) (j : Int)).mono ?_
        rintro e v1 ⟨rfl, g⟩
        have T1 : Hid (Below wr.heap.size wr v1) := belowT (belowD (Below.refl _ _) 1) g
        have B1 : Hid (w1.heap.size ≤ wr.drew.heap.size) := HBB.out.size
        refine ⟨_, rfl, g.mono B1.out, ?_⟩
        simp only [Act.put, List.setIfInBounds_toArray, List.set_cons_zero, List.set_cons_succ]
        clear g
        repeat (refine wpXL_quietB rfl rfl ?_; (first | go_big_quiet_step (fail) | quiet_step (fail)); refine wpQuiet_nil ?_)
        refine wpXL_call rfl rfl rfl enters_bestHead #[.agg (tr ⟨⟨p, n, cp⟩⟩), .slice q1 m1 c1, .slice q2 m2 c2, .int .i64 (j : Int)] rfl ?_
        refine (HH.out _ (belowT (belowT G1.out HBB.out) T1.out) (j : Int)).mono ?_
        rintro e v2 ⟨rfl, g⟩
        have T2 : Hid (Below wr.heap.size wr v2) := belowT T1.out g
        have B2 : Hid (w1.heap.size ≤ v1.heap.size) := Nat.le_trans HBB.out.size T1.out.size
        refine ⟨_, rfl, g.mono B2.out, ?_⟩
        simp only [Act.put, List.setIfInBounds_toArray, List.set_cons_zero, List.set_cons_succ]
        clear g
        repeat (refine wpXL_quietB rfl rfl ?_; (first | go_big_quiet_step (fail) | quiet_step (fail)); refine wpQuiet_nil ?_)
        have BZ : Hid (w1.heap.size ≤ v2.heap.size) := Nat.le_trans HBB.out.size T2.out.size
        have O4 : Hid (OwnE Epd v2 w1.heap.size (.slice pv j cv) (allUp l a b j)) := ownE_keep T2.out HO.out
        generalize kidZ l a b (j : Int) = x1 at *
        generalize headZ l a b (j : Int) = x2 at *
        refine wpXL_eff rfl rfl (.agg (pd ⟨x1, x2⟩)) v2 (by go_simp) (Below.refl _ _) ?_
        simp only [Act.put, List.setIfInBounds_toArray, List.set_cons_zero, List.set_cons_succ]
        repeat (refine wpXL_quietB rfl rfl ?_; (first | go_big_quiet_step (fail) | quiet_step (fail)); refine wpQuiet_nil ?_)
        refine wpXL_eff rfl rfl (.slice (some ⟨v2.heap.size, 0, none⟩) 1 1) (v2.alloc (.cells (pd ⟨x1, x2⟩) 45)) (by go_simp) ((Below.refl _ _).alloc BZ.out _) ?_
        simp only [Act.put, List.setIfInBounds_toArray, List.set_cons_zero, List.set_cons_succ]
        repeat (refine wpXL_quietB rfl rfl ?_; (first | go_big_quiet_step (fail) | quiet_step (fail)); refine wpQuiet_nil ?_)
        have O5 : Hid (OwnE Epd (v2.alloc (.cells (pd ⟨x1, x2⟩) 45)) w1.heap.size (.slice pv j cv) (allUp l a b j)) := ownE_alloc O4.out _
        have B5 : Hid (w1.heap.size ≤ (v2.alloc (.cells (pd ⟨x1, x2⟩) 45)).heap.size) := by show _ ≤ _; have := BZ.out; simp; omega
        refine wpXL_appendE Kpd rfl rfl (.tmp 20) (.tmp 32) rfl w1.heap.size _ (allUp l a b j) rfl O5.out _ [(⟨x1, x2⟩ : Pd)] rfl (slE_lit _ [(⟨x1, x2⟩ : Pd)] 1 _ _ _ rfl (by simp) (by simp [cellsE, Epd, pd_list])) (by have := HLn.out; have := HN.out; have := HJT.out; simp; omega) B5.out (fun v' w' g => g.own O5.out B5.out) ?_
        intro v5 w5 ho5 hg5
        have G5 : Hid (Below w1.heap.size w1 w5) := (HBB.out.trans ((T2.out.mono HBB.out.size).trans (below1.mono BZ.out))).trans (hg5.own O5.out B5.out)
        have HO5 : Hid (OwnE Epd w5 w1.heap.size v5 (allUp l a b (j + 1))) := by show OwnE _ _ _ _ _; rw [HT2.out]; exact ho5
        simp only [Act.put, List.setIfInBounds_toArray, List.set_cons_zero, List.set_cons_succ]
        clear ho5 hg5
        repeat (refine wpXL_quietB rfl rfl ?_; (first | go_big_quiet_step (fail) | quiet_step (fail)); refine wpQuiet_nil ?_)
        refine wpXL_nil ?_
        go_wp2_with fail
        go_roundw
        case rel => exact ⟨j + 1, HJT.out, by go_num, HO5.out, G5.out⟩
        case measure => simp [intOf]; have := HJT.out; omega
      · obtain rfl : j = n := by omega
        have t0 : decide (j < j) = false := decide_eq_false (Nat.lt_irrefl _)
        have t0' : decide ((j : Int) < (j : Int)) = false := decide_eq_false (Int.lt_irrefl _)
        clear hlt
        go_wp2_with fail
        go_ret
        exact ⟨_, rfl, by rw [HX.out]; exact ownE_base HO.out G1.out.size, belowT G1.out HBB.out⟩
theorem bestAll : AllC := fun s v u l a b w h h1 h2 => by
  have hl := sv_lenN h
  obtain ⟨p, n, cp⟩ := s
  dsimp only at hl
  have k1 := h1
  have k2 := h2
  obtain ⟨q1, c1, rfl, _⟩ := slE_shape h1
  obtain ⟨q2, c2, rfl, _⟩ := slE_shape h2
  exact (allP_n p q1 q2 n cp _ c1 _ c2 l a b w h k1 k2 hl rfl rfl).mono fun _ _ h => h.pds
end Go.Proofs.Ytjmpgphoiehdmaa
