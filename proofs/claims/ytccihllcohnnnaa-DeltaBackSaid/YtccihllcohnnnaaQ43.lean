/-
  Package weight: pass of one place, walked.
-/
import Derived.Test.YtccihllcohnnnaaQ41
import Derived.Test.YtccihllcohnnnaaQ30
import Derived.Test.YtccihllcohnnnaaQ42
namespace Go.Proofs.Ytccihllcohnnnaa
open Go.RowKit
set_option maxRecDepth 100000

theorem ch_cells {w : World} {g : Nat} {x : Ch} (h : w.heap[g]? = some (.cells (ch x) 64 (0, 0))) : w.cell? ⟨g, 0, none⟩ = some (sv x.l) ∧ w.cell? ⟨g, 1, none⟩ = some (sv x.more) ∧ w.cell? ⟨g, 2, none⟩ = some (sv x.less) ∧ ldA w (.pointer (some ⟨g, 0, none⟩)) 3 = some (ch x) ∧ g < w.heap.size :=
  ⟨ch_rd0_l h, ch_rd0_more h, ch_rd0_less h, ldA_block h (ch_size x), (Array.getElem?_eq_some_iff.1 h).1⟩
/-- The numbers when all from m on have passed, in a row of the call's own. -/
structure PassM (w0 : World) (g n cp : Nat) (a p q : List UInt64) (m : Nat) (W : World) : Prop where
  below : Below w0.heap.size w0 W
  is : ∃ c, OwnE Enum W w0.heap.size (.slice (some ⟨g, 0, none⟩) n cp) c ∧ PassI n a p q m c

set_option maxRecDepth 100000 in
set_option maxHeartbeats 8000000 in
theorem passAt_rise (bp op np cpp bq oq nq cqq : Nat) (g n cp : Nat) (a p q : List UInt64) (m : Nat) (w0 w : World) (hp : SlE Enum w0 (.slice (some ⟨bp, op, none⟩) np cpp) p) (hq : SlE Enum w0 (.slice (some ⟨bq, oq, none⟩) nq cqq) q) (hpn : np = n) (hqn : nq = n) (h : PassM w0 g n cp a p q (m + 1) w) (hmn : m < n) (hr : fn q m ≤ fn p m) :
    Calls Try.prog 34 #[.agg (ch ⟨⟨some ⟨g, 0, none⟩, n, cp⟩, ⟨some ⟨bp, op, none⟩, np, cpp⟩, ⟨some ⟨bq, oq, none⟩, nq, cqq⟩⟩), .int .i64 (m : Int)] w fun e w' => ∃ ok, e = .returned (.bool ok) ∧ (ok = true → PassM w0 g n cp a p q m w') ∧ (ok = false → oneOk (fn a m) (fn p m) (fn q m) = false ∧ Below w0.heap.size w0 w') := by
  obtain ⟨hb, c, ho, hi⟩ := h
  subst hpn
  obtain rfl : nq = np := hqn
  have hlp : p.length = nq := by obtain ⟨_, _, e, _⟩ := slE_shape hp; injection e with _ e _; exact e.symm
  have hlq : q.length = nq := by obtain ⟨_, _, e, _⟩ := slE_shape hq; injection e with _ e _; exact e.symm
  have hc : c.length = nq := hi.1
  obtain ⟨b1, o1, e1, hb1, x1⟩ := nums_ptr hp (by omega)
  obtain ⟨b2, o2, e2, hb2, x2⟩ := nums_ptr hq (by omega)
  injection e1 with e1
  injection e1 with e1 e1'
  subst e1 e1'
  injection e2 with e2
  injection e2 with e2 e2'
  subst e2 e2'
  have hpa := passI_step hmn hi
  have hpn := passI_not hmn hi
  obtain ⟨x, hx⟩ : ∃ x, x = fn c m := ⟨_, rfl⟩
  obtain ⟨y, hy⟩ : ∃ y, y = fn p m := ⟨_, rfl⟩
  obtain ⟨z, hz⟩ : ∃ z, z = fn q m := ⟨_, rfl⟩
  have bx : x < 18446744073709551616 := by rw [hx]; exact fn_lt _ _
  have bY : y < 18446744073709551616 := by rw [hy]; exact fn_lt _ _
  have bz : z < 18446744073709551616 := by rw [hz]; exact fn_lt _ _
  rw [← hx, ← hy, ← hz] at hpa hpn
  rw [← hy, ← hz] at hr
  obtain ⟨W0, hW0⟩ : ∃ W0, W0 = w.alloc (.cells (ch ⟨⟨some ⟨g, 0, none⟩, nq, cp⟩, ⟨some ⟨bp, op, none⟩, nq, cpp⟩, ⟨some ⟨bq, oq, none⟩, nq, cqq⟩⟩) 64) := ⟨_, rfl⟩
  have HB : Hid (Below w0.heap.size w0 W0) := by rw [hW0]; exact belowT hb below1
  have M0 : Hid (W0.heap[w.heap.size]? = some (.cells (ch ⟨⟨some ⟨g, 0, none⟩, nq, cp⟩, ⟨some ⟨bp, op, none⟩, nq, cpp⟩, ⟨some ⟨bq, oq, none⟩, nq, cqq⟩⟩) 64 (0, 0))) := by rw [hW0]; exact heap_alloc_last w _
  have HO : Hid (OwnE Enum W0 w0.heap.size (.slice (some ⟨g, 0, none⟩) nq cp) c) := by rw [hW0]; exact ownE_alloc ho _
  have HG : Hid (w0.heap.size ≤ g ∧ g < w.heap.size) := ownE_lt ho rfl
  have HW := Lib.hid hW0
  have X1 := Lib.hid x1
  have X2 := Lib.hid x2
  have HC := Lib.hid hc
  have HM2 : Hid (m < c.length ∧ m < p.length ∧ m < q.length) := ⟨by omega, by omega, by omega⟩
  have HX := Lib.hid hx
  have HY := Lib.hid hy
  have HZ := Lib.hid hz
  have i0 : (0 : Int) ≤ (m : Int) := by omega
  have i1 : (m : Int) < (nq : Int) := by omega
  have HPA := Lib.hid hpa
  have HPN := Lib.hid hpn
  have HS := Lib.hid (fun W => numSub y z bY W)
  rw [show lessOk y z = true from decide_eq_true hr, show lessV y z = y - z from if_pos hr] at HS
  have HA := Lib.hid (fun W => numAdd x (y - z) bx (by omega) W)
  rw [(one_rise hr).1, (one_rise hr).2] at HA
  obtain ⟨d, hd⟩ : ∃ d, d = y - z := ⟨_, rfl⟩
  rw [← hd] at HS HA
  have HV := Lib.hid (oneV_lt x y z)
  obtain ⟨v, hv⟩ : ∃ v, v = oneV x y z := ⟨_, rfl⟩
  obtain ⟨ok, hok⟩ : ∃ ok, ok = oneOk x y z := ⟨_, rfl⟩
  rw [← hv, ← hok] at HA
  rw [← hv, ← hok] at HPA
  rw [← hok] at HPN
  rw [← hv] at HV
  clear hW0 hb ho hi hc hx hy hz bx bY bz hp hq hlp hlq hb1 hb2 x1 x2 hpa hpn hr hmn hd hv hok
  go_enter Try.func34, Try.ntmps34
  go_wp2_with fail
  rw [← HW.out]
  have Y0 := ownN_cell HO.out HM2.out.1
  have Y1 := nums_cell (keepR HB.out X1.out) HM2.out.2.1
  have Y2 := nums_cell (keepR HB.out X2.out) HM2.out.2.2
  rw [← HX.out] at Y0
  rw [← HY.out] at Y1
  rw [← HZ.out] at Y2
  obtain ⟨z0, z1, z2, _, zl⟩ := ch_cells M0.out
  dsimp only at z0 z1 z2
  rw [sv_mk] at z0 z1 z2
  have La := fun p : Wd W0.drew => wd_cell z1 p
  have Lb := fun p : Wd W0.drew => wd_cell z2 p
  have Lc := fun p : Wd W0.drew => wd_cell Y1 p
  have Ld := fun p : Wd W0.drew => wd_cell Y2 p
  refine wp_region_lex [10] (by kernel_rfl) (by kernel_rfl) (by kernel_rfl) ?_
  repeat (first | (refine wpXL_quiet rfl rfl _ cls_begin ?_; (first | go_big_quiet_step (fail) | quiet_step (fail)); refine wpQuiet_nil ?_) | refine wpXL_skip rfl ?_)
  refine wpXL_call rfl rfl rfl enters_numSub #[.int .u64 (y : Int), .int .u64 (z : Int)] rfl ?_
  refine (HS.out _).mono ?_
  rintro e w1 ⟨rfl, g⟩
  refine ⟨_, rfl, g, ?_⟩
  simp only [Act.put, List.setIfInBounds_toArray, List.set_cons_zero, List.set_cons_succ]
  have g1 : Below W0.heap.size W0 w1 := belowT (belowD (Below.refl _ _) 1) g
  clear g
  repeat (first | (refine wpXL_quiet rfl rfl _ cls_begin ?_; (first | go_big_quiet_step (fail) | quiet_step (fail)); refine wpQuiet_nil ?_) | refine wpXL_skip rfl ?_)
  refine wpXL_nil ?_
  have G1 := Lib.hid (HB.out.trans (g1.mono HB.out.size))
  have M1 := Lib.hid (blk_keep g1 M0.out)
  have O1 := Lib.hid (ownE_keep g1 HO.out)
  clear La Lb Lc Ld Y0 Y1 Y2 z0 z1 z2 zl g1
  obtain ⟨z0, z1, z2, _, zl⟩ := ch_cells M1.out
  dsimp only at z0 z1 z2
  rw [sv_mk] at z0 z1 z2
  have Y0 := ownN_cell O1.out HM2.out.1
  rw [← HX.out] at Y0
  go_wp2_with fail
  refine (HA.out _).mono ?_
  rintro e w2 ⟨rfl, g2⟩
  have G2 := Lib.hid (belowT G1.out g2)
  have M2 := Lib.hid (blk_keep g2 M1.out)
  have O2 := Lib.hid (ownE_keep g2 O1.out)
  clear z0 z1 z2 zl Y0 g2
  obtain ⟨z0, z1, z2, _, zl⟩ := ch_cells M2.out
  dsimp only at z0 z1 z2
  rw [sv_mk] at z0 z1 z2
  have Y0 := ownN_cell O2.out HM2.out.1
  have Yf := ownN_frozen O2.out HC.out m
  go_wp2_with fail
  go_ret
  exact ⟨ok, rfl, fun e => ⟨G2.out.setCell (p := ⟨g, m, none⟩) HG.out.1 _, _, ownN_put O2.out HC.out m HV.out, HPA.out e⟩, fun e => ⟨by rw [← HY.out, ← HZ.out]; exact HPN.out e, G2.out.setCell (p := ⟨g, m, none⟩) HG.out.1 _⟩⟩

set_option maxRecDepth 100000 in
set_option maxHeartbeats 8000000 in
theorem passAt_fall (bp op np cpp bq oq nq cqq : Nat) (g n cp : Nat) (a p q : List UInt64) (m : Nat) (w0 w : World) (hp : SlE Enum w0 (.slice (some ⟨bp, op, none⟩) np cpp) p) (hq : SlE Enum w0 (.slice (some ⟨bq, oq, none⟩) nq cqq) q) (hpn : np = n) (hqn : nq = n) (h : PassM w0 g n cp a p q (m + 1) w) (hmn : m < n) (hr : ¬ fn q m ≤ fn p m) :
    Calls Try.prog 34 #[.agg (ch ⟨⟨some ⟨g, 0, none⟩, n, cp⟩, ⟨some ⟨bp, op, none⟩, np, cpp⟩, ⟨some ⟨bq, oq, none⟩, nq, cqq⟩⟩), .int .i64 (m : Int)] w fun e w' => ∃ ok, e = .returned (.bool ok) ∧ (ok = true → PassM w0 g n cp a p q m w') ∧ (ok = false → oneOk (fn a m) (fn p m) (fn q m) = false ∧ Below w0.heap.size w0 w') := by
  obtain ⟨hb, c, ho, hi⟩ := h
  subst hpn
  obtain rfl : nq = np := hqn
  have hlp : p.length = nq := by obtain ⟨_, _, e, _⟩ := slE_shape hp; injection e with _ e _; exact e.symm
  have hlq : q.length = nq := by obtain ⟨_, _, e, _⟩ := slE_shape hq; injection e with _ e _; exact e.symm
  have hc : c.length = nq := hi.1
  obtain ⟨b1, o1, e1, hb1, x1⟩ := nums_ptr hp (by omega)
  obtain ⟨b2, o2, e2, hb2, x2⟩ := nums_ptr hq (by omega)
  injection e1 with e1
  injection e1 with e1 e1'
  subst e1 e1'
  injection e2 with e2
  injection e2 with e2 e2'
  subst e2 e2'
  have hpa := passI_step hmn hi
  have hpn := passI_not hmn hi
  obtain ⟨x, hx⟩ : ∃ x, x = fn c m := ⟨_, rfl⟩
  obtain ⟨y, hy⟩ : ∃ y, y = fn p m := ⟨_, rfl⟩
  obtain ⟨z, hz⟩ : ∃ z, z = fn q m := ⟨_, rfl⟩
  have bx : x < 18446744073709551616 := by rw [hx]; exact fn_lt _ _
  have bY : y < 18446744073709551616 := by rw [hy]; exact fn_lt _ _
  have bz : z < 18446744073709551616 := by rw [hz]; exact fn_lt _ _
  rw [← hx, ← hy, ← hz] at hpa hpn
  rw [← hy, ← hz] at hr
  obtain ⟨W0, hW0⟩ : ∃ W0, W0 = w.alloc (.cells (ch ⟨⟨some ⟨g, 0, none⟩, nq, cp⟩, ⟨some ⟨bp, op, none⟩, nq, cpp⟩, ⟨some ⟨bq, oq, none⟩, nq, cqq⟩⟩) 64) := ⟨_, rfl⟩
  have HB : Hid (Below w0.heap.size w0 W0) := by rw [hW0]; exact belowT hb below1
  have M0 : Hid (W0.heap[w.heap.size]? = some (.cells (ch ⟨⟨some ⟨g, 0, none⟩, nq, cp⟩, ⟨some ⟨bp, op, none⟩, nq, cpp⟩, ⟨some ⟨bq, oq, none⟩, nq, cqq⟩⟩) 64 (0, 0))) := by rw [hW0]; exact heap_alloc_last w _
  have HO : Hid (OwnE Enum W0 w0.heap.size (.slice (some ⟨g, 0, none⟩) nq cp) c) := by rw [hW0]; exact ownE_alloc ho _
  have HG : Hid (w0.heap.size ≤ g ∧ g < w.heap.size) := ownE_lt ho rfl
  have HW := Lib.hid hW0
  have X1 := Lib.hid x1
  have X2 := Lib.hid x2
  have HC := Lib.hid hc
  have HM2 : Hid (m < c.length ∧ m < p.length ∧ m < q.length) := ⟨by omega, by omega, by omega⟩
  have HX := Lib.hid hx
  have HY := Lib.hid hy
  have HZ := Lib.hid hz
  have i0 : (0 : Int) ≤ (m : Int) := by omega
  have i1 : (m : Int) < (nq : Int) := by omega
  have HPA := Lib.hid hpa
  have HPN := Lib.hid hpn
  have HS := Lib.hid (fun W => numSub y z bY W)
  rw [show lessOk y z = false from decide_eq_false hr, show lessV y z = 0 from if_neg hr] at HS
  have HD := Lib.hid (fun W => numDown z y bz W)
  rw [show lessV z y = z - y from if_pos (by omega)] at HD
  have HA := Lib.hid (fun W => numSub x (z - y) bx W)
  rw [(one_fall hr bx).1, (one_fall hr bx).2] at HA
  obtain ⟨d, hd⟩ : ∃ d, d = z - y := ⟨_, rfl⟩
  rw [← hd] at HD HA
  have HV := Lib.hid (oneV_lt x y z)
  obtain ⟨v, hv⟩ : ∃ v, v = oneV x y z := ⟨_, rfl⟩
  obtain ⟨ok, hok⟩ : ∃ ok, ok = oneOk x y z := ⟨_, rfl⟩
  rw [← hv, ← hok] at HA
  rw [← hv, ← hok] at HPA
  rw [← hok] at HPN
  rw [← hv] at HV
  clear hW0 hb ho hi hc hx hy hz bx bY bz hp hq hlp hlq hb1 hb2 x1 x2 hpa hpn hr hmn hd hv hok
  go_enter Try.func34, Try.ntmps34
  go_wp2_with fail
  rw [← HW.out]
  have Y0 := ownN_cell HO.out HM2.out.1
  have Y1 := nums_cell (keepR HB.out X1.out) HM2.out.2.1
  have Y2 := nums_cell (keepR HB.out X2.out) HM2.out.2.2
  rw [← HX.out] at Y0
  rw [← HY.out] at Y1
  rw [← HZ.out] at Y2
  obtain ⟨z0, z1, z2, _, zl⟩ := ch_cells M0.out
  dsimp only at z0 z1 z2
  rw [sv_mk] at z0 z1 z2
  have La := fun p : Wd W0.drew => wd_cell z1 p
  have Lb := fun p : Wd W0.drew => wd_cell z2 p
  have Lc := fun p : Wd W0.drew => wd_cell Y1 p
  have Ld := fun p : Wd W0.drew => wd_cell Y2 p
  refine wp_region_lex [10] (by kernel_rfl) (by kernel_rfl) (by kernel_rfl) ?_
  repeat (first | (refine wpXL_quiet rfl rfl _ cls_begin ?_; (first | go_big_quiet_step (fail) | quiet_step (fail)); refine wpQuiet_nil ?_) | refine wpXL_skip rfl ?_)
  refine wpXL_call rfl rfl rfl enters_numSub #[.int .u64 (y : Int), .int .u64 (z : Int)] rfl ?_
  refine (HS.out _).mono ?_
  rintro e w1 ⟨rfl, g⟩
  refine ⟨_, rfl, g, ?_⟩
  simp only [Act.put, List.setIfInBounds_toArray, List.set_cons_zero, List.set_cons_succ]
  have g1 : Below W0.heap.size W0 w1 := belowT (belowD (Below.refl _ _) 1) g
  clear g
  repeat (first | (refine wpXL_quiet rfl rfl _ cls_begin ?_; (first | go_big_quiet_step (fail) | quiet_step (fail)); refine wpQuiet_nil ?_) | refine wpXL_skip rfl ?_)
  refine wpXL_nil ?_
  have G1 := Lib.hid (HB.out.trans (g1.mono HB.out.size))
  have M1 := Lib.hid (blk_keep g1 M0.out)
  have O1 := Lib.hid (ownE_keep g1 HO.out)
  clear La Lb Lc Ld Y0 Y1 Y2 z0 z1 z2 zl g1
  go_wp2_with fail
  obtain ⟨z0, z1, z2, _, zl⟩ := ch_cells M1.out
  dsimp only at z0 z1 z2
  rw [sv_mk] at z0 z1 z2
  have Y0 := ownN_cell O1.out HM2.out.1
  have Y1 := nums_cell (keepR G1.out X1.out) HM2.out.2.1
  have Y2 := nums_cell (keepR G1.out X2.out) HM2.out.2.2
  rw [← HX.out] at Y0
  rw [← HY.out] at Y1
  rw [← HZ.out] at Y2
  have La := fun p : Wd w1.drew => wd_cell z1 p
  have Lb := fun p : Wd w1.drew => wd_cell z2 p
  have Lc := fun p : Wd w1.drew => wd_cell Y1 p
  have Ld := fun p : Wd w1.drew => wd_cell Y2 p
  have Le := fun p : Wd w1.drew => wd_cell z0 p
  have Lf := fun p : Wd w1.drew => wd_cell Y0 p
  refine wp_region_lex [15, 16] (by kernel_rfl) (by kernel_rfl) (by kernel_rfl) ?_
  repeat (first | (refine wpXL_quiet rfl rfl _ cls_begin ?_; (first | go_big_quiet_step (fail) | quiet_step (fail)); refine wpQuiet_nil ?_) | refine wpXL_skip rfl ?_)
  refine wpXL_call rfl rfl rfl enters_numDown #[.int .u64 (z : Int), .int .u64 (y : Int)] rfl ?_
  refine (HD.out _).mono ?_
  rintro e u ⟨rfl, g⟩
  refine ⟨_, rfl, g, ?_⟩
  simp only [Act.put, List.setIfInBounds_toArray, List.set_cons_zero, List.set_cons_succ]
  have g1 : Below w1.heap.size w1 u := belowT (belowD (Below.refl _ _) 1) g
  clear g
  repeat (first | (refine wpXL_quiet rfl rfl _ cls_begin ?_; (first | go_big_quiet_step (fail) | quiet_step (fail)); refine wpQuiet_nil ?_) | refine wpXL_skip rfl ?_)
  refine wpXL_call rfl rfl rfl enters_numSub #[.int .u64 (x : Int), .int .u64 (d : Int)] rfl ?_
  refine (HA.out _).mono ?_
  rintro e w2 ⟨rfl, g⟩
  refine ⟨_, rfl, g, ?_⟩
  simp only [Act.put, List.setIfInBounds_toArray, List.set_cons_zero, List.set_cons_succ]
  have g2 : Below w1.heap.size w1 w2 := belowT g1 g
  clear g g1
  repeat (first | (refine wpXL_quiet rfl rfl _ cls_begin ?_; (first | go_big_quiet_step (fail) | quiet_step (fail)); refine wpQuiet_nil ?_) | refine wpXL_skip rfl ?_)
  refine wpXL_nil ?_
  have G2 := Lib.hid (belowT G1.out g2)
  have M2 := Lib.hid (blk_keep g2 M1.out)
  have O2 := Lib.hid (ownE_keep g2 O1.out)
  clear La Lb Lc Ld Le Lf z0 z1 z2 zl Y0 Y1 Y2 g2
  obtain ⟨z0, z1, z2, _, zl⟩ := ch_cells M2.out
  dsimp only at z0 z1 z2
  rw [sv_mk] at z0 z1 z2
  have Y0 := ownN_cell O2.out HM2.out.1
  have Yf := ownN_frozen O2.out HC.out m
  go_wp2_with fail
  go_ret
  exact ⟨ok, rfl, fun e => ⟨G2.out.setCell (p := ⟨g, m, none⟩) HG.out.1 _, _, ownN_put O2.out HC.out m HV.out, HPA.out e⟩, fun e => ⟨by rw [← HY.out, ← HZ.out]; exact HPN.out e, G2.out.setCell (p := ⟨g, m, none⟩) HG.out.1 _⟩⟩
end Go.Proofs.Ytccihllcohnnnaa
