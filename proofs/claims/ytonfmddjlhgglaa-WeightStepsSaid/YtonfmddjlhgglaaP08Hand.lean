/-
  Package weight: handOn, walked.
-/
import Derived.Test.YtonfmddjlhgglaaWeightH
import Derived.Test.YtonfmddjlhgglaaNumO
import Derived.Test.YtonfmddjlhgglaaP01Num
import Derived.Test.YtonfmddjlhgglaaSm
namespace Go.Proofs.Ytonfmddjlhgglaa
open Go.RowKit

theorem sm_cells {w : World} {g : Nat} {x : Sm} (h : w.heap[g]? = some (.cells (sm x) 41 (0, 0))) : w.cell? ⟨g, 0, none⟩ = some (sv x.t.n) ∧ w.cell? ⟨g, 1, none⟩ = some (sv x.l) ∧ ldA w (.pointer (some ⟨g, 0, none⟩)) 2 = some (sm x) ∧ g < w.heap.size :=
  ⟨sm_rd0_t_n h, sm_rd0_l h, ldA_block h (sm_size x), (Array.getElem?_eq_some_iff.1 h).1⟩
/-- The numbers when all from m on have handed on, in a row of the call's own. -/
structure HandM (w0 : World) (g n cp : Nat) (l : List Nd) (a : List UInt64) (m : Nat) (W : World) : Prop where
  below : Below w0.heap.size w0 W
  is : ∃ c, OwnE Enum W w0.heap.size (.slice (some ⟨g, 0, none⟩) n cp) c ∧ HandI l a m c

set_option maxRecDepth 100000 in
set_option maxHeartbeats 4000000 in
theorem handOn_zero (s : SlV) (g n cp : Nat) (l : List Nd) (a : List UInt64) (w0 w : World) (hm : MayT l) (h : HandM w0 g n cp l a 1 w) :
    Calls Try.prog 21 #[.agg (sm ⟨⟨s⟩, ⟨some ⟨g, 0, none⟩, n, cp⟩⟩), .int .i64 ((0 : Nat) : Int)] w fun e w' => e = .returned (.bool true) ∧ HandM w0 g n cp l a 0 w' := by
  have HH := Lib.hid h
  have HM := Lib.hid hm
  clear h hm
  go_enter Try.func21, Try.ntmps21
  go_wp2_with fail
  go_ret
  obtain ⟨c, h1, h2⟩ := HH.out.is
  exact ⟨rfl, belowT HH.out.below below1, c, ownE_alloc h1 _, handI_zero HM.out h2⟩

set_option maxRecDepth 100000 in
set_option maxHeartbeats 8000000 in
theorem handOn_pos (s : SlV) (g n cp : Nat) (l : List Nd) (a : List UInt64) (m : Nat) (w0 w : World) (hs : SlE Ene w0 (sv s) l) (hl : l.length = n) (hm : MayT l) (h : HandM w0 g n cp l a (m + 1) w) (h0 : 0 < m) (hmn : m < n) :
    Calls Try.prog 21 #[.agg (sm ⟨⟨s⟩, ⟨some ⟨g, 0, none⟩, n, cp⟩⟩), .int .i64 (m : Int)] w fun e w' => ∃ ok, e = .returned (.bool ok) ∧ (ok = true → HandM w0 g n cp l a m w') ∧ (ok = false → subOk l a = false ∧ Below w0.heap.size w0 w') := by
  obtain ⟨hb, c, ho, hi⟩ := h
  obtain ⟨e1, e2, _⟩ := hm.par h0 (by omega)
  obtain ⟨q, hq⟩ : ∃ q, q = up l m := ⟨_, rfl⟩
  have hc : c.length = n := by rw [hi.1, hl]
  obtain ⟨x, hx⟩ : ∃ x, x = fn c q := ⟨_, rfl⟩
  obtain ⟨y, hy⟩ : ∃ y, y = fn c m := ⟨_, rfl⟩
  have HA := Lib.hid (fun W => numAdd x y (by rw [hx]; exact fn_lt _ _) (by rw [hy]; exact fn_lt _ _) W)
  obtain ⟨W0, hW0⟩ : ∃ W0, W0 = w.alloc (.cells (sm ⟨⟨s⟩, ⟨some ⟨g, 0, none⟩, n, cp⟩⟩) 41) := ⟨_, rfl⟩
  have HB : Hid (Below w0.heap.size w0 W0) := by rw [hW0]; exact belowT hb below1
  have M0 : Hid (W0.heap[w.heap.size]? = some (.cells (sm ⟨⟨s⟩, ⟨some ⟨g, 0, none⟩, n, cp⟩⟩) 41 (0, 0))) := by rw [hW0]; exact heap_alloc_last w _
  have HO : Hid (OwnE Enum W0 w0.heap.size (.slice (some ⟨g, 0, none⟩) n cp) c) := by rw [hW0]; exact ownE_alloc ho _
  have HG : Hid (w0.heap.size ≤ g ∧ g < w.heap.size) := ownE_lt ho rfl
  have HW := Lib.hid hW0
  obtain ⟨p, k, cq⟩ := s
  obtain rfl : n = k := by have := sv_lenN hs; dsimp only at this; omega
  obtain ⟨b1, o1, rfl, hb1, x1⟩ := slE_ptr hs (by omega)
  have z4 := nds_par (keepR hb x1) (show m < l.length by omega)
  rw [e1, ← hq] at z4
  have y1 := ownN_cell ho (k := q) (by omega)
  have y2 := ownN_cell ho (k := m) (by omega)
  have l1 : b1 < w.heap.size := by have := hb.size; omega
  have l2 : g < w.heap.size := HG.out.2
  rw [← hx] at y1
  rw [← hy] at y2
  have t0 : ((m : Int) == 0) = false := by rw [beq_eq_false_iff_ne]; omega
  have i0 : (0 : Int) ≤ (m : Int) := by omega
  have i1 : (m : Int) < (n : Int) := by omega
  have i2 : (0 : Int) ≤ (q : Int) := by omega
  have i3 : (q : Int) < (n : Int) := by omega
  have HN := Lib.hid hmn
  have HC := Lib.hid hc
  have HS := Lib.hid (show addOk x y = true → HandI l a m (c.set q (UInt64.ofNat (addV x y))) from fun e => by
    have e' : x + y < 18446744073709551616 := of_decide_eq_true e
    rw [show addV x y = x + y from if_pos e', hx, hy, hq]
    exact handI_step hm h0 (by omega) hi (by rw [hx, hy, hq] at e'; exact e'))
  have HNot := Lib.hid (show addOk x y = false → subOk l a = false from fun e => by
    have e' : ¬ x + y < 18446744073709551616 := of_decide_eq_false e
    exact handI_not hm h0 (by omega) hi (by rw [hx, hy, hq] at e'; exact e'))
  have HX := Lib.hid hx
  have HY := Lib.hid hy
  have HM2 : Hid (m < c.length) := by show m < c.length; omega
  have HQ : Hid (q < c.length) := by show q < c.length; omega
  have HV : Hid (addV x y < 18446744073709551616) := by show addV x y < _; unfold addV; split <;> omega
  obtain ⟨v, hv⟩ : ∃ v, v = addV x y := ⟨_, rfl⟩
  obtain ⟨ok, hok⟩ : ∃ ok, ok = addOk x y := ⟨_, rfl⟩
  rw [← hv, ← hok] at HA
  rw [← hv, ← hok] at HS
  rw [← hok] at HNot
  rw [← hv] at HV
  clear hW0 hb ho hi e1 e2 hq hc hx hy hm hs hl h0 hmn hb1 x1 hv hok
  go_enter Try.func21, Try.ntmps21
  go_wp2_with fail
  rw [← HW.out]
  clear y1 y2
  obtain ⟨z0, z1, _, zl⟩ := sm_cells M0.out
  dsimp only at z0 z1
  rw [sv_mk] at z0 z1
  have y1 := ownN_cell HO.out HQ.out
  have y2 := ownN_cell HO.out HM2.out
  rw [← HX.out] at y1
  rw [← HY.out] at y2
  have La := fun p : Wd W0.drew => wd_cell z1 p
  have Lb := fun p : Wd W0.drew => wd_cell y1 p
  have Lc := fun p : Wd W0.drew => wd_cell y2 p
  refine wp_region_lex [10] (by kernel_rfl) (by kernel_rfl) (by kernel_rfl) ?_
  repeat (first | (refine wpXL_quiet rfl rfl _ cls_begin ?_; (first | go_big_quiet_step (fail) | quiet_step (fail)); refine wpQuiet_nil ?_) | refine wpXL_skip rfl ?_)
  refine wpXL_call rfl rfl rfl enters_numAdd #[.int .u64 (x : Int), .int .u64 (y : Int)] rfl ?_
  refine (HA.out _).mono ?_
  rintro e w1 ⟨rfl, g⟩
  refine ⟨_, rfl, g, ?_⟩
  simp only [Act.put, List.setIfInBounds_toArray, List.set_cons_zero, List.set_cons_succ]
  have g1 : Below W0.heap.size W0 w1 := belowT (belowD (Below.refl _ _) 1) g
  clear g
  repeat (first | (refine wpXL_quiet rfl rfl _ cls_begin ?_; (first | go_big_quiet_step (fail) | quiet_step (fail)); refine wpQuiet_nil ?_) | refine wpXL_skip rfl ?_)
  refine wpXL_nil ?_
  have G1 := Lib.hid (HB.out.trans (g1.mono HB.out.size))
  have O1 := Lib.hid (ownE_keep g1 HO.out)
  clear La Lb Lc y1 y2 z0 z1 zl z4
  obtain ⟨z0, z1, _, zl⟩ := sm_cells (blk_keep g1 M0.out)
  dsimp only at z0 z1
  rw [sv_mk] at z0 z1
  have y1 := ownN_cell O1.out HQ.out
  have y2 := ownN_frozen O1.out HC.out q
  clear g1
  go_wp2_with fail
  go_ret
  exact ⟨ok, rfl, fun e => ⟨G1.out.setCell (p := ⟨g, q, none⟩) HG.out.1 _, _, ownN_put O1.out HC.out q HV.out, HS.out e⟩, fun e => ⟨HNot.out e, G1.out.setCell (p := ⟨g, q, none⟩) HG.out.1 _⟩⟩
theorem enters_handOn : ∀ args w, (callFunc 21 args).run Try.prog w = .ok (.enter 21 args) w := entersE Try.func21 (by kernel_rfl) (by kernel_rfl)
end Go.Proofs.Ytonfmddjlhgglaa
