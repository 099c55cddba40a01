/-
  The law TreeCut, walked (written by wip/gen/lawCut.py).
-/
import Derived.Test.YtnehebipikhejaaLaw06
namespace Go.Proofs.Ytnehebipikhejaa
open Go.RowKit


set_option maxRecDepth 100000 in
set_option maxHeartbeats 4000000 in
theorem treeCutL_no (s : SlV) (l : List Nd) (i a b : Int) (q : UInt64) (w : World) (h : SlE Ene w (sv s) l) (hm : decide (MayT l) = false) :
    Calls Try.prog 7 #[.agg (tr ⟨s⟩), .int .i64 i, .int .i64 a, .int .i64 b, .int .u64 (q.toNat : Int)] w fun e w' => e = .returned (.bool true) ∧ Below w.heap.size w w' := by
  have HM := Lib.hid (fun W (g : Below w.heap.size w W) => treeMay s l W (slE_keep g h))
  rw [hm] at HM
  obtain ⟨W0, hW0⟩ : ∃ W0, W0 = w.alloc (.cells (tr ⟨s⟩) 24) := ⟨_, rfl⟩
  have HB : Hid (Below w.heap.size w W0) := by rw [hW0]; exact below1
  have M0 : Hid (W0.heap[w.heap.size]? = some (.cells (tr ⟨s⟩) 24 (0, 0))) := by rw [hW0]; exact heap_alloc_last w _
  have HW := Lib.hid hW0
  clear hW0 h hm
  go_enter Try.func7, Try.ntmps7
  go_wp2_with fail
  rw [← HW.out]
  refine (awake_any _).mono ?_
  rintro e w1 ⟨rfl, g1⟩
  have G1 := Lib.hid (belowT HB.out g1)
  have z1 := (tr_cells (blk_keep g1 M0.out)).2.1
  clear g1
  go_wp2_with fail
  refine (HM.out w1 G1.out).mono ?_
  rintro e w2 ⟨rfl, g2⟩
  have G2 := Lib.hid (belowT G1.out g2)
  clear g2 z1
  go_wp2_with fail
  go_ret
  exact ⟨rfl, G2.out⟩

set_option maxRecDepth 100000 in
set_option maxHeartbeats 8000000 in
theorem treeCutL_yes (b1 o1 n cp : Nat) (l : List Nd) (i a b : Int) (q : UInt64) (w : World) (h : SlE Ene w (.slice (some ⟨b1, o1, none⟩) n cp) l) (hx : w.rangeAt b1 o1 (cellsE Ene l)) (hl : l.length = n) (hm : MayT l) :
    Calls Try.prog 7 #[.agg (tr ⟨⟨some ⟨b1, o1, none⟩, n, cp⟩⟩), .int .i64 i, .int .i64 a, .int .i64 b, .int .u64 (q.toNat : Int)] w fun e w' => e = .returned (.bool true) ∧ Below w.heap.size w w' := by
  have HM : Hid (∀ W, SlE Ene W (.slice (some ⟨b1, o1, none⟩) n cp) l → Calls Try.prog 24 #[.agg (tr ⟨⟨some ⟨b1, o1, none⟩, n, cp⟩⟩)] W fun e w' => e = .returned (.bool true) ∧ Below W.heap.size W w') := fun W g => by
    have := treeMay ⟨some ⟨b1, o1, none⟩, n, cp⟩ l W g
    rwa [decide_eq_true hm] at this
  have V : Hid (Tv w (w.alloc (.cells (tr ⟨⟨some ⟨b1, o1, none⟩, n, cp⟩⟩) 24)) w.heap.size b1 o1 n cp l) := ⟨heap_alloc_last w _, slE_keep below1 h, keepR below1 hx, below1⟩
  have HL := Lib.hid hl
  have HMm := Lib.hid hm
  clear h hx hl hm
  go_enter Try.func7, Try.ntmps7
  go_wp2_with fail
  refine (awake_any _).mono ?_
  rintro e w1 ⟨rfl, g⟩
  replace V := Lib.hid (V.out.keep g)
  have z0 := V.out.z0
  have z1 := V.out.z1
  clear g
  go_wp2_with fail
  refine (HM.out w1 V.out.s).mono ?_
  rintro e w2 ⟨rfl, g⟩
  replace V := Lib.hid (V.out.keep g)
  replace z0 := V.out.z0
  replace z1 := V.out.z1
  clear g
  by_cases ht0 : i < 0
  · have t0 : decide (i < 0) = true := decide_eq_true ht0
    clear ht0
    go_wp2_with fail
    go_ret
    exact ⟨rfl, V.out.g⟩
  have t0 : decide (i < 0) = false := decide_eq_false ht0
  by_cases ht1 : (n : Int) ≤ i
  · have t1 : decide ((n : Int) ≤ i) = true := decide_eq_true ht1
    clear ht1
    go_wp2_with fail
    go_ret
    exact ⟨rfl, V.out.g⟩
  have t1 : decide ((n : Int) ≤ i) = false := decide_eq_false ht1
  by_cases ht2 : a < 0
  · have t2 : decide (a < 0) = true := decide_eq_true ht2
    clear ht2
    go_wp2_with fail
    go_ret
    exact ⟨rfl, V.out.g⟩
  have t2 : decide (a < 0) = false := decide_eq_false ht2
  by_cases ht3 : b < 0
  · have t3 : decide (b < 0) = true := decide_eq_true ht3
    clear ht3
    go_wp2_with fail
    go_ret
    exact ⟨rfl, V.out.g⟩
  have t3 : decide (b < 0) = false := decide_eq_false ht3
  by_cases ht4 : (n : Int) ≤ a
  · have t4 : decide ((n : Int) ≤ a) = true := decide_eq_true ht4
    clear ht4
    go_wp2_with fail
    go_ret
    exact ⟨rfl, V.out.g⟩
  have t4 : decide ((n : Int) ≤ a) = false := decide_eq_false ht4
  by_cases ht5 : (n : Int) ≤ b
  · have t5 : decide ((n : Int) ≤ b) = true := decide_eq_true ht5
    clear ht5
    go_wp2_with fail
    go_ret
    exact ⟨rfl, V.out.g⟩
  have t5 : decide ((n : Int) ≤ b) = false := decide_eq_false ht5
  obtain ⟨i', rfl⟩ : ∃ i' : Nat, i = i' := ⟨i.toNat, by omega⟩
  obtain ⟨a', rfl⟩ : ∃ a' : Nat, a = a' := ⟨a.toNat, by omega⟩
  obtain ⟨b', rfl⟩ : ∃ b' : Nat, b = b' := ⟨b.toNat, by omega⟩
  have hi : i' < l.length := by have := HL.out; omega
  have t1' : decide (n ≤ i') = false := decide_eq_false (by omega)
  have ha : a' < l.length := by have := HL.out; omega
  have t4' : decide (n ≤ a') = false := decide_eq_false (by omega)
  have hb : b' < l.length := by have := HL.out; omega
  have t5' : decide (n ≤ b') = false := decide_eq_false (by omega)
  have LAW := Lib.hid (law_cut HMm.out (i := i') (a := a') (b := b') (s := q.toNat) hi ha hb)
  have HI := Lib.hid hi
  have Ha := Lib.hid ha
  have Hb := Lib.hid hb
  have ez : Hid (∀ i k : Nat, i < l.length → k < l.length → aboveZ l (i : Int) (k : Int) = aboveT l i k) := fun i k hi hk => aboveZ_nat HMm.out hi hk
  have HCt := Lib.hid (fun W (g : SlE Ene W (.slice (some ⟨b1, o1, none⟩) n cp) l) => treeCut ⟨some ⟨b1, o1, none⟩, n, cp⟩ l (i' : Int) W g)
  rw [cutZ_nat HMm.out hi] at HCt
  obtain ⟨lc, hlc⟩ : ∃ lc, lc = cutL l i' := ⟨_, rfl⟩
  have law := LAW.out
  rw [← hlc] at HCt law
  clear LAW hlc ht0 ht1 ht2 ht3 ht4 ht5 hi ha hb
  obtain ⟨hmc, hroot, hcase⟩ := law
  have HMc := Lib.hid hmc
  have HRoot := Lib.hid hroot
  have HCase := Lib.hid hcase
  have i0 : (0 : Int) ≤ (i' : Int) := by omega
  have i1 : (i' : Int) < (n : Int) := by have := HI.out; have := HL.out; omega
  have a0 : (0 : Int) ≤ (a' : Int) := by omega
  have a1 : (a' : Int) < (n : Int) := by have := Ha.out; have := HL.out; omega
  have b0 : (0 : Int) ≤ (b' : Int) := by omega
  have b1' : (b' : Int) < (n : Int) := by have := Hb.out; have := HL.out; omega
  clear hmc hroot hcase
  go_wp2_with fail
  refine (HCt.out w2 V.out.s).mono ?_
  rintro e w3 ⟨⟨p2, nc, c2⟩, rfl, hs, g⟩
  have hnc := sv_lenN hs
  dsimp only at hnc
  have HNC := Lib.hid hnc
  obtain ⟨b2, o2, rfl, _, hx2⟩ := slE_ptr hs HMc.out.pos
  obtain ⟨W4, hW4⟩ : ∃ W4, W4 = w3.alloc (.cells (tr ⟨⟨some ⟨b2, o2, none⟩, nc, c2⟩⟩) 24) := ⟨_, rfl⟩
  replace V : Hid (Tv w W4 w.heap.size b1 o1 n cp l) := by rw [hW4]; exact (V.out.keep g).keep below1
  obtain ⟨bc, hbc⟩ : ∃ bc, bc = w3.heap.size := ⟨_, rfl⟩
  have U : Hid (Tv w W4 bc b2 o2 nc c2 lc) := by
    rw [hW4, hbc]
    exact ⟨heap_alloc_last w3 _, slE_keep below1 hs, keepR below1 hx2, by rw [hW4] at V; exact V.out.g⟩
  have HW := Lib.hid hW4
  have HBC := Lib.hid hbc
  have uc0 : (0 : Int) < (nc : Int) := by have := HMc.out.pos; omega
  have uc1 : 0 < nc := by omega
  clear hs g hnc hx2 hW4 hbc z0 z1
  have z0 : (w3.alloc (.cells (tr ⟨⟨some ⟨b2, o2, none⟩, nc, c2⟩⟩) 24)).cell? ⟨w.heap.size, 0, none⟩ = some (.slice (some ⟨b1, o1, none⟩) n cp) := by rw [← HW.out]; exact V.out.z0
  go_wp2_with fail
  rw [← HW.out, ← HBC.out]
  clear z0
  have L0 := fun p : Wd W4.drew => wd_tr U.out.box p
  have L1 := fun p : Wd W4.drew => wd_cell V.out.z0 p
  have L2 := fun p : Wd W4.drew => wd_ld (nds_root V.out.x Ha.out) (by decide) p
  refine wp_region_lex [7] (by kernel_rfl) (by kernel_rfl) (by kernel_rfl) ?_
  repeat (first | (refine wpXL_quiet rfl rfl _ cls_begin ?_; (first | go_big_quiet_step (fail) | quiet_step (fail)); refine wpQuiet_nil ?_) | refine wpXL_skip rfl ?_)
  refine wpXL_call rfl rfl rfl enters_find06 #[.agg (tr ⟨⟨some ⟨b2, o2, none⟩, nc, c2⟩⟩), .agg (rc (nd l a').root)] rfl ?_
  refine (treeFind ⟨some ⟨b2, o2, none⟩, nc, c2⟩ lc _ _ (slE_keep (belowD (Below.refl _ _) 1) U.out.s)).mono ?_
  rintro e u ⟨rfl, g⟩
  refine ⟨_, rfl, g, ?_⟩
  simp only [Act.put, List.setIfInBounds_toArray, List.set_cons_zero, List.set_cons_succ]
  have G : Hid (Below W4.heap.size W4 u) := belowT (belowD (Below.refl _ _) 1) g
  clear g
  repeat (first | (refine wpXL_quiet rfl rfl _ cls_begin ?_; (first | go_big_quiet_step (fail) | quiet_step (fail)); refine wpQuiet_nil ?_) | refine wpXL_skip rfl ?_)
  refine wpXL_nil ?_
  clear L0 L1 L2
  replace V := Lib.hid (V.out.keep G.out)
  replace U := Lib.hid (U.out.keep G.out)
  clear G
  obtain ⟨W5, rfl⟩ : ∃ W : World, W = u := ⟨_, rfl⟩
  obtain ⟨x, hx⟩ : ∃ x, x = findT lc (nd l a').root := ⟨_, rfl⟩
  replace HCase := HCase.out
  rw [← hx] at HCase ⊢
  clear hx
  have HCase := Lib.hid HCase
  go_wp2_with fail
  have L0 := fun p : Wd W5.drew => wd_tr U.out.box p
  have L1 := fun p : Wd W5.drew => wd_cell V.out.z0 p
  have L2 := fun p : Wd W5.drew => wd_ld (nds_root V.out.x Hb.out) (by decide) p
  refine wp_region_lex [7] (by kernel_rfl) (by kernel_rfl) (by kernel_rfl) ?_
  repeat (first | (refine wpXL_quiet rfl rfl _ cls_begin ?_; (first | go_big_quiet_step (fail) | quiet_step (fail)); refine wpQuiet_nil ?_) | refine wpXL_skip rfl ?_)
  refine wpXL_call rfl rfl rfl enters_find06 #[.agg (tr ⟨⟨some ⟨b2, o2, none⟩, nc, c2⟩⟩), .agg (rc (nd l b').root)] rfl ?_
  refine (treeFind ⟨some ⟨b2, o2, none⟩, nc, c2⟩ lc _ _ (slE_keep (belowD (Below.refl _ _) 1) U.out.s)).mono ?_
  rintro e u ⟨rfl, g⟩
  refine ⟨_, rfl, g, ?_⟩
  simp only [Act.put, List.setIfInBounds_toArray, List.set_cons_zero, List.set_cons_succ]
  have G : Hid (Below W5.heap.size W5 u) := belowT (belowD (Below.refl _ _) 1) g
  clear g
  repeat (first | (refine wpXL_quiet rfl rfl _ cls_begin ?_; (first | go_big_quiet_step (fail) | quiet_step (fail)); refine wpQuiet_nil ?_) | refine wpXL_skip rfl ?_)
  refine wpXL_nil ?_
  clear L0 L1 L2
  replace V := Lib.hid (V.out.keep G.out)
  replace U := Lib.hid (U.out.keep G.out)
  clear G
  obtain ⟨W6, rfl⟩ : ∃ W : World, W = u := ⟨_, rfl⟩
  obtain ⟨y, hy⟩ : ∃ y, y = findT lc (nd l b').root := ⟨_, rfl⟩
  replace HCase := HCase.out
  rw [← hy] at HCase ⊢
  clear hy
  rcases HCase with ⟨rfl, hab⟩ | ⟨x', rfl, hxl, hab, hyc, hat⟩
  · have HAB := Lib.hid hab
    clear hab
    have R0 := Lib.hid (nds_root U.out.x (i := 0) HMc.out.pos)
    rw [Nat.zero_mul, Nat.add_zero, HRoot.out] at R0
    have eq0 := eqB_self (nd l i').root
    go_wp2_with fail
    have L0 := fun p : Wd W6.drew => wd_tr U.out.box p
    have L1 := fun p : Wd W6.drew => wd_cell V.out.z0 p
    have L2 := fun p : Wd W6.drew => wd_tr V.out.box p
    have L3 := fun p : Wd W6.drew => wd_cell U.out.z0 p
    have L4 := fun p : Wd W6.drew => wd_ld R0.out (by decide) p
    have L5 := fun p : Wd W6.drew => wd_ld (nds_root V.out.x HI.out) (by decide) p
    refine wp_region_lex [1, 3, 17, 23] (by kernel_rfl) (by kernel_rfl) (by kernel_rfl) ?_
    repeat (first | (refine wpXL_quiet rfl rfl _ cls_begin ?_; (first | go_big_quiet_step (fail) | quiet_step (fail)); refine wpQuiet_nil ?_) | refine wpXL_skip rfl ?_)
    refine wpXL_call rfl rfl rfl enters_may06 #[.agg (tr ⟨⟨some ⟨b2, o2, none⟩, nc, c2⟩⟩)] rfl ?_
    refine (treeMay ⟨some ⟨b2, o2, none⟩, nc, c2⟩ lc _ (slE_keep (belowD (Below.refl _ _) 1) U.out.s)).mono ?_
    rintro e u ⟨rfl, g⟩
    refine ⟨_, rfl, g, ?_⟩
    simp only [Act.put, List.setIfInBounds_toArray, List.set_cons_zero, List.set_cons_succ]
    rw [decide_eq_true HMc.out]
    have G : Hid (Below W6.heap.size W6 u) := belowT (belowD (Below.refl _ _) 1) g
    clear g
    repeat (first | (refine wpXL_quiet rfl rfl _ cls_begin ?_; (first | go_big_quiet_step (fail) | quiet_step (fail)); refine wpQuiet_nil ?_) | refine wpXL_skip rfl ?_)
    refine wpXL_eff rfl rfl (.bool false) _ rfl (Below.refl _ _) ?_
    simp only [Act.put, List.setIfInBounds_toArray, List.set_cons_zero, List.set_cons_succ]
    repeat (first | (refine wpXL_quiet rfl rfl _ cls_begin ?_; (first | go_big_quiet_step (fail) | quiet_step (fail)); refine wpQuiet_nil ?_) | refine wpXL_skip rfl ?_)
    refine wpXL_eff rfl rfl (.bool false) _ rfl (Below.refl _ _) ?_
    simp only [Act.put, List.setIfInBounds_toArray, List.set_cons_zero, List.set_cons_succ]
    repeat (first | (refine wpXL_quiet rfl rfl _ cls_begin ?_; (first | go_big_quiet_step (fail) | quiet_step (fail)); refine wpQuiet_nil ?_) | refine wpXL_skip rfl ?_)
    refine wpXL_call rfl rfl rfl enters_above06 #[.agg (tr ⟨⟨some ⟨b1, o1, none⟩, n, cp⟩⟩), .int .i64 (i' : Int), .int .i64 (a' : Int)] rfl ?_
    refine (treeAbove ⟨some ⟨b1, o1, none⟩, n, cp⟩ l (i' : Int) (a' : Int) _ (slE_keep G.out V.out.s)).mono ?_
    rintro e u ⟨rfl, g⟩
    refine ⟨_, rfl, g, ?_⟩
    simp only [Act.put, List.setIfInBounds_toArray, List.set_cons_zero, List.set_cons_succ]
    rw [ez.out i' a' HI.out Ha.out, HAB.out]
    replace G : Hid (Below W6.heap.size W6 u) := belowT G.out g
    clear g
    repeat (first | (refine wpXL_quiet rfl rfl _ cls_begin ?_; (first | go_big_quiet_step (fail) | quiet_step (fail)); refine wpQuiet_nil ?_) | refine wpXL_skip rfl ?_)
    refine wpXL_nil ?_
    clear L0 L1 L2 L3 L4 L5
    replace V := Lib.hid (V.out.keep G.out)
    replace U := Lib.hid (U.out.keep G.out)
    clear G
    obtain ⟨W7, rfl⟩ : ∃ W : World, W = u := ⟨_, rfl⟩
    clear R0 eq0
    go_wp2_with fail
    go_ret
    exact ⟨rfl, V.out.g⟩
  · have HAB := Lib.hid hab
    have HXL := Lib.hid hxl
    have HYC := Lib.hid hyc
    have HAT := Lib.hid hat
    clear hab hxl hyc hat
    have x0 : (0 : Int) ≤ (x' : Int) := by omega
    have x1 : decide ((0 : Int) ≤ (x' : Int)) = true := decide_eq_true x0
    have x2 : decide ((x' : Int) < 0) = false := decide_eq_false (by omega)
    have R0 := Lib.hid (nds_root U.out.x (i := 0) HMc.out.pos)
    rw [Nat.zero_mul, Nat.add_zero, HRoot.out] at R0
    have eq0 := eqB_self (nd l i').root
    go_wp2_with fail
    have L0 := fun p : Wd W6.drew => wd_tr U.out.box p
    have L1 := fun p : Wd W6.drew => wd_cell V.out.z0 p
    have L2 := fun p : Wd W6.drew => wd_tr V.out.box p
    have L3 := fun p : Wd W6.drew => wd_cell U.out.z0 p
    have L4 := fun p : Wd W6.drew => wd_ld R0.out (by decide) p
    have L5 := fun p : Wd W6.drew => wd_ld (nds_root V.out.x HI.out) (by decide) p
    refine wp_region_lex [1, 3, 17, 23] (by kernel_rfl) (by kernel_rfl) (by kernel_rfl) ?_
    repeat (first | (refine wpXL_quiet rfl rfl _ cls_begin ?_; (first | go_big_quiet_step (fail) | quiet_step (fail)); refine wpQuiet_nil ?_) | refine wpXL_skip rfl ?_)
    refine wpXL_call rfl rfl rfl enters_may06 #[.agg (tr ⟨⟨some ⟨b2, o2, none⟩, nc, c2⟩⟩)] rfl ?_
    refine (treeMay ⟨some ⟨b2, o2, none⟩, nc, c2⟩ lc _ (slE_keep (belowD (Below.refl _ _) 1) U.out.s)).mono ?_
    rintro e u ⟨rfl, g⟩
    refine ⟨_, rfl, g, ?_⟩
    simp only [Act.put, List.setIfInBounds_toArray, List.set_cons_zero, List.set_cons_succ]
    rw [decide_eq_true HMc.out]
    have G : Hid (Below W6.heap.size W6 u) := belowT (belowD (Below.refl _ _) 1) g
    clear g
    repeat (first | (refine wpXL_quiet rfl rfl _ cls_begin ?_; (first | go_big_quiet_step (fail) | quiet_step (fail)); refine wpQuiet_nil ?_) | refine wpXL_skip rfl ?_)
    refine wpXL_eff rfl rfl (.bool false) _ rfl (Below.refl _ _) ?_
    simp only [Act.put, List.setIfInBounds_toArray, List.set_cons_zero, List.set_cons_succ]
    repeat (first | (refine wpXL_quiet rfl rfl _ cls_begin ?_; (first | go_big_quiet_step (fail) | quiet_step (fail)); refine wpQuiet_nil ?_) | refine wpXL_skip rfl ?_)
    refine wpXL_eff rfl rfl (.bool false) _ rfl (Below.refl _ _) ?_
    simp only [Act.put, List.setIfInBounds_toArray, List.set_cons_zero, List.set_cons_succ]
    repeat (first | (refine wpXL_quiet rfl rfl _ cls_begin ?_; (first | go_big_quiet_step (fail) | quiet_step (fail)); refine wpQuiet_nil ?_) | refine wpXL_skip rfl ?_)
    refine wpXL_call rfl rfl rfl enters_above06 #[.agg (tr ⟨⟨some ⟨b1, o1, none⟩, n, cp⟩⟩), .int .i64 (i' : Int), .int .i64 (a' : Int)] rfl ?_
    refine (treeAbove ⟨some ⟨b1, o1, none⟩, n, cp⟩ l (i' : Int) (a' : Int) _ (slE_keep G.out V.out.s)).mono ?_
    rintro e u ⟨rfl, g⟩
    refine ⟨_, rfl, g, ?_⟩
    simp only [Act.put, List.setIfInBounds_toArray, List.set_cons_zero, List.set_cons_succ]
    rw [ez.out i' a' HI.out Ha.out, HAB.out]
    replace G : Hid (Below W6.heap.size W6 u) := belowT G.out g
    clear g
    repeat (first | (refine wpXL_quiet rfl rfl _ cls_begin ?_; (first | go_big_quiet_step (fail) | quiet_step (fail)); refine wpQuiet_nil ?_) | refine wpXL_skip rfl ?_)
    refine wpXL_nil ?_
    clear L0 L1 L2 L3 L4 L5
    replace V := Lib.hid (V.out.keep G.out)
    replace U := Lib.hid (U.out.keep G.out)
    clear G
    obtain ⟨W7, rfl⟩ : ∃ W : World, W = u := ⟨_, rfl⟩
    clear R0 eq0
    rcases HYC.out with rfl | ⟨y', rfl, hyl, hyab⟩
    · go_wp2_with fail
      go_ret
      exact ⟨rfl, V.out.g⟩
    · have y0 : (0 : Int) ≤ (y' : Int) := by omega
      have y2 : decide ((y' : Int) < 0) = false := decide_eq_false (by omega)
      have HYL := Lib.hid hyl
      have HYAB := Lib.hid hyab
      clear hyl hyab
      obtain ⟨v, hv⟩ : ∃ v, v = aboveT l a' b' := ⟨_, rfl⟩
      rw [← hv] at HYAB
      have HV := Lib.hid hv
      clear hv
      go_wp2_with fail
      have L0 := fun p : Wd W7.drew => wd_tr U.out.box p
      have L1 := fun p : Wd W7.drew => wd_tr V.out.box p
      refine wp_region_lex [3, 7] (by kernel_rfl) (by kernel_rfl) (by kernel_rfl) ?_
      repeat (first | (refine wpXL_quiet rfl rfl _ cls_begin ?_; (first | go_big_quiet_step (fail) | quiet_step (fail)); refine wpQuiet_nil ?_) | refine wpXL_skip rfl ?_)
      refine wpXL_call rfl rfl rfl enters_above06 #[.agg (tr ⟨⟨some ⟨b2, o2, none⟩, nc, c2⟩⟩), .int .i64 (x' : Int), .int .i64 (y' : Int)] rfl ?_
      refine (treeAbove ⟨some ⟨b2, o2, none⟩, nc, c2⟩ lc (x' : Int) (y' : Int) _ (slE_keep (belowD (Below.refl _ _) 1) U.out.s)).mono ?_
      rintro e u ⟨rfl, g⟩
      refine ⟨_, rfl, g, ?_⟩
      simp only [Act.put, List.setIfInBounds_toArray, List.set_cons_zero, List.set_cons_succ]
      rw [aboveZ_nat HMc.out HXL.out HYL.out, HYAB.out]
      have G : Hid (Below W7.heap.size W7 u) := belowT (belowD (Below.refl _ _) 1) g
      clear g
      repeat (first | (refine wpXL_quiet rfl rfl _ cls_begin ?_; (first | go_big_quiet_step (fail) | quiet_step (fail)); refine wpQuiet_nil ?_) | refine wpXL_skip rfl ?_)
      refine wpXL_call rfl rfl rfl enters_above06 #[.agg (tr ⟨⟨some ⟨b1, o1, none⟩, n, cp⟩⟩), .int .i64 (a' : Int), .int .i64 (b' : Int)] rfl ?_
      refine (treeAbove ⟨some ⟨b1, o1, none⟩, n, cp⟩ l (a' : Int) (b' : Int) _ (slE_keep G.out V.out.s)).mono ?_
      rintro e u ⟨rfl, g⟩
      refine ⟨_, rfl, g, ?_⟩
      simp only [Act.put, List.setIfInBounds_toArray, List.set_cons_zero, List.set_cons_succ]
      rw [ez.out a' b' Ha.out Hb.out, ← HV.out]
      replace G : Hid (Below W7.heap.size W7 u) := belowT G.out g
      clear g
      repeat (first | (refine wpXL_quiet rfl rfl _ cls_begin ?_; (first | go_big_quiet_step (fail) | quiet_step (fail)); refine wpQuiet_nil ?_) | refine wpXL_skip rfl ?_)
      refine wpXL_nil ?_
      clear L0 L1
      replace V := Lib.hid (V.out.keep G.out)
      replace U := Lib.hid (U.out.keep G.out)
      clear G
      obtain ⟨W8, rfl⟩ : ∃ W : World, W = u := ⟨_, rfl⟩
      have HPc := Lib.hid (fun W (g : SlE Ene W (.slice (some ⟨b2, o2, none⟩) nc c2) lc) => treeAt ⟨some ⟨b2, o2, none⟩, nc, c2⟩ lc (x' : Int) q W g)
      rw [atZ_nat HMc.out HXL.out] at HPc
      have HQt := Lib.hid (fun W (g : SlE Ene W (.slice (some ⟨b1, o1, none⟩) n cp) l) => treeAt ⟨some ⟨b1, o1, none⟩, n, cp⟩ l (a' : Int) q W g)
      rw [atZ_nat HMm.out Ha.out] at HQt
      have vv : (v != v) = false := by cases v <;> rfl
      have z1 := U.out.z1
      go_wp2_with fail
      refine (HPc.out W8 U.out.s).mono ?_
      rintro e W9 ⟨rfl, g⟩
      replace V := Lib.hid (V.out.keep g)
      replace U := Lib.hid (U.out.keep g)
      clear g z1
      have z1 := V.out.z1
      go_wp2_with fail
      refine (HQt.out W9 V.out.s).mono ?_
      rintro e W10 ⟨rfl, g⟩
      replace V := Lib.hid (V.out.keep g)
      replace U := Lib.hid (U.out.keep g)
      clear g z1
      have z0 := V.out.z0
      have zc := U.out.z0
      have ys := nds_slot V.out.x (i := i') HI.out
      rcases HAT.out with ⟨hs, e1⟩ | ⟨hs, p', q', e1, e2, hp, hq, hr⟩
      · rw [e1]
        have t6 : decide ((q.toNat : Int) < ((nd l i').slot.toNat : Int)) = true := decide_eq_true (by unfold sl at hs; omega)
        have t6' : decide (q.toNat < (nd l i').slot.toNat) = true := decide_eq_true hs
        clear hs e1
        go_wp2_with fail
        go_ret
        exact ⟨rfl, V.out.g⟩
      · rw [e1, e2]
        have t6 : decide ((q.toNat : Int) < ((nd l i').slot.toNat : Int)) = false := decide_eq_false (by unfold sl at hs; omega)
        have t6' : decide (q.toNat < (nd l i').slot.toNat) = false := decide_eq_false (by unfold sl at hs; omega)
        have p0 : (0 : Int) ≤ (p' : Int) := by omega
        have p1 : (p' : Int) < (nc : Int) := by have := HNC.out; omega
        have p2 : decide ((p' : Int) < (nc : Int)) = true := decide_eq_true p1
        have p2' : decide (p' < nc) = true := decide_eq_true (by omega)
        have q0 : (0 : Int) ≤ (q' : Int) := by omega
        have q1 : (q' : Int) < (n : Int) := by have := HL.out; omega
        have q2 : decide ((q' : Int) < (n : Int)) = true := decide_eq_true q1
        have q2' : decide (q' < n) = true := decide_eq_true (by omega)
        have r1 := nds_root U.out.x (i := p') hp
        have r2 := nds_root V.out.x (i := q') hq
        rw [hr] at r1
        have eq0 := eqB_self (nd l q').root
        clear hs e1 e2 hp hq hr
        go_wp2_with fail
        go_quiet (fail)
        go_wp2_with fail
        go_ret
        exact ⟨rfl, belowT V.out.g (belowD (Below.refl _ _) _)⟩
/-- The law. -/
theorem treeCutL (x : Tr) (l : List Nd) (i a b : Int) (q : UInt64) (w : World) (h : SlE Ene w (sv x.n) l) :
    Calls Try.prog 7 #[.agg (tr x), .int .i64 i, .int .i64 a, .int .i64 b, .int .u64 (q.toNat : Int)] w fun e w' => e = .returned (.bool true) ∧ Below w.heap.size w w' := by
  obtain ⟨s⟩ := x
  by_cases hm : MayT l
  · have hn := sv_lenN h
    obtain ⟨p, n, cp⟩ := s
    dsimp only at hn
    subst hn
    obtain ⟨b1, o1, rfl, _, hx⟩ := slE_ptr h hm.pos
    exact treeCutL_yes b1 o1 _ cp l i a b q w h hx rfl hm
  · exact treeCutL_no s l i a b q w h (decide_eq_false hm)
end Go.Proofs.Ytnehebipikhejaa
