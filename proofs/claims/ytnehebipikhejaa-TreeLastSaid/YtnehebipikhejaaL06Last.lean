/-
  The law TreeLast, walked (written by wip/gen/lawLast.py).
-/
import Derived.Test.YtnehebipikhejaaL06Insert
namespace Go.Proofs.Ytnehebipikhejaa
open Go.RowKit

set_option maxRecDepth 100000 in
set_option maxHeartbeats 8000000 in
theorem treeLastL_bad (s : SlV) (l : List Nd) (x : Bk) (i k : Int) (w : World) (h : SlE Ene w (sv s) l) (hn : l.length * 56 ≤ 140737488355328) (hy : insE l x.root x.parent x.slot ≠ 0) :
    Calls Try.prog 10 #[.agg (tr ⟨s⟩), .agg (bk x), .int .i64 i, .int .i64 k] w fun e w' => e = .returned (.bool true) ∧ Below w.heap.size w w' := by
  have HIn := Lib.hid (fun W (g : Below w.heap.size w W) => treeInsert s l x W (slE_keep g h) hn)
  obtain ⟨er, her⟩ : ∃ er, er = insE l x.root x.parent x.slot := ⟨_, rfl⟩
  have hil : insL l x.root x.parent x.slot x.just = l := by unfold insL; rw [if_neg hy]
  rw [hil, ← her] at HIn
  rw [← her] at hy
  obtain ⟨W0, hW0⟩ : ∃ W0, W0 = (w.alloc (.cells (tr ⟨s⟩) 24)).alloc (.cells (bk x) 29) := ⟨_, rfl⟩
  obtain ⟨hB, h0, h1, hz⟩ := heap2 w _ _ _ _ W0 hW0
  have HB := Lib.hid hB
  have M0 := Lib.hid h0
  have M1 := Lib.hid h1
  have HW := Lib.hid hW0
  have t1 : ((er : Int) != 0) = true := by rw [bne_iff_ne]; omega
  have t1' : ((er : Int) == 0) = false := by rw [beq_eq_false_iff_ne]; omega
  clear h hn hy her hil hW0 hB h0 h1 hz
  go_enter Try.func10, Try.ntmps10
  go_wp2_with fail
  rw [← HW.out]
  refine (awake_any _).mono ?_
  rintro e w1 ⟨rfl, g⟩
  have G1 := Lib.hid (belowT HB.out g)
  have z1 := (tr_cells (blk_keep g M0.out)).2.1
  have y1 := ldA_block (blk_keep g M1.out) (bk_size x)
  clear g
  go_wp2_with fail
  refine (HIn.out w1 G1.out).mono ?_
  rintro e w2 ⟨s2, rfl, hs, g⟩
  have G2 := Lib.hid (belowT G1.out (belowT g (below1 (o := .cells (tr ⟨s2⟩) 24))))
  clear g hs z1 y1
  go_wp2_with fail
  go_ret
  exact ⟨rfl, G2.out⟩

set_option maxRecDepth 100000 in
set_option maxHeartbeats 8000000 in
theorem treeLastL_good (b1 o1 n cp : Nat) (l : List Nd) (x : Bk) (i k : Int) (w : World) (h : SlE Ene w (.slice (some ⟨b1, o1, none⟩) n cp) l) (hx : w.rangeAt b1 o1 (cellsE Ene l)) (hl : l.length = n) (hy : insE l x.root x.parent x.slot = 0) :
    Calls Try.prog 10 #[.agg (tr ⟨⟨some ⟨b1, o1, none⟩, n, cp⟩⟩), .agg (bk x), .int .i64 i, .int .i64 k] w fun e w' => e = .returned (.bool true) ∧ Below w.heap.size w w' := by
  obtain ⟨hm, -, -, -, hn12⟩ := insE_zero hy
  have HIn := Lib.hid (fun W (g : SlE Ene W (.slice (some ⟨b1, o1, none⟩) n cp) l) => treeInsert ⟨some ⟨b1, o1, none⟩, n, cp⟩ l x W g (by have := hm.le; omega))
  have hil : insL l x.root x.parent x.slot x.just = l ++ [insN l x.root x.parent x.slot x.just] := by unfold insL; rw [if_pos hy]
  rw [hil, hy] at HIn
  have hm' := ins_may x.just hy
  have HLAW : Hid (∀ i' k' : Nat, i' < l.length → k' < l.length → ∃ q : Nat, findT l x.parent = q ∧ q < l.length ∧ kidsT (l ++ [insN l x.root x.parent x.slot x.just]) l.length = [] ∧ aboveT (l ++ [insN l x.root x.parent x.slot x.just]) i' l.length = aboveT l i' q ∧ aboveT (l ++ [insN l x.root x.parent x.slot x.just]) i' k' = aboveT l i' k' ∧ aboveT (l ++ [insN l x.root x.parent x.slot x.just]) l.length i' = false ∧ atT (l ++ [insN l x.root x.parent x.slot x.just]) l.length x.slot.toNat = l.length) := fun i' k' hi hk => law_last x.just hy hi hk
  obtain ⟨lk, hlk⟩ : ∃ lk, lk = l ++ [insN l x.root x.parent x.slot x.just] := ⟨_, rfl⟩
  have hkl : lk.length = n + 1 := by rw [hlk, List.length_append, hl]; rfl
  rw [← hlk] at HIn hm' HLAW
  obtain ⟨W0, hW0⟩ : ∃ W0, W0 = (w.alloc (.cells (tr ⟨⟨some ⟨b1, o1, none⟩, n, cp⟩⟩) 24)).alloc (.cells (bk x) 29) := ⟨_, rfl⟩
  obtain ⟨hB, h0, h1, hz⟩ := heap2 w _ _ _ _ W0 hW0
  have V : Hid (Tv w W0 w.heap.size b1 o1 n cp l) := ⟨h0, slE_keep hB h, keepR hB hx, hB⟩
  have B := Lib.hid h1
  have HW := Lib.hid hW0
  have HM := Lib.hid hm
  have HM' := Lib.hid hm'
  have HL := Lib.hid hl
  have HKL := Lib.hid hkl
  have HN : Hid (n < 12) := by show n < 12; omega
  clear h hx hl hm hy hil hW0 hB h0 h1 hz hm' hlk hkl hn12
  go_enter Try.func10, Try.ntmps10
  go_wp2_with fail
  rw [← HW.out]
  refine (awake_any _).mono ?_
  rintro e w1 ⟨rfl, g⟩
  replace V := Lib.hid (V.out.keep g)
  replace B := Lib.hid (blk_keep g B.out)
  have z1 := V.out.z1
  have y1 := ldA_block B.out (bk_size x)
  clear g
  go_wp2_with fail
  refine (HIn.out w1 V.out.s).mono ?_
  rintro e w3 ⟨⟨p2, n2, c2⟩, rfl, hs, g⟩
  obtain rfl : n2 = n + 1 := by have := sv_lenN hs; dsimp only at this; have := HKL.out; omega
  obtain ⟨b2, o2, rfl, _, hx2⟩ := slE_ptr hs HM'.out.pos
  obtain ⟨W4, hW4⟩ : ∃ W4, W4 = w3.alloc (.cells (tr ⟨⟨some ⟨b2, o2, none⟩, n + 1, c2⟩⟩) 24) := ⟨_, rfl⟩
  replace V : Hid (Tv w W4 w.heap.size b1 o1 n cp l) := by rw [hW4]; exact (V.out.keep g).keep below1
  replace B : Hid (W4.heap[w.heap.size + 1]? = some (.cells (bk x) 29 (0, 0))) := by rw [hW4]; exact blk_keep below1 (blk_keep g B.out)
  obtain ⟨bc, hbc⟩ : ∃ bc, bc = w3.heap.size := ⟨_, rfl⟩
  have U : Hid (Tv w W4 bc b2 o2 (n + 1) c2 lk) := by
    rw [hW4, hbc]
    exact ⟨heap_alloc_last w3 _, slE_keep below1 hs, keepR below1 hx2, by rw [hW4] at V; exact V.out.g⟩
  have HW4 := Lib.hid hW4
  have HBC := Lib.hid hbc
  clear hs g z1 y1 hW4 hbc hx2
  have z0 : (w3.alloc (.cells (tr ⟨⟨some ⟨b2, o2, none⟩, n + 1, c2⟩⟩) 24)).cell? ⟨w.heap.size, 0, none⟩ = some (.slice (some ⟨b1, o1, none⟩) n cp) := by rw [← HW4.out]; exact V.out.z0
  have z1 : ldA (w3.alloc (.cells (tr ⟨⟨some ⟨b2, o2, none⟩, n + 1, c2⟩⟩) 24)) (.pointer (some ⟨w.heap.size, 0, none⟩)) 1 = some (tr ⟨⟨some ⟨b1, o1, none⟩, n, cp⟩⟩) := by rw [← HW4.out]; exact V.out.z1
  have y1 : ldA (w3.alloc (.cells (tr ⟨⟨some ⟨b2, o2, none⟩, n + 1, c2⟩⟩) 24)) (.pointer (some ⟨w.heap.size + 1, 32, none⟩)) 32 = some (rc x.parent) := by rw [← HW4.out]; exact (bk_cells B.out).2.1
  by_cases ht0 : i < 0
  · have t0 : decide (i < 0) = true := decide_eq_true ht0
    clear ht0
    go_wp2_with fail
    go_ret
    exact ⟨rfl, by rw [← HW4.out]; exact V.out.g⟩
  have t0 : decide (i < 0) = false := decide_eq_false ht0
  by_cases ht1 : k < 0
  · have t1 : decide (k < 0) = true := decide_eq_true ht1
    clear ht1
    go_wp2_with fail
    go_ret
    exact ⟨rfl, by rw [← HW4.out]; exact V.out.g⟩
  have t1 : decide (k < 0) = false := decide_eq_false ht1
  by_cases ht2 : (n : Int) ≤ i
  · have t2 : decide ((n : Int) ≤ i) = true := decide_eq_true ht2
    clear ht2
    go_wp2_with fail
    go_ret
    exact ⟨rfl, by rw [← HW4.out]; exact V.out.g⟩
  have t2 : decide ((n : Int) ≤ i) = false := decide_eq_false ht2
  by_cases ht3 : (n : Int) ≤ k
  · have t3 : decide ((n : Int) ≤ k) = true := decide_eq_true ht3
    clear ht3
    go_wp2_with fail
    go_ret
    exact ⟨rfl, by rw [← HW4.out]; exact V.out.g⟩
  have t3 : decide ((n : Int) ≤ k) = false := decide_eq_false ht3
  obtain ⟨i', rfl⟩ : ∃ i' : Nat, i = i' := ⟨i.toNat, by omega⟩
  obtain ⟨k', rfl⟩ : ∃ k' : Nat, k = k' := ⟨k.toNat, by omega⟩
  have hi : i' < l.length := by have := HL.out; omega
  have hk : k' < l.length := by have := HL.out; omega
  have t2' : decide (n ≤ i') = false := decide_eq_false (by omega)
  have t3' : decide (n ≤ k') = false := decide_eq_false (by omega)
  obtain ⟨q, hq, hql, e1, e2, e3, e4, e5⟩ := HLAW.out i' k' hi hk
  have hKd := Lib.hid (fun W (g : SlE Ene W (.slice (some ⟨b2, o2, none⟩) (n + 1) c2) lk) => treeKids ⟨some ⟨b2, o2, none⟩, n + 1, c2⟩ lk (n : Int) W g)
  have ek : kidsI lk (n : Int) = [] := by
    unfold kidsI
    rw [kidsZ_nat HM'.out (by have := HKL.out; omega), ← HL.out, e1]
    rfl
  rw [ek] at hKd
  have hA1 := Lib.hid (fun W (g : SlE Ene W (.slice (some ⟨b2, o2, none⟩) (n + 1) c2) lk) => treeAbove ⟨some ⟨b2, o2, none⟩, n + 1, c2⟩ lk (i' : Int) (n : Int) W g)
  rw [aboveZ_nat HM'.out (by have := HKL.out; have := HL.out; omega) (by have := HKL.out; omega), ← HL.out, e2, HL.out] at hA1
  have hA2 := Lib.hid (fun W (g : SlE Ene W (.slice (some ⟨b1, o1, none⟩) n cp) l) => treeAbove ⟨some ⟨b1, o1, none⟩, n, cp⟩ l (i' : Int) (q : Int) W g)
  rw [aboveZ_nat HM.out hi hql] at hA2
  have hA3 := Lib.hid (fun W (g : SlE Ene W (.slice (some ⟨b2, o2, none⟩) (n + 1) c2) lk) => treeAbove ⟨some ⟨b2, o2, none⟩, n + 1, c2⟩ lk (i' : Int) (k' : Int) W g)
  rw [aboveZ_nat HM'.out (by have := HKL.out; have := HL.out; omega) (by have := HKL.out; have := HL.out; omega), e3] at hA3
  have hA4 := Lib.hid (fun W (g : SlE Ene W (.slice (some ⟨b1, o1, none⟩) n cp) l) => treeAbove ⟨some ⟨b1, o1, none⟩, n, cp⟩ l (i' : Int) (k' : Int) W g)
  rw [aboveZ_nat HM.out hi hk] at hA4
  have hA5 := Lib.hid (fun W (g : SlE Ene W (.slice (some ⟨b2, o2, none⟩) (n + 1) c2) lk) => treeAbove ⟨some ⟨b2, o2, none⟩, n + 1, c2⟩ lk (n : Int) (i' : Int) W g)
  rw [aboveZ_nat HM'.out (by have := HKL.out; omega) (by have := HKL.out; have := HL.out; omega), ← HL.out, e4, HL.out] at hA5
  have hAt := Lib.hid (fun W (g : SlE Ene W (.slice (some ⟨b2, o2, none⟩) (n + 1) c2) lk) => treeAt ⟨some ⟨b2, o2, none⟩, n + 1, c2⟩ lk (n : Int) x.slot W g)
  rw [atZ_nat HM'.out (by have := HKL.out; omega), ← HL.out, e5, HL.out] at hAt
  have hFd := Lib.hid (fun W (g : SlE Ene W (.slice (some ⟨b1, o1, none⟩) n cp) l) => treeFind ⟨some ⟨b1, o1, none⟩, n, cp⟩ l x.parent W g)
  rw [hq] at hFd
  generalize aboveT l i' q = r1 at *
  generalize aboveT l i' k' = r2 at *
  clear ek hq hql e1 e2 e3 e4 e5 hi hk ht0 ht1 ht2 ht3 HLAW
  go_wp2_with fail
  rw [← HW4.out, ← HBC.out]
  refine (hFd.out W4 V.out.s).mono ?_
  rintro e w5 ⟨rfl, g⟩
  replace V := Lib.hid (V.out.keep g)
  replace U := Lib.hid (U.out.keep g)
  replace B := Lib.hid (blk_keep g B.out)
  clear g z0 z1 y1
  go_wp2_with fail
  have L0 := fun p : Wd w5.drew => wd_tr V.out.box p
  have L1 := fun p : Wd w5.drew => wd_tr U.out.box p
  have L2 := fun p : Wd w5.drew => wd_cell (bk_cells B.out).2.2.1 p
  refine wp_region_lex [2, 5, 9, 13, 16, 20, 24, 27, 31, 34, 39] (by kernel_rfl) (by kernel_rfl) (by kernel_rfl) ?_
  repeat (first | (refine wpXL_quiet rfl rfl _ cls_begin ?_; (first | go_big_quiet_step (fail) | quiet_step (fail)); refine wpQuiet_nil ?_) | refine wpXL_skip rfl ?_)
  refine wpXL_call rfl rfl rfl enters_kids06 #[.agg (tr ⟨⟨some ⟨b2, o2, none⟩, n + 1, c2⟩⟩), .int .i64 (n : Int)] rfl ?_
  refine (hKd.out _ (slE_keep (belowD (Below.refl _ _) 1) U.out.s)).mono ?_
  rintro e u ⟨v, rfl, ho, g⟩
  obtain ⟨vp, vc, rfl⟩ := ownE_len ho (n := 0) rfl
  clear ho
  refine ⟨_, rfl, g, ?_⟩
  simp only [Act.put, List.setIfInBounds_toArray, List.set_cons_zero, List.set_cons_succ]
  have G : Hid (Below w5.heap.size w5 u) := belowT (belowD (Below.refl _ _) 1) g
  clear g
  repeat (first | (refine wpXL_quiet rfl rfl _ cls_begin ?_; (first | go_big_quiet_step (fail) | quiet_step (fail)); refine wpQuiet_nil ?_) | refine wpXL_skip rfl ?_)
  refine wpXL_eff rfl rfl (.bool true) _ rfl (Below.refl _ _) ?_
  simp only [Act.put, List.setIfInBounds_toArray, List.set_cons_zero, List.set_cons_succ]
  repeat (first | (refine wpXL_quiet rfl rfl _ cls_begin ?_; (first | go_big_quiet_step (fail) | quiet_step (fail)); refine wpQuiet_nil ?_) | refine wpXL_skip rfl ?_)
  refine wpXL_call rfl rfl rfl enters_above06 #[.agg (tr ⟨⟨some ⟨b2, o2, none⟩, n + 1, c2⟩⟩), .int .i64 (i' : Int), .int .i64 (n : Int)] rfl ?_
  refine (hA1.out _ (slE_keep G.out U.out.s)).mono ?_
  rintro e u ⟨rfl, g⟩
  refine ⟨_, rfl, g, ?_⟩
  simp only [Act.put, List.setIfInBounds_toArray, List.set_cons_zero, List.set_cons_succ]
  replace G : Hid (Below w5.heap.size w5 u) := belowT G.out g
  clear g
  repeat (first | (refine wpXL_quiet rfl rfl _ cls_begin ?_; (first | go_big_quiet_step (fail) | quiet_step (fail)); refine wpQuiet_nil ?_) | refine wpXL_skip rfl ?_)
  refine wpXL_call rfl rfl rfl enters_above06 #[.agg (tr ⟨⟨some ⟨b1, o1, none⟩, n, cp⟩⟩), .int .i64 (i' : Int), .int .i64 (q : Int)] rfl ?_
  refine (hA2.out _ (slE_keep G.out V.out.s)).mono ?_
  rintro e u ⟨rfl, g⟩
  refine ⟨_, rfl, g, ?_⟩
  simp only [Act.put, List.setIfInBounds_toArray, List.set_cons_zero, List.set_cons_succ]
  replace G : Hid (Below w5.heap.size w5 u) := belowT G.out g
  clear g
  repeat (first | (refine wpXL_quiet rfl rfl _ cls_begin ?_; (first | go_big_quiet_step (fail) | quiet_step (fail)); refine wpQuiet_nil ?_) | refine wpXL_skip rfl ?_)
  refine wpXL_eff rfl rfl (.bool true) _ rfl (Below.refl _ _) ?_
  simp only [Act.put, List.setIfInBounds_toArray, List.set_cons_zero, List.set_cons_succ]
  repeat (first | (refine wpXL_quiet rfl rfl _ cls_begin ?_; (first | go_big_quiet_step (fail) | quiet_step (fail)); refine wpQuiet_nil ?_) | refine wpXL_skip rfl ?_)
  refine wpXL_call rfl rfl rfl enters_above06 #[.agg (tr ⟨⟨some ⟨b2, o2, none⟩, n + 1, c2⟩⟩), .int .i64 (i' : Int), .int .i64 (k' : Int)] rfl ?_
  refine (hA3.out _ (slE_keep G.out U.out.s)).mono ?_
  rintro e u ⟨rfl, g⟩
  refine ⟨_, rfl, g, ?_⟩
  simp only [Act.put, List.setIfInBounds_toArray, List.set_cons_zero, List.set_cons_succ]
  replace G : Hid (Below w5.heap.size w5 u) := belowT G.out g
  clear g
  repeat (first | (refine wpXL_quiet rfl rfl _ cls_begin ?_; (first | go_big_quiet_step (fail) | quiet_step (fail)); refine wpQuiet_nil ?_) | refine wpXL_skip rfl ?_)
  refine wpXL_call rfl rfl rfl enters_above06 #[.agg (tr ⟨⟨some ⟨b1, o1, none⟩, n, cp⟩⟩), .int .i64 (i' : Int), .int .i64 (k' : Int)] rfl ?_
  refine (hA4.out _ (slE_keep G.out V.out.s)).mono ?_
  rintro e u ⟨rfl, g⟩
  refine ⟨_, rfl, g, ?_⟩
  simp only [Act.put, List.setIfInBounds_toArray, List.set_cons_zero, List.set_cons_succ]
  replace G : Hid (Below w5.heap.size w5 u) := belowT G.out g
  clear g
  repeat (first | (refine wpXL_quiet rfl rfl _ cls_begin ?_; (first | go_big_quiet_step (fail) | quiet_step (fail)); refine wpQuiet_nil ?_) | refine wpXL_skip rfl ?_)
  refine wpXL_eff rfl rfl (.bool true) _ rfl (Below.refl _ _) ?_
  simp only [Act.put, List.setIfInBounds_toArray, List.set_cons_zero, List.set_cons_succ]
  repeat (first | (refine wpXL_quiet rfl rfl _ cls_begin ?_; (first | go_big_quiet_step (fail) | quiet_step (fail)); refine wpQuiet_nil ?_) | refine wpXL_skip rfl ?_)
  refine wpXL_call rfl rfl rfl enters_above06 #[.agg (tr ⟨⟨some ⟨b2, o2, none⟩, n + 1, c2⟩⟩), .int .i64 (n : Int), .int .i64 (i' : Int)] rfl ?_
  refine (hA5.out _ (slE_keep G.out U.out.s)).mono ?_
  rintro e u ⟨rfl, g⟩
  refine ⟨_, rfl, g, ?_⟩
  simp only [Act.put, List.setIfInBounds_toArray, List.set_cons_zero, List.set_cons_succ]
  replace G : Hid (Below w5.heap.size w5 u) := belowT G.out g
  clear g
  repeat (first | (refine wpXL_quiet rfl rfl _ cls_begin ?_; (first | go_big_quiet_step (fail) | quiet_step (fail)); refine wpQuiet_nil ?_) | refine wpXL_skip rfl ?_)
  refine wpXL_eff rfl rfl (.bool true) _ rfl (Below.refl _ _) ?_
  simp only [Act.put, List.setIfInBounds_toArray, List.set_cons_zero, List.set_cons_succ]
  repeat (first | (refine wpXL_quiet rfl rfl _ cls_begin ?_; (first | go_big_quiet_step (fail) | quiet_step (fail)); refine wpQuiet_nil ?_) | refine wpXL_skip rfl ?_)
  refine wpXL_call rfl rfl rfl enters_at06 #[.agg (tr ⟨⟨some ⟨b2, o2, none⟩, n + 1, c2⟩⟩), .int .i64 (n : Int), .int .u64 (x.slot.toNat : Int)] rfl ?_
  refine (hAt.out _ (slE_keep G.out U.out.s)).mono ?_
  rintro e u ⟨rfl, g⟩
  refine ⟨_, rfl, g, ?_⟩
  simp only [Act.put, List.setIfInBounds_toArray, List.set_cons_zero, List.set_cons_succ]
  replace G : Hid (Below w5.heap.size w5 u) := belowT G.out g
  clear g
  repeat (first | (refine wpXL_quiet rfl rfl _ cls_begin ?_; (first | go_big_quiet_step (fail) | quiet_step (fail)); refine wpQuiet_nil ?_) | refine wpXL_skip rfl ?_)
  refine wpXL_nil ?_
  go_wp2_with fail
  go_ret
  exact ⟨rfl, belowT V.out.g G.out⟩
/-- The law. -/
theorem treeLastL (t : Tr) (l : List Nd) (x : Bk) (i k : Int) (w : World) (h : SlE Ene w (sv t.n) l) (hn : l.length * 56 ≤ 140737488355328) :
    Calls Try.prog 10 #[.agg (tr t), .agg (bk x), .int .i64 i, .int .i64 k] w fun e w' => e = .returned (.bool true) ∧ Below w.heap.size w w' := by
  obtain ⟨s⟩ := t
  by_cases hy : insE l x.root x.parent x.slot = 0
  · have hln := sv_lenN h
    obtain ⟨p, n, cp⟩ := s
    dsimp only at hln
    subst hln
    obtain ⟨b1, o1, rfl, _, hx⟩ := slE_ptr h (insE_zero hy).1.pos
    exact treeLastL_good b1 o1 _ cp l x i k w h hx rfl hy
  · exact treeLastL_bad s l x i k w h hn hy
end Go.Proofs.Ytnehebipikhejaa
