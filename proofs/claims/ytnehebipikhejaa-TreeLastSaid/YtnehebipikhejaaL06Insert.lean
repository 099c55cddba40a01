/-
  The law TreeInsert, walked.
-/
import Derived.Test.YtnehebipikhejaaLaw06
import Derived.Test.YtnehebipikhejaaP06Insert
import Derived.Test.YtnehebipikhejaaP06Same
namespace Go.Proofs.Ytnehebipikhejaa
open Go.RowKit

set_option maxRecDepth 100000 in
set_option maxHeartbeats 4000000 in
theorem treeInsertL_no (s : SlV) (l : List Nd) (x : Bk) (w : World) (h : SlE Ene w (sv s) l) (hm : decide (MayT l) = false) :
    Calls Try.prog 4 #[.agg (tr ⟨s⟩), .agg (bk x)] w fun e w' => e = .returned (.bool true) ∧ Below w.heap.size w w' := by
  have HM := Lib.hid (fun W (g : Below w.heap.size w W) => treeMay s l W (slE_keep g h))
  rw [hm] at HM
  obtain ⟨W0, hW0⟩ : ∃ W0, W0 = (w.alloc (.cells (tr ⟨s⟩) 24)).alloc (.cells (bk x) 29) := ⟨_, rfl⟩
  obtain ⟨hB, h0, h1, hz⟩ := heap2 w _ _ _ _ W0 hW0
  have HB := Lib.hid hB
  have M0 := Lib.hid h0
  have HW := Lib.hid hW0
  clear hW0 h hm hB h0 h1 hz
  go_enter Try.func4, Try.ntmps4
  go_wp2_with fail
  rw [← HW.out]
  refine (awake_any _).mono ?_
  rintro e w1 ⟨rfl, g1⟩
  have G1 := Lib.hid (belowT HB.out g1)
  have z1 := (tr_cells (blk_keep g1 M0.out)).2.1
  clear g1
  go_wp2_with fail
  refine (HM.out w1 G1.out).mono ?_
  rintro e w2 ⟨rfl, g2⟩
  have G2 := Lib.hid (belowT G1.out g2)
  clear g2 z1
  go_wp2_with fail
  go_ret
  exact ⟨rfl, G2.out⟩

set_option maxRecDepth 100000 in
set_option maxHeartbeats 8000000 in
theorem treeInsertL_bad (b1 o1 n cp : Nat) (l : List Nd) (x : Bk) (w : World) (h : SlE Ene w (.slice (some ⟨b1, o1, none⟩) n cp) l) (hx : w.rangeAt b1 o1 (cellsE Ene l)) (hl : l.length = n) (hm : MayT l) (hy : insE l x.root x.parent x.slot ≠ 0) :
    Calls Try.prog 4 #[.agg (tr ⟨⟨some ⟨b1, o1, none⟩, n, cp⟩⟩), .agg (bk x)] w fun e w' => e = .returned (.bool true) ∧ Below w.heap.size w w' := by
  have HM : Hid (∀ W, SlE Ene W (.slice (some ⟨b1, o1, none⟩) n cp) l → Calls Try.prog 24 #[.agg (tr ⟨⟨some ⟨b1, o1, none⟩, n, cp⟩⟩)] W fun e w' => e = .returned (.bool true) ∧ Below W.heap.size W w') := fun W g => by
    have := treeMay ⟨some ⟨b1, o1, none⟩, n, cp⟩ l W g
    rwa [decide_eq_true hm] at this
  have HIn := Lib.hid (fun W (g : SlE Ene W (.slice (some ⟨b1, o1, none⟩) n cp) l) => treeInsert ⟨some ⟨b1, o1, none⟩, n, cp⟩ l x W g (by have := hm.le; omega))
  obtain ⟨er, her⟩ : ∃ er, er = insE l x.root x.parent x.slot := ⟨_, rfl⟩
  have hil : insL l x.root x.parent x.slot x.just = l := by unfold insL; rw [if_neg hy]
  rw [hil, ← her] at HIn
  rw [← her] at hy
  obtain ⟨W0, hW0⟩ : ∃ W0, W0 = (w.alloc (.cells (tr ⟨⟨some ⟨b1, o1, none⟩, n, cp⟩⟩) 24)).alloc (.cells (bk x) 29) := ⟨_, rfl⟩
  obtain ⟨hB, h0, h1, hz⟩ := heap2 w _ _ _ _ W0 hW0
  have V : Hid (Tv w W0 w.heap.size b1 o1 n cp l) := ⟨h0, slE_keep hB h, keepR hB hx, hB⟩
  have B := Lib.hid h1
  have HW := Lib.hid hW0
  have HMm := Lib.hid hm
  have t1 : ((er : Int) != 0) = true := by rw [bne_iff_ne]; omega
  have t1' : ((er : Int) == 0) = false := by rw [beq_eq_false_iff_ne]; omega
  clear h hx hl hm hy her hil hW0 hB h0 h1 hz
  go_enter Try.func4, Try.ntmps4
  go_wp2_with fail
  rw [← HW.out]
  refine (awake_any _).mono ?_
  rintro e w1 ⟨rfl, g⟩
  replace V := Lib.hid (V.out.keep g)
  replace B := Lib.hid (blk_keep g B.out)
  have z1 := V.out.z1
  clear g
  go_wp2_with fail
  refine (HM.out w1 V.out.s).mono ?_
  rintro e w2 ⟨rfl, g⟩
  replace V := Lib.hid (V.out.keep g)
  replace B := Lib.hid (blk_keep g B.out)
  replace z1 := V.out.z1
  have y1 := ldA_block B.out (bk_size x)
  clear g
  go_wp2_with fail
  refine (HIn.out w2 V.out.s).mono ?_
  rintro e w3 ⟨s3, rfl, hs, g⟩
  obtain ⟨W4, hW4⟩ : ∃ W4, W4 = w3.alloc (.cells (tr ⟨s3⟩) 24) := ⟨_, rfl⟩
  replace V : Hid (Tv w W4 w.heap.size b1 o1 n cp l) := by rw [hW4]; exact (V.out.keep g).keep below1
  have S4 : Hid (SlE Ene W4 (sv s3) l) := by rw [hW4]; exact slE_keep below1 hs
  have HW4 := Lib.hid hW4
  clear hs g z1 y1 hW4
  have z1 : ldA (w3.alloc (.cells (tr ⟨s3⟩) 24)) (.pointer (some ⟨w.heap.size, 0, none⟩)) 1 = some (tr ⟨⟨some ⟨b1, o1, none⟩, n, cp⟩⟩) := by rw [← HW4.out]; exact V.out.z1
  go_wp2_with fail
  rw [← HW4.out]
  have hsm := treeSame s3 ⟨some ⟨b1, o1, none⟩, n, cp⟩ l l W4 S4.out V.out.s (by have := HMm.out.le; omega)
  rw [decide_eq_true rfl] at hsm
  refine hsm.mono ?_
  rintro e w5 ⟨rfl, g⟩
  replace V := Lib.hid (V.out.keep g)
  clear g z1 hsm
  go_wp2_with fail
  go_ret
  exact ⟨rfl, V.out.g⟩

theorem nds_just {w : World} {b off : Nat} {l : List Nd} (h : w.rangeAt b off (cellsE Ene l)) {i : Nat} (hi : i < l.length) : w.cell? ⟨b, off + i * 35 + 34, none⟩ = some (.int .u64 ((nd l i).just.toNat : Int)) := by
  rw [nd_in l hi]
  exact ne_rd_just (range_at h hi)

set_option maxRecDepth 100000 in
set_option maxHeartbeats 8000000 in
theorem treeInsertL_good (b1 o1 n cp : Nat) (l : List Nd) (x : Bk) (w : World) (h : SlE Ene w (.slice (some ⟨b1, o1, none⟩) n cp) l) (hx : w.rangeAt b1 o1 (cellsE Ene l)) (hl : l.length = n) (hy : insE l x.root x.parent x.slot = 0) :
    Calls Try.prog 4 #[.agg (tr ⟨⟨some ⟨b1, o1, none⟩, n, cp⟩⟩), .agg (bk x)] w fun e w' => e = .returned (.bool true) ∧ Below w.heap.size w w' := by
  obtain ⟨hm, -, ⟨q, hq, hql, -, -⟩, -, hn12⟩ := insE_zero hy
  have HM : Hid (∀ W, SlE Ene W (.slice (some ⟨b1, o1, none⟩) n cp) l → Calls Try.prog 24 #[.agg (tr ⟨⟨some ⟨b1, o1, none⟩, n, cp⟩⟩)] W fun e w' => e = .returned (.bool true) ∧ Below W.heap.size W w') := fun W g => by
    have := treeMay ⟨some ⟨b1, o1, none⟩, n, cp⟩ l W g
    rwa [decide_eq_true hm] at this
  have HIn := Lib.hid (fun W (g : SlE Ene W (.slice (some ⟨b1, o1, none⟩) n cp) l) => treeInsert ⟨some ⟨b1, o1, none⟩, n, cp⟩ l x W g (by have := hm.le; omega))
  have hil : insL l x.root x.parent x.slot x.just = l ++ [insN l x.root x.parent x.slot x.just] := by unfold insL; rw [if_pos hy]
  rw [hil, hy] at HIn
  have hm' := ins_may x.just hy
  obtain ⟨ha1, ha2⟩ := ins_again x.just hy
  obtain ⟨m, hmm⟩ : ∃ m, m = insN l x.root x.parent x.slot x.just := ⟨_, rfl⟩
  rw [← hmm] at HIn hm' ha1 ha2
  have hlast : nd (l ++ [m]) n = m := by rw [← hl]; exact nd_last m
  have hfirst : ∀ i, i < n → nd (l ++ [m]) i = nd l i := fun i hi => nd_snoc m (by omega)
  have hil2 : insL (l ++ [m]) x.root x.parent x.slot x.just = l ++ [m] := by unfold insL; rw [if_neg (by rw [ha1]; omega)]
  obtain ⟨k, hk⟩ : ∃ k, k = l ++ [m] := ⟨_, rfl⟩
  have hkl : k.length = n + 1 := by rw [hk, List.length_append, hl]; rfl
  rw [← hk] at HIn hm' ha1 ha2 hlast hfirst hil2
  have HIn2 := Lib.hid (fun (s : SlV) W (g : SlE Ene W (sv s) k) => treeInsert s k x W g (by have := hm'.le; omega))
  rw [hil2, ha1] at HIn2
  have HPar : Hid (m.parent = (q : Int) ∧ m.slot = x.slot ∧ m.just = x.just ∧ findT l x.parent = (q : Int)) := by rw [hmm]; exact ⟨hq, rfl, rfl, hq⟩
  obtain ⟨W0, hW0⟩ : ∃ W0, W0 = (w.alloc (.cells (tr ⟨⟨some ⟨b1, o1, none⟩, n, cp⟩⟩) 24)).alloc (.cells (bk x) 29) := ⟨_, rfl⟩
  obtain ⟨hB, h0, h1, hz⟩ := heap2 w _ _ _ _ W0 hW0
  have V : Hid (Tv w W0 w.heap.size b1 o1 n cp l) := ⟨h0, slE_keep hB h, keepR hB hx, hB⟩
  have B := Lib.hid h1
  have HW := Lib.hid hW0
  have HM' := Lib.hid hm'
  have HLast := Lib.hid hlast
  have HFirst := Lib.hid hfirst
  have HL := Lib.hid hl
  have HKL := Lib.hid hkl
  have HN : Hid (n < 12) := by show n < 12; omega
  have HF := Lib.hid ha2
  clear h hx hl hm hy hil hW0 hB h0 h1 hz hm' ha1 ha2 hmm hlast hfirst hil2 hk hkl hq hql hn12
  go_enter Try.func4, Try.ntmps4
  go_wp2_with fail
  rw [← HW.out]
  refine (awake_any _).mono ?_
  rintro e w1 ⟨rfl, g⟩
  replace V := Lib.hid (V.out.keep g)
  replace B := Lib.hid (blk_keep g B.out)
  have z1 := V.out.z1
  clear g
  go_wp2_with fail
  refine (HM.out w1 V.out.s).mono ?_
  rintro e w2 ⟨rfl, g⟩
  replace V := Lib.hid (V.out.keep g)
  replace B := Lib.hid (blk_keep g B.out)
  replace z1 := V.out.z1
  have y1 := ldA_block B.out (bk_size x)
  clear g
  go_wp2_with fail
  refine (HIn.out w2 V.out.s).mono ?_
  rintro e w3 ⟨⟨p2, n2, c2⟩, rfl, hs, g⟩
  obtain rfl : n2 = n + 1 := by have := sv_lenN hs; dsimp only at this; have := HKL.out; omega
  obtain ⟨b2, o2, rfl, _, hx2⟩ := slE_ptr hs HM'.out.pos
  obtain ⟨W4, hW4⟩ : ∃ W4, W4 = w3.alloc (.cells (tr ⟨⟨some ⟨b2, o2, none⟩, n + 1, c2⟩⟩) 24) := ⟨_, rfl⟩
  replace V : Hid (Tv w W4 w.heap.size b1 o1 n cp l) := by rw [hW4]; exact (V.out.keep g).keep below1
  replace B : Hid (W4.heap[w.heap.size + 1]? = some (.cells (bk x) 29 (0, 0))) := by rw [hW4]; exact blk_keep below1 (blk_keep g B.out)
  obtain ⟨bc, hbc⟩ : ∃ bc, bc = w3.heap.size := ⟨_, rfl⟩
  have U : Hid (Tv w W4 bc b2 o2 (n + 1) c2 k) := by
    rw [hW4, hbc]
    exact ⟨heap_alloc_last w3 _, slE_keep below1 hs, keepR below1 hx2, by rw [hW4] at V; exact V.out.g⟩
  have HW4 := Lib.hid hW4
  have HBC := Lib.hid hbc
  clear hs g z1 y1 hW4 hbc hx2
  have y1 : ldA (w3.alloc (.cells (tr ⟨⟨some ⟨b2, o2, none⟩, n + 1, c2⟩⟩) 24)) (.pointer (some ⟨w.heap.size + 1, 0, none⟩)) 66 = some (bk x) := by rw [← HW4.out]; exact ldA_block B.out (bk_size x)
  go_wp2_with fail
  rw [← HW4.out, ← HBC.out]
  refine (HIn2.out ⟨some ⟨b2, o2, none⟩, n + 1, c2⟩ W4 U.out.s).mono ?_
  rintro e w5 ⟨s5, rfl, hs, g⟩
  obtain ⟨W6, hW6⟩ : ∃ W6, W6 = w5.alloc (.cells (tr ⟨s5⟩) 24) := ⟨_, rfl⟩
  have g6 : Below W4.heap.size W4 W6 := by rw [hW6]; exact belowT g below1
  replace V := Lib.hid (V.out.keep g6)
  replace U := Lib.hid (U.out.keep g6)
  replace B := Lib.hid (blk_keep g6 B.out)
  have HW6 := Lib.hid hW6
  clear hs g g6 y1 hW6
  have z0 : (w5.alloc (.cells (tr ⟨s5⟩) 24)).cell? ⟨w.heap.size, 0, none⟩ = some (.slice (some ⟨b1, o1, none⟩) n cp) := by rw [← HW6.out]; exact V.out.z0
  have c0 : (w5.alloc (.cells (tr ⟨s5⟩) 24)).cell? ⟨bc, 0, none⟩ = some (.slice (some ⟨b2, o2, none⟩) (n + 1) c2) := by rw [← HW6.out]; exact U.out.z0
  have c1 : ldA (w5.alloc (.cells (tr ⟨s5⟩) 24)) (.pointer (some ⟨bc, 0, none⟩)) 1 = some (tr ⟨⟨some ⟨b2, o2, none⟩, n + 1, c2⟩⟩) := by rw [← HW6.out]; exact U.out.z1
  have u1 : (n : Int) + 1 < 10000 := by have := HN.out; omega
  go_wp2_with fail
  rw [← HW6.out]
  have hmy := treeMay ⟨some ⟨b2, o2, none⟩, n + 1, c2⟩ k W6 U.out.s
  rw [decide_eq_true HM'.out] at hmy
  refine hmy.mono ?_
  rintro e w7 ⟨rfl, g⟩
  replace V := Lib.hid (V.out.keep g)
  replace U := Lib.hid (U.out.keep g)
  replace B := Lib.hid (blk_keep g B.out)
  clear g z0 c0 c1 hmy
  have c1 := U.out.z1
  have y1 := (bk_cells B.out).1
  go_wp2_with fail
  have hfd := treeFind ⟨some ⟨b2, o2, none⟩, n + 1, c2⟩ k x.root w7 U.out.s
  rw [HF.out, HL.out] at hfd
  refine hfd.mono ?_
  rintro e w8 ⟨rfl, g⟩
  replace V := Lib.hid (V.out.keep g)
  replace U := Lib.hid (U.out.keep g)
  replace B := Lib.hid (blk_keep g B.out)
  clear g c1 y1 hfd
  go_wp2_with fail
  go_loopw [11] (fun i wr => ∃ j : Nat, j ≤ n ∧ i = .int .i64 (j : Int) ∧ Tv w wr w.heap.size b1 o1 n cp l ∧ Tv w wr bc b2 o2 (n + 1) c2 k ∧ wr.heap[w.heap.size + 1]? = some (.cells (bk x) 29 (0, 0))) (fun i _ => n - (intOf i).toNat)
  case atStart => exact ⟨0, Nat.zero_le _, rfl, V.out, U.out, B.out⟩
  case round =>
    obtain ⟨j, hj, rfl, hv, hu, hb⟩ := hrel
    replace V := Lib.hid hv
    replace U := Lib.hid hu
    replace B := Lib.hid hb
    have z0 := V.out.z0
    have c0 := U.out.z0
    clear hv hu hb
    by_cases hlt : j < n
    · have i0 : (0 : Int) ≤ (j : Int) := by omega
      have i1 : (j : Int) < (n : Int) := by omega
      have i2 : (j : Int) < (n : Int) + 1 := by omega
      have u2 : (j : Int) + 1 < 10000 := by omega
      have y1 := nds_ld V.out.x (i := j) (by have := HL.out; omega)
      have y2 := nds_ld U.out.x (i := j) (by have := HKL.out; omega)
      rw [HFirst.out j hlt] at y2
      have HLT := Lib.hid hlt
      clear hlt hj
      go_wp2_with fail
      go_quiet (fail)
      go_wp2_with fail
      go_roundw
      case rel => exact ⟨j + 1, HLT.out, by go_num, V.out.keep (belowD (Below.refl _ _) _), U.out.keep (belowD (Below.refl _ _) _), blk_keep (belowD (Below.refl _ _) _) B.out⟩
      case measure => simp [intOf]; have := HLT.out; omega
    · obtain rfl : j = n := by omega
      have t0 : decide ((j : Int) < (j : Int)) = false := decide_eq_false (by omega)
      have t0' : decide (j < j) = false := decide_eq_false hlt
      clear hlt hj
      go_wp2_with fail
      have i0 : (0 : Int) ≤ (j : Int) := by omega
      have i1 : (j : Int) < (j : Int) + 1 := by omega
      have y1 := nds_par U.out.x (i := j) (by have := HKL.out; omega)
      have y2 := nds_slot U.out.x (i := j) (by have := HKL.out; omega)
      have y3 := nds_just U.out.x (i := j) (by have := HKL.out; omega)
      rw [HLast.out, HPar.out.1] at y1
      rw [HLast.out, HPar.out.2.1] at y2
      rw [HLast.out, HPar.out.2.2.1] at y3
      obtain ⟨-, b2', b3', b4', -, -⟩ := bk_cells B.out
      have L0 := fun p : Wd wr.drew => wd_cell c0 p
      have L1 := fun p : Wd wr.drew => wd_tr V.out.box p
      have L2 := fun p : Wd wr.drew => wd_ld b2' (by decide) p
      have L3 := fun p : Wd wr.drew => wd_cell y1 p
      have L4 := fun p : Wd wr.drew => wd_cell y2 p
      have L5 := fun p : Wd wr.drew => wd_cell y3 p
      have L6 := fun p : Wd wr.drew => wd_cell b3' p
      have L7 := fun p : Wd wr.drew => wd_cell b4' p
      refine wp_region_lex [9] (by kernel_rfl) (by kernel_rfl) (by kernel_rfl) ?_
      repeat (first | (refine wpXL_quiet rfl rfl _ cls_begin ?_; (first | go_big_quiet_step (fail) | quiet_step (fail)); refine wpQuiet_nil ?_) | refine wpXL_skip rfl ?_)
      refine wpXL_call rfl rfl rfl enters_find06 #[.agg (tr ⟨⟨some ⟨b1, o1, none⟩, j, cp⟩⟩), .agg (rc x.parent)] rfl ?_
      refine (treeFind ⟨some ⟨b1, o1, none⟩, j, cp⟩ l x.parent _ (slE_keep (belowD (Below.refl _ _) 1) V.out.s)).mono ?_
      rintro e u ⟨rfl, g⟩
      refine ⟨_, rfl, g, ?_⟩
      simp only [Act.put, List.setIfInBounds_toArray, List.set_cons_zero, List.set_cons_succ]
      rw [HPar.out.2.2.2]
      have G := Lib.hid (belowT V.out.g (belowT (belowD (Below.refl _ _) 1) g))
      clear g
      repeat (first | (refine wpXL_quiet rfl rfl _ cls_begin ?_; (first | go_big_quiet_step (fail) | quiet_step (fail)); refine wpQuiet_nil ?_) | refine wpXL_skip rfl ?_)
      refine wpXL_nil ?_
      go_wp2_with fail
      go_ret
      exact ⟨rfl, G.out⟩
/-- The law. -/
theorem treeInsertL (t : Tr) (l : List Nd) (x : Bk) (w : World) (h : SlE Ene w (sv t.n) l) :
    Calls Try.prog 4 #[.agg (tr t), .agg (bk x)] w fun e w' => e = .returned (.bool true) ∧ Below w.heap.size w w' := by
  obtain ⟨s⟩ := t
  by_cases hm : MayT l
  · have hn := sv_lenN h
    obtain ⟨p, n, cp⟩ := s
    dsimp only at hn
    subst hn
    obtain ⟨b1, o1, rfl, _, hx⟩ := slE_ptr h hm.pos
    by_cases hy : insE l x.root x.parent x.slot = 0
    · exact treeInsertL_good b1 o1 _ cp l x w h hx rfl hy
    · exact treeInsertL_bad b1 o1 _ cp l x w h hx rfl hm hy
  · exact treeInsertL_no s l x w h (decide_eq_false hm)
end Go.Proofs.Ytnehebipikhejaa
