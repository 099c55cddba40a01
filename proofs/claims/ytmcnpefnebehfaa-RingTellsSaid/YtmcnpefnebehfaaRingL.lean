/-
  The document's Run of rings, walked.
-/
import Derived.Test.YtmcnpefnebehfaaRingK
import Derived.Deep.Cut
import Derived.Deep.CutRange
namespace Go.Proofs.Ytmcnpefnebehfaa
open Go.RowKit


set_option maxRecDepth 100000 in
set_option maxHeartbeats 1000000 in
theorem refRun_no (c : Int) (p : Option Addr) (cap : Nat) (l : List Int) (q : Option Addr) (ncap : Nat) (ns : List Int) (w : World) (h : SlI w (.slice p l.length cap) l) (hm : mayB c l = false) :
    Calls Try.prog 15 #[.agg #[.int .i64 c, .slice p l.length cap], .slice q ns.length ncap] w (RRunIs c l ns w) := by
  have HS := Lib.hid h; clear h
  have HE : Hid (goL c l ns = l ∧ goT c l ns = []) := ⟨by unfold goL; rw [if_neg (by rw [hm]; exact Bool.false_ne_true)], by unfold goT; rw [if_neg (by rw [hm]; exact Bool.false_ne_true)]⟩
  unfold RRunIs
  rw [HE.out.1, HE.out.2]
  have c1 := fun W => refMay_any c p cap l W
  rw [hm] at c1
  obtain ⟨W0, hW0⟩ : ∃ W0, W0 = (w.alloc (.cells #[.int .i64 c, .slice p l.length cap] 24)).alloc (.cells #[.int .i64 0, .slice none 0 0] 24) := ⟨_, rfl⟩
  have HB : Hid (Below w.heap.size w W0) := by rw [hW0]; exact ((Below.refl w.heap.size w).alloc (Nat.le_refl _) _).alloc (by simp) _
  have M0 : Hid (W0.heap[w.heap.size]? = some (.cells #[.int .i64 c, .slice p l.length cap] 24 (0, 0))) := by rw [hW0]; exact heap_alloc2_old w _ _
  have N0 : Hid (W0.heap[w.heap.size + 1]? = some (.cells #[.int .i64 0, .slice none 0 0] 24 (0, 0))) := by rw [hW0]; exact heap_alloc2_new w _ _
  have HW := Lib.hid hW0
  have HC := Lib.hid c1
  clear hW0 hm HE c1
  by_cases hn : ns.length = 0
  · have hz : ns = [] := List.length_eq_zero_iff.1 hn
    subst hz
    go_enter Try.func15, Try.ntmps15
    go_wp2_with fail
    rw [← HW.out]
    refine (HC.out _).mono ?_
    rintro e w1 ⟨rfl, g1⟩
    have N1 := Lib.hid (blk_keep g1 N0.out)
    have B1 := Lib.hid (belowT HB.out g1)
    obtain ⟨x0, x1, _, _, xl⟩ := cells2 (blk_keep g1 M0.out)
    obtain ⟨z0, z1, q0, q1, zl⟩ := cells2 N1.out
    clear g1
    go_wp2_with fail
    refine wp_loop_rounds 1 ?_
    rw [rounds_succ]
    go_wp2_with fail
    exact bodyPost_ret (results_aggI2 Try.isAgg24 Try.sizeOf24 _ 4 5 rfl _ _ _ _ _ rfl rfl (ring_put N1.out _ _)) rfl (by
      have HG := (B1.out.setCell (p := ⟨w.heap.size + 1, 0, none⟩) (by show w.heap.size ≤ w.heap.size + 1; omega) (.int .i64 c)).setCell (p := ⟨w.heap.size + 1, 1, none⟩) (by show w.heap.size ≤ w.heap.size + 1; omega) (.slice p l.length cap)
      exact ⟨_, _, rfl, slI_keep HG HS.out, slI_nil _ _ _, HG⟩)
  · have i1 : (0 : Int) < (ns.length : Int) := by omega
    go_enter Try.func15, Try.ntmps15
    go_wp2_with fail
    rw [← HW.out]
    refine (HC.out _).mono ?_
    rintro e w1 ⟨rfl, g1⟩
    have N1 := Lib.hid (blk_keep g1 N0.out)
    have B1 := Lib.hid (belowT HB.out g1)
    obtain ⟨x0, x1, _, _, xl⟩ := cells2 (blk_keep g1 M0.out)
    obtain ⟨z0, z1, q0, q1, zl⟩ := cells2 N1.out
    clear g1
    go_wp2_with fail
    refine wp_loop_rounds 1 ?_
    rw [rounds_succ]
    go_wp2_with fail
    exact bodyPost_ret (results_aggI2 Try.isAgg24 Try.sizeOf24 _ 4 5 rfl _ _ _ _ _ rfl rfl (ring_put N1.out _ _)) rfl (by
      have HG := (B1.out.setCell (p := ⟨w.heap.size + 1, 0, none⟩) (by show w.heap.size ≤ w.heap.size + 1; omega) (.int .i64 c)).setCell (p := ⟨w.heap.size + 1, 1, none⟩) (by show w.heap.size ≤ w.heap.size + 1; omega) (.slice p l.length cap)
      exact ⟨_, _, rfl, slI_keep HG HS.out, slI_nil _ _ _, HG⟩)

set_option maxRecDepth 100000 in
set_option maxHeartbeats 2000000 in
theorem refRun_yes (c : Int) (p : Option Addr) (cap : Nat) (l : List Int) (q : Option Addr) (ncap : Nat) (ns : List Int) (w : World) (h : SlI w (.slice p l.length cap) l) (hn : SlI w (.slice q ns.length ncap) ns) (hpb : Apt (.slice p l.length cap) (.slice none 0 0) w.heap.size (w.heap.size + 2)) (hm : mayB c l = true) (hnl : ns.length ≤ 1000) :
    Calls Try.prog 15 #[.agg #[.int .i64 c, .slice p l.length cap], .slice q ns.length ncap] w (RRunIs c l ns w) := by
  have HS := Lib.hid h
  have HN := Lib.hid hn
  have HM := Lib.hid hm
  have HNL := Lib.hid hnl
  have HE : Hid (goL c l ns = runL c l ns ∧ goT c l ns = toldL c l ns) := ⟨by unfold goL; rw [if_pos hm], by unfold goT; rw [if_pos hm]⟩
  unfold RRunIs
  rw [HE.out.1, HE.out.2]
  have c1 := fun W => refMay_any c p cap l W
  rw [hm] at c1
  obtain ⟨W0, hW0⟩ : ∃ W0, W0 = (w.alloc (.cells #[.int .i64 c, .slice p l.length cap] 24)).alloc (.cells #[.int .i64 0, .slice none 0 0] 24) := ⟨_, rfl⟩
  have HB : Hid (Below w.heap.size w W0) := by rw [hW0]; exact ((Below.refl w.heap.size w).alloc (Nat.le_refl _) _).alloc (by simp) _
  have M0 : Hid (RunM W0 w.heap.size c l [] (.slice p l.length cap) (.slice none 0 0)) := ⟨by rw [hW0]; exact heap_alloc2_old w _ _, by rw [hW0]; exact heap_alloc2_new w _ _, slI_keep HB.out h, hpb, ownI_nil _ _⟩
  have HW := Lib.hid hW0
  have HC := Lib.hid c1
  clear hW0 hm HE c1 h hn hpb hnl
  go_enter Try.func15, Try.ntmps15
  go_wp2_with fail
  rw [← HW.out]
  clear HW
  refine (HC.out _).mono ?_
  rintro e w1 ⟨rfl, g1⟩
  have M1 := Lib.hid (M0.out.below g1)
  have B1 := Lib.hid (belowT HB.out g1)
  clear g1 M0 HC HB
  go_wp2_with fail
  go_loopw [6, 8] (fun u i wr => ∃ (j : Nat) (v : Value), j ≤ ns.length ∧ i = .int .i64 j ∧ RunM wr w.heap.size c (runL c l (ns.take j)) (toldL c l (ns.take j)) v u ∧ Below w.heap.size w wr) (fun _ i _ => ns.length - (intOf i).toNat)
  case atStart => exact ⟨0, _, Nat.zero_le _, rfl, by simpa [toldL, runL] using M1.out, B1.out⟩
  case round =>
    obtain ⟨j, v, hj, rfl, hrm, hb⟩ := hrel
    have R := Lib.hid hrm
    have B := Lib.hid hb
    clear hrm hb M1 B1
    by_cases hlj : j < ns.length
    · obtain ⟨b, off, ncap', e1, _, hlt, hx⟩ := slI_ne HN.out (by omega)
      injection e1 with e2 _ e3
      subst e2 e3
      have cj : wr.cell? ⟨b, off + j, none⟩ = some (.int .i64 (it ns j)) := (B.out.cell (p := ⟨b, off + j, none⟩) hlt).trans (hx j hlj)
      have xb : b < wr.heap.size := block_lt_of_cell cj
      have i0 : (0 : Int) ≤ (j : Int) := by omega
      have i1 : (j : Int) < (ns.length : Int) := by omega
      have u1 : (j : Int) + 1 < 10000 := by have := HNL.out; omega
      have HT : Hid (toldL c l (ns.take (j + 1)) = toldL c l (ns.take j) ++ [toldX c (runL c l (ns.take j)) (it ns j)]) := by
        show _ = _
        rw [take_snocI ns j hlj, toldL_snoc]
      have HR : Hid (runL c l (ns.take (j + 1)) = stepL c (runL c l (ns.take j)) (it ns j)) := by
        show _ = _
        rw [take_snocI ns j hlj, runL_snoc]
      have HL : Hid ((toldL c l (ns.take j)).length + 1 ≤ 1000000) := by
        show _ ≤ _
        rw [toldL_length, List.length_take]; have := HNL.out; omega
      have HK := Lib.hid (run_may (ns.take j) HM.out)
      clear hx
      generalize runL c l (ns.take j) = k at *
      generalize toldL c l (ns.take j) = t at *
      obtain ⟨p1, cap1, rfl, _⟩ := slI_shape R.out.s
      obtain ⟨x0, x1, f0, f1, xl⟩ := cells2 R.out.m
      by_cases hpos : 0 ≤ it ns j
      · have HX := Lib.hid (step_push HK.out hpos)
        have c1 := fun W (g : Below wr.heap.size wr W) => refPush_any c (.slice p1 k.length cap1) k (it ns j) W (slI_keep g R.out.s)
        unfold RPushIs at c1
        cases hpb : pushB c k with
        | true =>
          rw [hpb] at c1
          have HY : Hid (toldX c k (it ns j) = 1 ∧ stepL c k (it ns j) = pushL c k (it ns j)) := ⟨by rw [HX.out.2, hpb]; rfl, HX.out.1⟩
          have HC1 := Lib.hid c1
          clear c1 HX hpb
          generalize pushL c k (it ns j) = k2 at *
          go_upto_region 8 with fail
          go_cut [10, 11] from 17 to 55 (fun s i wx => CallS wr c (.slice p1 k.length cap1) k2 s wx ∧ i = .bool true)
          case first =>
            go_region_law (refine step_callI _ rfl rfl enters_refPush #[.agg #[.int .i64 c, .slice p1 k.length cap1], .int .i64 (it ns j)] rfl ?_; refine (HC1.out _ (by first | exact belowD (Below.refl _ _) _ | exact belowD ((Below.refl _ _).alloc (Nat.le_refl _) _) _)).mono ?_; rintro e w2 ⟨v2, rfl, hs2, ha2, g2⟩; refine ⟨_, rfl, ?_⟩; (try (obtain ⟨z0, z1, q0, q1, zl⟩ := cells2 (blk_keep g2 (new_drew wr _ _)))); (first | (have HR := Lib.hid (callS_old (c := c) R.out.s hs2 ha2 g2)) | (have HR := Lib.hid (callS_new (wr := wr) (c := c) hs2 ha2 g2))); obtain ⟨p2, cap2, rfl, _⟩ := slI_shape hs2)
            all_goals (go_wp2_with fail; go_meet; exact ⟨HR.out, rfl⟩)
          case rest =>
            obtain ⟨⟨g, v2, rfl, hg, hs2, ha2, g2, hge⟩, rfl⟩ := hcut
            obtain ⟨hs3, ha3, ho3, hm3, hn3⟩ := R.out.call g2 hs2 ha2
            have R2 := Lib.hid (RunM.store hs3 ha3 ho3 hm3 hn3)
            have B2 := Lib.hid (((belowT B.out g2).setCell (p := ⟨w.heap.size, 0, none⟩) (Nat.le_refl _) (.int .i64 c)).setCell (p := ⟨w.heap.size, 1, none⟩) (Nat.le_refl _) v2)
            obtain ⟨p2, cap2, rfl, _⟩ := slI_shape hs2
            obtain ⟨y0, y1, h0, h1, yl⟩ := cells2 hg
            obtain ⟨x0, x1, f0, f1, xl⟩ := cells2 hm3
            have HZ2 : Hid (w.heap.size + 2 ≤ ((wc.setCell ⟨w.heap.size, 0, none⟩ (.int .i64 c)).setCell ⟨w.heap.size, 1, none⟩ (.slice p2 k2.length cap2)).heap.size) := by
              have := (Array.getElem?_eq_some_iff.1 R2.out.n).1; show _ ≤ _; omega
            clear hs2 ha2 g2 hge hs3 ha3 ho3 hm3 hn3 hg
            go_wp2_with (at_builtin; refine wpList_append_ints _ rfl (.tmp 52) (.tmp 54) rfl (w.heap.size + 2) _ _ rfl (ownI_alloc R2.out.o _) _ [1] rfl (slI_lit _ [1] _ _ _ (by simp [World.setCell]) rfl) HL.out (by have := HZ2.out; simp; omega) ?_; intro v4 w4 ho4 hg4)
            have R4 := Lib.hid ((R2.out.alloc _).grow hg4 ho4)
            have B4 := Lib.hid (B2.out.trans ((GrI.alloc hg4).own (ownI_base R2.out.o (show w.heap.size ≤ _ by omega)) B2.out.size))
            clear ho4 hg4
            go_roundw
            case rel => exact ⟨j + 1, _, by omega, by go_num, by rw [HT.out, HR.out, HY.out.1, HY.out.2]; exact R4.out, B4.out⟩
            case measure => simp [intOf]; omega
        | false =>
          rw [hpb] at c1
          have HY : Hid (toldX c k (it ns j) = 0 ∧ stepL c k (it ns j) = pushL c k (it ns j)) := ⟨by rw [HX.out.2, hpb]; rfl, HX.out.1⟩
          have HC1 := Lib.hid c1
          clear c1 HX hpb
          generalize pushL c k (it ns j) = k2 at *
          go_upto_region 8 with fail
          go_cut [10, 11] from 17 to 55 (fun s i wx => CallS wr c (.slice p1 k.length cap1) k2 s wx ∧ i = .bool false)
          case first =>
            go_region_law (refine step_callI _ rfl rfl enters_refPush #[.agg #[.int .i64 c, .slice p1 k.length cap1], .int .i64 (it ns j)] rfl ?_; refine (HC1.out _ (by first | exact belowD (Below.refl _ _) _ | exact belowD ((Below.refl _ _).alloc (Nat.le_refl _) _) _)).mono ?_; rintro e w2 ⟨v2, rfl, hs2, ha2, g2⟩; refine ⟨_, rfl, ?_⟩; (try (obtain ⟨z0, z1, q0, q1, zl⟩ := cells2 (blk_keep g2 (new_drew wr _ _)))); (first | (have HR := Lib.hid (callS_old (c := c) R.out.s hs2 ha2 g2)) | (have HR := Lib.hid (callS_new (wr := wr) (c := c) hs2 ha2 g2))); obtain ⟨p2, cap2, rfl, _⟩ := slI_shape hs2)
            all_goals (go_wp2_with fail; go_meet; exact ⟨HR.out, rfl⟩)
          case rest =>
            obtain ⟨⟨g, v2, rfl, hg, hs2, ha2, g2, hge⟩, rfl⟩ := hcut
            obtain ⟨hs3, ha3, ho3, hm3, hn3⟩ := R.out.call g2 hs2 ha2
            have R2 := Lib.hid (RunM.store hs3 ha3 ho3 hm3 hn3)
            have B2 := Lib.hid (((belowT B.out g2).setCell (p := ⟨w.heap.size, 0, none⟩) (Nat.le_refl _) (.int .i64 c)).setCell (p := ⟨w.heap.size, 1, none⟩) (Nat.le_refl _) v2)
            obtain ⟨p2, cap2, rfl, _⟩ := slI_shape hs2
            obtain ⟨y0, y1, h0, h1, yl⟩ := cells2 hg
            obtain ⟨x0, x1, f0, f1, xl⟩ := cells2 hm3
            have HZ2 : Hid (w.heap.size + 2 ≤ ((wc.setCell ⟨w.heap.size, 0, none⟩ (.int .i64 c)).setCell ⟨w.heap.size, 1, none⟩ (.slice p2 k2.length cap2)).heap.size) := by
              have := (Array.getElem?_eq_some_iff.1 R2.out.n).1; show _ ≤ _; omega
            clear hs2 ha2 g2 hge hs3 ha3 ho3 hm3 hn3 hg
            go_wp2_with (at_builtin; refine wpList_append_ints _ rfl (.tmp 52) (.tmp 54) rfl (w.heap.size + 2) _ _ rfl (ownI_alloc R2.out.o _) _ [0] rfl (slI_lit _ [0] _ _ _ (by simp [World.setCell]) rfl) HL.out (by have := HZ2.out; simp; omega) ?_; intro v4 w4 ho4 hg4)
            have R4 := Lib.hid ((R2.out.alloc _).grow hg4 ho4)
            have B4 := Lib.hid (B2.out.trans ((GrI.alloc hg4).own (ownI_base R2.out.o (show w.heap.size ≤ _ by omega)) B2.out.size))
            clear ho4 hg4
            go_roundw
            case rel => exact ⟨j + 1, _, by omega, by go_num, by rw [HT.out, HR.out, HY.out.1, HY.out.2]; exact R4.out, B4.out⟩
            case measure => simp [intOf]; omega
      · have hneg : it ns j < 0 := by omega
        have HX := Lib.hid (step_pop HK.out hneg)
        have c1 := fun W (g : Below wr.heap.size wr W) => refPop_any c (.slice p1 k.length cap1) k W (slI_keep g R.out.s)
        unfold RPopIs at c1
        clear hpos
        cases hpb : popB c k with
        | true =>
          rw [hpb] at c1
          have HY : Hid (toldX c k (it ns j) = popX c k ∧ stepL c k (it ns j) = popL c k) := ⟨by rw [HX.out.2, hpb]; rfl, HX.out.1⟩
          have HC1 := Lib.hid c1
          clear c1 HX hpb
          generalize popL c k = k2 at *
          generalize popX c k = y at *
          go_wp2_with fail
          refine (HC1.out _ (Below.refl _ _)).mono ?_
          rintro e w2 ⟨v2, rfl, hs2, ha2, g2⟩
          obtain ⟨hs3, ha3, ho3, hm3, hn3⟩ := R.out.call g2 hs2 ha2
          have R2 := Lib.hid (RunM.store hs3 ha3 ho3 hm3 hn3)
          have B2 := Lib.hid (((belowT B.out g2).setCell (p := ⟨w.heap.size, 0, none⟩) (Nat.le_refl _) (.int .i64 c)).setCell (p := ⟨w.heap.size, 1, none⟩) (Nat.le_refl _) v2)
          obtain ⟨p2, cap2, rfl, _⟩ := slI_shape hs2
          clear x0 x1 f0 f1 xl
          obtain ⟨x0, x1, f0, f1, xl⟩ := cells2 hm3
          have HZ2 : Hid (w.heap.size + 2 ≤ ((w2.setCell ⟨w.heap.size, 0, none⟩ (.int .i64 c)).setCell ⟨w.heap.size, 1, none⟩ (.slice p2 k2.length cap2)).heap.size) := by
            have := (Array.getElem?_eq_some_iff.1 R2.out.n).1; show _ ≤ _; omega
          clear hs2 ha2 g2 hs3 ha3 ho3 hm3 hn3
          go_wp2_with (at_builtin; refine wpList_append_ints _ rfl (.tmp 52) (.tmp 54) rfl (w.heap.size + 2) _ _ rfl (ownI_alloc (ownI_alloc R2.out.o _) _) _ [y] rfl (slI_lit _ [y] _ _ _ (by simp [World.setCell]) rfl) HL.out (by have := HZ2.out; simp; omega) ?_; intro v4 w4 ho4 hg4)
          have R4 := Lib.hid (((R2.out.alloc _).alloc _).grow hg4 ho4)
          have B4 := Lib.hid (B2.out.trans ((GrI.alloc (GrI.alloc hg4)).own (ownI_base R2.out.o (show w.heap.size ≤ _ by omega)) B2.out.size))
          clear ho4 hg4
          go_roundw
          case rel => exact ⟨j + 1, _, by omega, by go_num, by rw [HT.out, HR.out, HY.out.1, HY.out.2]; exact R4.out, B4.out⟩
          case measure => simp [intOf]; omega
        | false =>
          rw [hpb] at c1
          have HY : Hid (toldX c k (it ns j) = -1 ∧ stepL c k (it ns j) = popL c k) := ⟨by rw [HX.out.2, hpb]; rfl, HX.out.1⟩
          have HC1 := Lib.hid c1
          clear c1 HX hpb
          generalize popL c k = k2 at *
          generalize popX c k = y at *
          go_wp2_with fail
          refine (HC1.out _ (Below.refl _ _)).mono ?_
          rintro e w2 ⟨v2, rfl, hs2, ha2, g2⟩
          obtain ⟨hs3, ha3, ho3, hm3, hn3⟩ := R.out.call g2 hs2 ha2
          have R2 := Lib.hid (RunM.store hs3 ha3 ho3 hm3 hn3)
          have B2 := Lib.hid (((belowT B.out g2).setCell (p := ⟨w.heap.size, 0, none⟩) (Nat.le_refl _) (.int .i64 c)).setCell (p := ⟨w.heap.size, 1, none⟩) (Nat.le_refl _) v2)
          obtain ⟨p2, cap2, rfl, _⟩ := slI_shape hs2
          clear x0 x1 f0 f1 xl
          obtain ⟨x0, x1, f0, f1, xl⟩ := cells2 hm3
          have HZ2 : Hid (w.heap.size + 2 ≤ ((w2.setCell ⟨w.heap.size, 0, none⟩ (.int .i64 c)).setCell ⟨w.heap.size, 1, none⟩ (.slice p2 k2.length cap2)).heap.size) := by
            have := (Array.getElem?_eq_some_iff.1 R2.out.n).1; show _ ≤ _; omega
          clear hs2 ha2 g2 hs3 ha3 ho3 hm3 hn3
          go_wp2_with (at_builtin; refine wpList_append_ints _ rfl (.tmp 52) (.tmp 54) rfl (w.heap.size + 2) _ _ rfl (ownI_alloc (ownI_alloc R2.out.o _) _) _ [(-1)] rfl (slI_lit _ [(-1)] _ _ _ (by simp [World.setCell]) rfl) HL.out (by have := HZ2.out; simp; omega) ?_; intro v4 w4 ho4 hg4)
          have R4 := Lib.hid (((R2.out.alloc _).alloc _).grow hg4 ho4)
          have B4 := Lib.hid (B2.out.trans ((GrI.alloc (GrI.alloc hg4)).own (ownI_base R2.out.o (show w.heap.size ≤ _ by omega)) B2.out.size))
          clear ho4 hg4
          go_roundw
          case rel => exact ⟨j + 1, _, by omega, by go_num, by rw [HT.out, HR.out, HY.out.1, HY.out.2]; exact R4.out, B4.out⟩
          case measure => simp [intOf]; omega
    · obtain rfl : j = ns.length := by omega
      have hfull : ns.take ns.length = ns := List.take_length
      have R1 : RunM wr w.heap.size c (runL c l ns) (toldL c l ns) v u6 := by have := R.out; rwa [hfull] at this
      have R2 := Lib.hid R1
      clear R hfull R1
      obtain ⟨p1, cap1, hv, _⟩ := slI_shape R2.out.s
      obtain ⟨n1, hn1⟩ : ∃ n1, n1 = (runL c l ns).length := ⟨_, rfl⟩
      rw [← hn1] at hv
      clear hn1
      subst hv
      obtain ⟨x0, x1, _, _, xl⟩ := cells2 R2.out.m
      obtain ⟨z0, z1, q0, q1, zl⟩ := cells2 R2.out.n
      go_wp2_with fail
      exact bodyPost_ret (results_aggI2 Try.isAgg24 Try.sizeOf24 _ 4 5 rfl _ _ _ _ _ rfl rfl (ring_put R2.out.n _ _)) rfl (by
        have HG := (B.out.setCell (p := ⟨w.heap.size + 1, 0, none⟩) (by show w.heap.size ≤ w.heap.size + 1; omega) (.int .i64 c)).setCell (p := ⟨w.heap.size + 1, 1, none⟩) (by show w.heap.size ≤ w.heap.size + 1; omega) (.slice p1 n1 cap1)
        exact ⟨_, _, rfl, R2.out.result.1, R2.out.result.2, HG⟩)
/-- The document's Run of any ring. -/
theorem refRun_any (c : Int) (v : Value) (l : List Int) (vn : Value) (ns : List Int) (w : World) (h : SlI w v l) (hn : SlI w vn ns) (hnl : ns.length ≤ 1000) :
    Calls Try.prog 15 #[.agg #[.int .i64 c, v], vn] w (RRunIs c l ns w) := by
  have hs := h
  have hns := hn
  obtain ⟨p, cap, rfl, _⟩ := slI_shape h
  obtain ⟨q, ncap, rfl, _⟩ := slI_shape hn
  cases hm : mayB c l with
  | false => exact refRun_no c p cap l q ncap ns w hs hm
  | true => exact refRun_yes c p cap l q ncap ns w hs hns (fun p' n' cap' b e hz hb => ⟨.inl (slI_lt hs e hz hb), fun e => by cases e⟩) hm hnl
end Go.Proofs.Ytmcnpefnebehfaa
