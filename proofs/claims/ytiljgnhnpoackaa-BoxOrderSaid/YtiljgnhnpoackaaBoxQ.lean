/-
  The law BoxTells, walked. (written by wip/gen/boxTells.py)
-/
import Derived.Test.YtiljgnhnpoackaaBoxO
namespace Go.Proofs.Ytiljgnhnpoackaa
open Go.RowKit

theorem refSame_is (a b : Bx) (l k : List Nt) (w : World) (h : SlE Ent w (sv a.l) l) (h' : SlE Ent w (sv b.l) k) (hn : l.length ≤ 1000) (he : bp a l = bp b k) :
    Calls Try.prog 10 #[.agg (bx a), .agg (bx b)] w fun e w' => e = .returned (.bool true) ∧ Below w.heap.size w w' := by
  have := refSame_any a b l k w h h' hn
  rwa [sameB_iff.2 he] at this
theorem enters_refPost : ∀ args w, (callFunc 12 args).run Try.prog w = .ok (.enter 12 args) w := entersE Try.func12 (by kernel_rfl) (by kernel_rfl)
theorem enters_refSame : ∀ args w, (callFunc 10 args).run Try.prog w = .ok (.enter 10 args) w := entersE Try.func10 (by kernel_rfl) (by kernel_rfl)
theorem take_len (b : BoxP Nt) : (takeX Nt.ver b).l.length ≤ b.l.length := by
  unfold takeX
  split
  · simp
  · exact Nat.le_refl _
theorem close_len (b : BoxP Nt) : (closeX Nt.ver b).l = b.l := by
  unfold closeX
  split <;> rfl
theorem bp_l {b : Bx} {l : List Nt} {P : BoxP Nt} (e : bp b l = P) : l = P.l := congrArg BoxP.l e

set_option maxRecDepth 100000 in
set_option maxHeartbeats 2000000 in
theorem boxTells_b (b c : Bx) (n : Nt) (room : Int) (p : Option Addr) (nb cp : Nat) (w : World) (hb : sv b.l = .slice p nb cp) (hn : 60 < nb) :
    Calls Try.prog 3 #[.agg (bx b), .agg (bx c), .agg (nt n), .int .i64 room] w fun e w' => e = .returned (.bool true) ∧ Below w.heap.size w w' := by
  have t0 : decide ((60 : Int) < (nb : Int)) = true := by rw [decide_eq_true_iff]; omega
  obtain ⟨W0, hW0⟩ : ∃ W0, W0 = ((w.alloc (.cells (bx b) 24)).alloc (.cells (bx c) 24)).alloc (.cells (nt n) 31) := ⟨_, rfl⟩
  obtain ⟨hB, hM0, hM1, _, _⟩ := heap3 w _ _ _ _ _ _ W0 hW0
  have HB := Lib.hid hB
  have M0 := Lib.hid hM0
  have M1 := Lib.hid hM1
  have HW := Lib.hid hW0
  have Hb := Lib.hid hb
  clear hW0 hB hM0 hM1 hn hb
  go_enter Try.func3, Try.ntmps3
  go_wp2_with fail
  rw [← HW.out]
  refine (awake_any _).mono ?_
  rintro e w1 ⟨rfl, g1⟩
  have B1 := Lib.hid (belowT HB.out g1)
  obtain ⟨_, x1, _, _, _, xl⟩ := bx_cells (blk_keep g1 M0.out)
  rw [Hb.out] at x1
  clear g1
  go_wp2_with fail
  go_ret
  exact ⟨rfl, B1.out⟩

set_option maxRecDepth 100000 in
set_option maxHeartbeats 2000000 in
theorem boxTells_c (b c : Bx) (n : Nt) (room : Int) (p q : Option Addr) (nb cp nc cc : Nat) (w : World) (hb : sv b.l = .slice p nb cp) (hc : sv c.l = .slice q nc cc) (hnb : nb ≤ 60) (hn : 60 < nc) :
    Calls Try.prog 3 #[.agg (bx b), .agg (bx c), .agg (nt n), .int .i64 room] w fun e w' => e = .returned (.bool true) ∧ Below w.heap.size w w' := by
  have t0 : decide ((60 : Int) < (nb : Int)) = false := by rw [decide_eq_false_iff_not]; omega
  have t1 : decide ((60 : Int) < (nc : Int)) = true := by rw [decide_eq_true_iff]; omega
  obtain ⟨W0, hW0⟩ : ∃ W0, W0 = ((w.alloc (.cells (bx b) 24)).alloc (.cells (bx c) 24)).alloc (.cells (nt n) 31) := ⟨_, rfl⟩
  obtain ⟨hB, hM0, hM1, _, _⟩ := heap3 w _ _ _ _ _ _ W0 hW0
  have HB := Lib.hid hB
  have M0 := Lib.hid hM0
  have M1 := Lib.hid hM1
  have HW := Lib.hid hW0
  have Hb := Lib.hid hb
  have Hc := Lib.hid hc
  clear hW0 hB hM0 hM1 hn hb hc hnb
  go_enter Try.func3, Try.ntmps3
  go_wp2_with fail
  rw [← HW.out]
  refine (awake_any _).mono ?_
  rintro e w1 ⟨rfl, g1⟩
  have B1 := Lib.hid (belowT HB.out g1)
  obtain ⟨_, x1, _, _, _, xl⟩ := bx_cells (blk_keep g1 M0.out)
  obtain ⟨_, y1, _, _, _, yl⟩ := bx_cells (blk_keep g1 M1.out)
  rw [Hb.out] at x1
  rw [Hc.out] at y1
  clear g1
  go_wp2_with fail
  go_ret
  exact ⟨rfl, B1.out⟩

set_option maxRecDepth 100000 in
set_option maxHeartbeats 8000000 in
theorem boxTells_few (b c : Bx) (l k : List Nt) (n : Nt) (room : Int) (p q : Option Addr) (nb cp nc cc : Nat) (w : World) (hb : sv b.l = .slice p nb cp) (hc : sv c.l = .slice q nc cc) (h : SlE Ent w (sv b.l) l) (h' : SlE Ent w (sv c.l) k) (hl : l.length ≤ 60) (hnb : nb ≤ 60) (hnc : nc ≤ 60) :
    Calls Try.prog 3 #[.agg (bx b), .agg (bx c), .agg (nt n), .int .i64 room] w fun e w' => e = .returned (.bool true) ∧ Below w.heap.size w w' := by
  have t0 : decide ((60 : Int) < (nb : Int)) = false := by rw [decide_eq_false_iff_not]; omega
  have t1 : decide ((60 : Int) < (nc : Int)) = false := by rw [decide_eq_false_iff_not]; omega
  have HPo := Lib.hid (fun W (g : SlE Ent W (sv b.l) l) => post_any b n l W g (by omega))
  have HRPo := Lib.hid (fun W (g : SlE Ent W (sv b.l) l) => refPost_any b n l W g (by omega))
  have HTa := Lib.hid (fun W (g : SlE Ent W (sv b.l) l) => take_any b l W g (by omega))
  have HRTa := Lib.hid (fun W (g : SlE Ent W (sv b.l) l) => refTake_any b l W g (by omega))
  have HCl := Lib.hid (fun W (g : SlE Ent W (sv b.l) l) => close_any b l W g (by omega))
  have HRCl := Lib.hid (fun W (g : SlE Ent W (sv b.l) l) => refClose_any b l W g (by omega))
  have HMa := Lib.hid (fun W (g : SlE Ent W (sv b.l) l) => may_any b l W g)
  have HRMa := Lib.hid (fun W (g : SlE Ent W (sv b.l) l) => refMay_any b l W g (by omega))
  have HSa := Lib.hid (fun W (g : SlE Ent W (sv b.l) l) (g' : SlE Ent W (sv c.l) k) => same_any b c l k W g g' (by omega))
  have HRSa := Lib.hid (fun W (g : SlE Ent W (sv b.l) l) (g' : SlE Ent W (sv c.l) k) => refSame_any b c l k W g g' (by omega))
  have KP := Lib.hid (show (postX Nt.ver (bp b l) n).l.length ≤ 1000 by have := post_len (bp b l) n; have e : (bp b l).l = l := rfl; rw [e] at this; omega)
  have KT := Lib.hid (show (takeX Nt.ver (bp b l)).l.length ≤ 1000 by have := take_len (bp b l); have e : (bp b l).l = l := rfl; rw [e] at this; omega)
  have KC := Lib.hid (show (closeX Nt.ver (bp b l)).l.length ≤ 1000 by rw [close_len]; have e : (bp b l).l = l := rfl; rw [e]; omega)
  generalize postX Nt.ver (bp b l) n = PP at *
  generalize takeX Nt.ver (bp b l) = TT at *
  generalize closeX Nt.ver (bp b l) = CC at *
  generalize takeN Nt.ver znt (bp b l) = NN at *
  generalize takeB Nt.ver (bp b l) = ta at *
  generalize closeB Nt.ver (bp b l) = cl at *
  generalize mayX Nt.ver (bp b l) = ma at *
  generalize sameB (bp b l) (bp c k) = sa at *
  generalize hnew : newB room = nw
  generalize hroom : roomN room = ro
  have HNw : Hid (∀ W, Calls Try.prog 17 #[.int .i64 room] W fun e w' => e = .returned (.tuple #[.agg (bx nw), .bool ro]) ∧ Below W.heap.size W w') := fun W => by rw [← hnew, ← hroom]; exact new_any room W
  have HRNw : Hid (∀ W, Calls Try.prog 18 #[.int .i64 room] W fun e w' => e = .returned (.tuple #[.agg (bx nw), .bool ro]) ∧ Below W.heap.size W w') := fun W => by rw [← hnew, ← hroom]; exact refNew_any room W
  have HNS : Hid (∀ W, SlE Ent W (sv nw.l) []) := fun W => by rw [← hnew]; exact slE_nil _ _ _ _
  obtain ⟨W0, hW0⟩ : ∃ W0, W0 = ((w.alloc (.cells (bx b) 24)).alloc (.cells (bx c) 24)).alloc (.cells (nt n) 31) := ⟨_, rfl⟩
  obtain ⟨hB, hM0, hM1, hM2, _⟩ := heap3 w _ _ _ _ _ _ W0 hW0
  have B0 := Lib.hid hB
  have V0 : Hid (Vb W0 w.heap.size b l) := ⟨hM0, slE_keep hB h⟩
  have U0 : Hid (Vb W0 (w.heap.size + 1) c k) := ⟨hM1, slE_keep hB h'⟩
  have M0 := Lib.hid hM2
  have HW := Lib.hid hW0
  have Hb := Lib.hid hb
  have Hc := Lib.hid hc
  clear hW0 hB hM0 hM1 hM2 hb hc hnb hnc h h' hl hnew hroom
  go_enter Try.func3, Try.ntmps3
  go_wp2_with fail
  rw [← HW.out]
  refine (awake_any _).mono ?_
  rintro e w1 ⟨rfl, g1⟩
  have V1 := Lib.hid (V0.out.keep g1)
  have U1 := Lib.hid (U0.out.keep g1)
  have M1 := Lib.hid (blk_keep g1 M0.out)
  have B1 := Lib.hid (belowT B0.out g1)
  obtain ⟨_, x1, _, _, _, xl⟩ := bx_cells V1.out.m
  obtain ⟨_, y1, _, _, _, yl⟩ := bx_cells U1.out.m
  rw [Hb.out] at x1
  rw [Hc.out] at y1
  clear g1
  go_wp2_with fail
  clear x1 y1 xl yl
  have Lb := wd_bx V1.out.m
  have Ln := wd_nt M1.out
  refine wp_region_lex [2, 5, 6] (by kernel_rfl) (by kernel_rfl) (by kernel_rfl) ?_
  repeat (refine wpXL_quiet rfl rfl _ cls_begin ?_; (first | go_big_quiet_step (fail) | quiet_step (fail)); refine wpQuiet_nil ?_)
  refine wpXL_call rfl rfl rfl enters_post #[.agg (bx b), .agg (nt n)] rfl ?_
  refine (HPo.out w1.drew V1.out.s).mono ?_
  rintro e w2 ⟨d2, l2, rfl, e2, s2, g2⟩
  refine ⟨_, rfl, g2, ?_⟩
  simp only [Act.put, List.setIfInBounds_toArray, List.set_cons_zero, List.set_cons_succ]
  have S2 := Lib.hid s2
  have E2 := Lib.hid e2
  have G2 : Hid (Below w1.heap.size w1 w2) := belowT (belowD (Below.refl _ _) 1) g2
  clear s2 e2 g2
  repeat (refine wpXL_quiet rfl rfl _ cls_begin ?_; (first | go_big_quiet_step (fail) | quiet_step (fail)); refine wpQuiet_nil ?_)
  refine wpXL_call rfl rfl rfl enters_refPost #[.agg (bx b), .agg (nt n)] rfl ?_
  refine (HRPo.out _ (slE_keep G2.out V1.out.s)).mono ?_
  rintro e w3 ⟨d3, l3, rfl, e3, s3, g3⟩
  refine ⟨_, rfl, g3, ?_⟩
  simp only [Act.put, List.setIfInBounds_toArray, List.set_cons_zero, List.set_cons_succ]
  have S3 := Lib.hid s3
  have S2' := Lib.hid (slE_keep g3 S2.out)
  have E3 := Lib.hid (E2.out.trans e3.symm)
  have G3 : Hid (Below w1.heap.size w1 w3) := belowT G2.out g3
  have K2 := Lib.hid (show l2.length ≤ 1000 by rw [bp_l E2.out]; exact KP.out)
  clear s3 e3 g3
  repeat (refine wpXL_quiet rfl rfl _ cls_begin ?_; (first | go_big_quiet_step (fail) | quiet_step (fail)); refine wpQuiet_nil ?_)
  refine wpXL_call rfl rfl rfl enters_refSame #[.agg (bx d2), .agg (bx d3)] rfl ?_
  refine (refSame_is d2 d3 l2 l3 _ S2'.out S3.out K2.out E3.out).mono ?_
  rintro e w4 ⟨rfl, g4⟩
  refine ⟨_, rfl, g4, ?_⟩
  simp only [Act.put, List.setIfInBounds_toArray, List.set_cons_zero, List.set_cons_succ]
  have G4 : Hid (Below w1.heap.size w1 w4) := belowT G3.out g4
  clear g4
  repeat (refine wpXL_quiet rfl rfl _ cls_begin ?_; (first | go_big_quiet_step (fail) | quiet_step (fail)); refine wpQuiet_nil ?_)
  refine wpXL_nil ?_
  clear Lb Ln
  have V4 := Lib.hid (V1.out.keep G4.out)
  have U4 := Lib.hid (U1.out.keep G4.out)
  have M4 := Lib.hid (blk_keep G4.out M1.out)
  have B4 := Lib.hid (belowT B1.out G4.out)
  obtain ⟨_, _, _, _, fV, hV⟩ := bx_cells V4.out.m
  go_wp2_with fail
  refine (HTa.out _ V4.out.s).mono ?_
  rintro e w5 ⟨d5, l5, rfl, e5, s5, g5⟩
  have k5 := belowT (belowT g5 (below1 (o := .cells (bx d5) 24))) (below1 (o := .cells (nt NN) 31))
  clear fV hV
  obtain ⟨_, _, _, _, fV, hV⟩ := bx_cells (blk_keep g5 V4.out.m)
  have V5 := Lib.hid (V4.out.keep k5)
  have U5 := Lib.hid (U4.out.keep k5)
  have M5 := Lib.hid (blk_keep k5 M4.out)
  have B5 := Lib.hid (belowT B4.out k5)
  have P5 := Lib.hid ((Vb.new (x := d5) s5).keep (below1 (o := .cells (nt NN) 31)))
  have X5 : Hid (((w5.alloc (.cells (bx d5) 24)).alloc (.cells (nt NN) 31)).heap[w5.heap.size + 1]? = some (.cells (nt NN) 31 (0, 0))) := by
    have := heap_alloc_last (w5.alloc (.cells (bx d5) 24)) (.cells (nt NN) 31)
    show _ = _
    simpa using this
  have E5 := Lib.hid e5
  clear s5 e5
  clear g5 k5
  go_wp2_with fail
  refine (HRTa.out _ V5.out.s).mono ?_
  rintro e w6 ⟨d6, l6, rfl, e6, s6, g6⟩
  have k6 := belowT (belowT g6 (below1 (o := .cells (bx d6) 24))) (below1 (o := .cells (nt NN) 31))
  clear fV hV
  obtain ⟨_, _, _, _, fP, hP⟩ := bx_cells (blk_keep g6 P5.out.m)
  have V6 := Lib.hid (V5.out.keep k6)
  have U6 := Lib.hid (U5.out.keep k6)
  have P6 := Lib.hid (P5.out.keep k6)
  have M6 := Lib.hid (blk_keep k6 M5.out)
  have X6 := Lib.hid (blk_keep k6 X5.out)
  have B6 := Lib.hid (belowT B5.out k6)
  have Q6 := Lib.hid ((Vb.new (x := d6) s6).keep (below1 (o := .cells (nt NN) 31)))
  have Y6 : Hid (((w6.alloc (.cells (bx d6) 24)).alloc (.cells (nt NN) 31)).heap[w6.heap.size + 1]? = some (.cells (nt NN) 31 (0, 0))) := by
    have := heap_alloc_last (w6.alloc (.cells (bx d6) 24)) (.cells (nt NN) 31)
    show _ = _
    simpa using this
  have E6 := Lib.hid (E5.out.trans e6.symm)
  have K5 := Lib.hid (show l5.length ≤ 1000 by rw [bp_l E5.out]; exact KT.out)
  clear s6 e6
  clear g6 k6
  go_wp2_with fail
  refine (refSame_is d5 d6 l5 l6 _ P6.out.s Q6.out.s K5.out E6.out).mono ?_
  rintro e w7 ⟨rfl, g7⟩
  have k7 := g7
  clear fP hP
  obtain ⟨_, _, _, _, fV, hV⟩ := bx_cells (blk_keep g7 V6.out.m)
  have V7 := Lib.hid (V6.out.keep k7)
  have U7 := Lib.hid (U6.out.keep k7)
  have P7 := Lib.hid (P6.out.keep k7)
  have Q7 := Lib.hid (Q6.out.keep k7)
  have M7 := Lib.hid (blk_keep k7 M6.out)
  have X7 := Lib.hid (blk_keep k7 X6.out)
  have Y7 := Lib.hid (blk_keep k7 Y6.out)
  have B7 := Lib.hid (belowT B6.out k7)
  clear g7 k7
  go_wp2_with fail
  refine (HCl.out _ V7.out.s).mono ?_
  rintro e w8 ⟨d8, l8, rfl, e8, s8, g8⟩
  have k8 := belowT g8 (below1 (o := .cells (bx d8) 24))
  clear fV hV
  obtain ⟨_, _, _, _, fV, hV⟩ := bx_cells (blk_keep g8 V7.out.m)
  have V8 := Lib.hid (V7.out.keep k8)
  have U8 := Lib.hid (U7.out.keep k8)
  have M8 := Lib.hid (blk_keep k8 M7.out)
  have X8 := Lib.hid (blk_keep k8 X7.out)
  have Y8 := Lib.hid (blk_keep k8 Y7.out)
  have B8 := Lib.hid (belowT B7.out k8)
  have P8 := Lib.hid (Vb.new (x := d8) s8)
  have E8 := Lib.hid e8
  clear s8 e8
  clear g8 k8
  go_wp2_with fail
  refine (HRCl.out _ V8.out.s).mono ?_
  rintro e w9 ⟨d9, l9, rfl, e9, s9, g9⟩
  have k9 := belowT g9 (below1 (o := .cells (bx d9) 24))
  clear fV hV
  obtain ⟨_, _, _, _, fP, hP⟩ := bx_cells (blk_keep g9 P8.out.m)
  have V9 := Lib.hid (V8.out.keep k9)
  have U9 := Lib.hid (U8.out.keep k9)
  have P9 := Lib.hid (P8.out.keep k9)
  have M9 := Lib.hid (blk_keep k9 M8.out)
  have X9 := Lib.hid (blk_keep k9 X8.out)
  have Y9 := Lib.hid (blk_keep k9 Y8.out)
  have B9 := Lib.hid (belowT B8.out k9)
  have Q9 := Lib.hid (Vb.new (x := d9) s9)
  have E9 := Lib.hid (E8.out.trans e9.symm)
  have K8 := Lib.hid (show l8.length ≤ 1000 by rw [bp_l E8.out]; exact KC.out)
  clear s9 e9
  clear g9 k9
  go_wp2_with fail
  refine (refSame_is d8 d9 l8 l9 _ P9.out.s Q9.out.s K8.out E9.out).mono ?_
  rintro e w10 ⟨rfl, g10⟩
  have k10 := g10
  clear fP hP
  have V10 := Lib.hid (V9.out.keep k10)
  have U10 := Lib.hid (U9.out.keep k10)
  have P10 := Lib.hid (P9.out.keep k10)
  have Q10 := Lib.hid (Q9.out.keep k10)
  have M10 := Lib.hid (blk_keep k10 M9.out)
  have X10 := Lib.hid (blk_keep k10 X9.out)
  have Y10 := Lib.hid (blk_keep k10 Y9.out)
  have B10 := Lib.hid (belowT B9.out k10)
  clear g10 k10
  go_wp2_with fail
  refine (HNw.out _).mono ?_
  rintro e w11 ⟨rfl, g11⟩
  have k11 := belowT g11 (below1 (o := .cells (bx nw) 24))
  have V11 := Lib.hid (V10.out.keep k11)
  have U11 := Lib.hid (U10.out.keep k11)
  have M11 := Lib.hid (blk_keep k11 M10.out)
  have X11 := Lib.hid (blk_keep k11 X10.out)
  have Y11 := Lib.hid (blk_keep k11 Y10.out)
  have B11 := Lib.hid (belowT B10.out k11)
  have P11 := Lib.hid (Vb.new (x := nw) (HNS.out w11))
  clear g11 k11
  go_wp2_with fail
  refine (HRNw.out _).mono ?_
  rintro e w12 ⟨rfl, g12⟩
  have k12 := belowT g12 (below1 (o := .cells (bx nw) 24))
  obtain ⟨_, _, _, _, fP, hP⟩ := bx_cells (blk_keep g12 P11.out.m)
  have V12 := Lib.hid (V11.out.keep k12)
  have U12 := Lib.hid (U11.out.keep k12)
  have P12 := Lib.hid (P11.out.keep k12)
  have M12 := Lib.hid (blk_keep k12 M11.out)
  have X12 := Lib.hid (blk_keep k12 X11.out)
  have Y12 := Lib.hid (blk_keep k12 Y11.out)
  have B12 := Lib.hid (belowT B11.out k12)
  have Q12 := Lib.hid (Vb.new (x := nw) (HNS.out w12))
  clear g12 k12
  go_wp2_with fail
  refine (refSame_is nw nw [] [] _ P12.out.s Q12.out.s (by simp) rfl).mono ?_
  rintro e w13 ⟨rfl, g13⟩
  have k13 := g13
  clear fP hP
  obtain ⟨_, _, _, _, fV, hV⟩ := bx_cells (blk_keep g13 V12.out.m)
  have V13 := Lib.hid (V12.out.keep k13)
  have U13 := Lib.hid (U12.out.keep k13)
  have P13 := Lib.hid (P12.out.keep k13)
  have Q13 := Lib.hid (Q12.out.keep k13)
  have M13 := Lib.hid (blk_keep k13 M12.out)
  have X13 := Lib.hid (blk_keep k13 X12.out)
  have Y13 := Lib.hid (blk_keep k13 Y12.out)
  have B13 := Lib.hid (belowT B12.out k13)
  clear g13 k13
  go_wp2_with fail
  refine (HRMa.out _ V13.out.s).mono ?_
  rintro e w14 ⟨rfl, g14⟩
  have k14 := g14
  clear fV hV
  obtain ⟨_, _, _, _, fV, hV⟩ := bx_cells (blk_keep g14 V13.out.m)
  obtain ⟨_, _, _, _, fU, hU⟩ := bx_cells (blk_keep g14 U13.out.m)
  have V14 := Lib.hid (V13.out.keep k14)
  have U14 := Lib.hid (U13.out.keep k14)
  have M14 := Lib.hid (blk_keep k14 M13.out)
  have X14 := Lib.hid (blk_keep k14 X13.out)
  have Y14 := Lib.hid (blk_keep k14 Y13.out)
  have B14 := Lib.hid (belowT B13.out k14)
  clear g14 k14
  go_wp2_with fail
  refine (HRSa.out _ V14.out.s U14.out.s).mono ?_
  rintro e w15 ⟨rfl, g15⟩
  have k15 := g15
  clear fV hV fU hU
  obtain ⟨_, _, _, _, fV, hV⟩ := bx_cells (blk_keep g15 V14.out.m)
  have fX := ldA_block (blk_keep g15 X14.out) (nt_size _)
  have hX := (Array.getElem?_eq_some_iff.1 (blk_keep g15 X14.out)).1
  have fY := ldA_block (blk_keep g15 Y14.out) (nt_size _)
  have hY := (Array.getElem?_eq_some_iff.1 (blk_keep g15 Y14.out)).1
  have V15 := Lib.hid (V14.out.keep k15)
  have U15 := Lib.hid (U14.out.keep k15)
  have M15 := Lib.hid (blk_keep k15 M14.out)
  have X15 := Lib.hid (blk_keep k15 X14.out)
  have Y15 := Lib.hid (blk_keep k15 Y14.out)
  have B15 := Lib.hid (belowT B14.out k15)
  clear g15 k15
  go_wp2_with fail
  refine (HMa.out _ V15.out.s).mono ?_
  rintro e w16 ⟨rfl, g16⟩
  have k16 := g16
  clear fV hV fX hX fY hY
  obtain ⟨_, _, _, _, fV, hV⟩ := bx_cells (blk_keep g16 V15.out.m)
  obtain ⟨_, _, _, _, fU, hU⟩ := bx_cells (blk_keep g16 U15.out.m)
  have V16 := Lib.hid (V15.out.keep k16)
  have U16 := Lib.hid (U15.out.keep k16)
  have M16 := Lib.hid (blk_keep k16 M15.out)
  have X16 := Lib.hid (blk_keep k16 X15.out)
  have Y16 := Lib.hid (blk_keep k16 Y15.out)
  have B16 := Lib.hid (belowT B15.out k16)
  clear g16 k16
  go_wp2_with fail
  refine (HSa.out _ V16.out.s U16.out.s).mono ?_
  rintro e w17 ⟨rfl, g17⟩
  have k17 := g17
  clear fV hV fU hU
  have V17 := Lib.hid (V16.out.keep k17)
  have U17 := Lib.hid (U16.out.keep k17)
  have M17 := Lib.hid (blk_keep k17 M16.out)
  have X17 := Lib.hid (blk_keep k17 X16.out)
  have Y17 := Lib.hid (blk_keep k17 Y16.out)
  have B17 := Lib.hid (belowT B16.out k17)
  clear g17 k17
  go_wp2_with fail
  go_ret
  exact ⟨rfl, B17.out⟩
theorem boxTells_walk (b : Bx) (l : List Nt) (c : Bx) (k : List Nt) (n : Nt) (room : Int) (w : World) (h : SlE Ent w (sv b.l) l) (h' : SlE Ent w (sv c.l) k) :
    Calls Try.prog 3 #[.agg (bx b), .agg (bx c), .agg (nt n), .int .i64 room] w fun e w' => e = .returned (.bool true) ∧ Below w.heap.size w w' := by
  obtain ⟨p, cp, hb⟩ := slE_len h rfl
  obtain ⟨q, cq, hc⟩ := slE_len h' rfl
  by_cases h1 : 60 < l.length
  · exact boxTells_b b c n room p l.length cp w hb h1
  · by_cases h2 : 60 < k.length
    · exact boxTells_c b c n room p q l.length cp k.length cq w hb hc (by omega) h2
    · exact boxTells_few b c l k n room p q l.length cp k.length cq w hb hc h h' (by omega) (by omega) (by omega)
end Go.Proofs.Ytiljgnhnpoackaa
