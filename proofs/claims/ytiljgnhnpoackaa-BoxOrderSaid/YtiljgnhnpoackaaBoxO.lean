/-
  The law BoxClose, walked.
-/
import Derived.Test.YtiljgnhnpoackaaBoxN
namespace Go.Proofs.Ytiljgnhnpoackaa
open Go.RowKit

theorem enters_mayE : ∀ args w, (callFunc 20 args).run Try.prog w = .ok (.enter 20 args) w := enters_may
theorem close_is {b : BoxP Nt} (h : mayX Nt.ver b = true) : closeX Nt.ver b = { b with closed := true } ∧ closeB Nt.ver b = !b.closed := by
  have e : closeB Nt.ver b = !b.closed := by unfold closeB; rw [h, Bool.true_and]
  refine ⟨?_, e⟩
  unfold closeX
  rw [e]
  obtain ⟨cap, l, lag, closed⟩ := b
  cases closed <;> rfl

set_option maxRecDepth 100000 in
set_option maxHeartbeats 4000000 in
theorem boxClose_n (cap : Int) (p : Option Addr) (nb cp : Nat) (lag closed : Bool) (l : List Nt) (n : Nt) (w : World) (h : SlE Ent w (.slice p nb cp) l) (hl : l.length = nb) :
    Calls Try.prog 5 #[.agg (bx ⟨cap, ⟨p, nb, cp⟩, lag, closed⟩), .agg (nt n)] w fun e w' => e = .returned (.bool true) ∧ Below w.heap.size w w' := by
  have HMa := Lib.hid (fun W (g : Below w.heap.size w W) => may_any ⟨cap, ⟨p, nb, cp⟩, lag, closed⟩ l W (slE_keep g h))
  obtain ⟨r, hr⟩ : ∃ r, r = mayX Nt.ver ⟨cap, l, lag, closed⟩ := ⟨_, rfl⟩
  rw [show mayX Nt.ver (bp ⟨cap, ⟨p, nb, cp⟩, lag, closed⟩ l) = r from hr.symm] at HMa
  have HR := Lib.hid hr
  have HS := Lib.hid h
  have HL := Lib.hid hl
  obtain ⟨W0, hW0⟩ : ∃ W0, W0 = (w.alloc (.cells (bx ⟨cap, ⟨p, nb, cp⟩, lag, closed⟩) 24)).alloc (.cells (nt n) 31) := ⟨_, rfl⟩
  obtain ⟨hB, hM0, hM1, _⟩ := heap2 w _ _ _ _ W0 hW0
  have HB := Lib.hid hB
  have M0 : Hid (Vb W0 w.heap.size ⟨cap, ⟨p, nb, cp⟩, lag, closed⟩ l) := ⟨hM0, slE_keep hB h⟩
  have M1 := Lib.hid hM1
  have HW := Lib.hid hW0
  clear h hl hr hW0 hB hM0 hM1
  go_enter Try.func5, Try.ntmps5
  go_wp2_with fail
  rw [← HW.out]
  refine (awake_any _).mono ?_
  rintro e w1 ⟨rfl, g1⟩
  have N0 := Lib.hid (M0.out.keep g1)
  have N1 := Lib.hid (blk_keep g1 M1.out)
  have B1 := Lib.hid (belowT HB.out g1)
  clear g1
  obtain ⟨_, _, _, _, x4, xl⟩ := bx_cells N0.out.m
  go_wp2_with fail
  refine (HMa.out _ B1.out).mono ?_
  rintro e w2 ⟨rfl, g2⟩
  have P0 := Lib.hid (N0.out.keep g2)
  have P1 := Lib.hid (blk_keep g2 N1.out)
  have B2 := Lib.hid (belowT B1.out g2)
  clear g2 x4 xl
  obtain ⟨_, _, _, _, x4, xl⟩ := bx_cells P0.out.m
  cases r with
  | false =>
    go_wp2_with fail
    go_ret
    exact ⟨rfl, B2.out⟩
  | true =>
    have hm := HR.out.symm
    have h8 : l.length ≤ 8 := mayX_len hm
    have hmc : mayX Nt.ver (⟨cap, l, lag, true⟩ : BoxP Nt) = true := hm
    have H8 := Lib.hid h8
    obtain ⟨N, hN⟩ : ∃ N, N = takeN Nt.ver znt (⟨cap, l, lag, closed⟩ : BoxP Nt) := ⟨_, rfl⟩
    obtain ⟨ok, hok⟩ : ∃ ok, ok = takeB Nt.ver (⟨cap, l, lag, closed⟩ : BoxP Nt) := ⟨_, rfl⟩
    obtain ⟨k, hk⟩ : ∃ k, k = (takeX Nt.ver (⟨cap, l, lag, closed⟩ : BoxP Nt)).l := ⟨_, rfl⟩
    have hok' : takeB Nt.ver (⟨cap, l, lag, true⟩ : BoxP Nt) = ok := hok.symm
    have hN' : takeN Nt.ver znt (⟨cap, l, lag, true⟩ : BoxP Nt) = N := hN.symm
    have hX : takeX Nt.ver (⟨cap, l, lag, closed⟩ : BoxP Nt) = ⟨cap, k, lag, closed⟩ := by
      rw [hk]; unfold takeX; split <;> rfl
    have hX' : takeX Nt.ver (⟨cap, l, lag, true⟩ : BoxP Nt) = ⟨cap, k, lag, true⟩ := by
      rw [hk]
      unfold takeX
      rw [hok', ← hok]
      cases ok <;> rfl
    have HC1 := Lib.hid (fun W s (hs : SlE Ent W (sv s) l) => close_any ⟨cap, s, lag, closed⟩ l W hs (by omega))
    have HC2 := Lib.hid (fun W s (hs : SlE Ent W (sv s) l) => close_any ⟨cap, s, lag, true⟩ l W hs (by omega))
    have HT1 := Lib.hid (fun W s (hs : SlE Ent W (sv s) l) => take_any ⟨cap, s, lag, closed⟩ l W hs (by omega))
    have HT2 := Lib.hid (fun W s (hs : SlE Ent W (sv s) l) => take_any ⟨cap, s, lag, true⟩ l W hs (by omega))
    have HP := Lib.hid (fun W s (hs : SlE Ent W (sv s) l) => post_any ⟨cap, s, lag, true⟩ n l W hs (by omega))
    have HM := Lib.hid (fun W s (hs : SlE Ent W (sv s) l) => may_any ⟨cap, s, lag, true⟩ l W hs)
    simp only [bp] at HC1 HC2 HT1 HT2 HP HM
    rw [(close_is hm).1, (close_is hm).2] at HC1
    rw [(close_is hmc).1, (close_is hmc).2] at HC2
    simp only [Bool.not_true] at HC1 HC2
    rw [← hok, ← hN, hX] at HT1
    rw [hok', hN', hX'] at HT2
    rw [post_closed _ _ rfl] at HP
    rw [hmc] at HM
    clear hm h8 hmc hN hok hk hok' hN' hX hX'
    go_wp2_with fail
    refine (HC1.out _ _ P0.out.s).mono ?_
    rintro e w3 ⟨c, lc, rfl, ec, sc, gc⟩
    obtain ⟨s3, rfl, h3⟩ := bp_eq ec
    have h3' := h3.symm
    subst h3'
    have gk := belowT gc (below1 (o := .cells (bx ⟨cap, s3, lag, true⟩) 24))
    have P3 := Lib.hid (P0.out.keep gk)
    have Q3 := Lib.hid (blk_keep gk P1.out)
    have C3 := Lib.hid (Vb.new (x := ⟨cap, s3, lag, true⟩) sc)
    have B3 := Lib.hid (belowT B2.out gk)
    clear ec sc gc gk x4 xl
    go_wp2_with fail
    refine (HC2.out _ _ C3.out.s).mono ?_
    rintro e w4 ⟨d, ld, rfl, ed, sd, gd⟩
    obtain ⟨s4, rfl, h3⟩ := bp_eq ed
    have h3' := h3.symm
    subst h3'
    have gk := belowT gd (below1 (o := .cells (bx ⟨cap, s4, lag, true⟩) 24))
    have P4 := Lib.hid (P3.out.keep gk)
    have Q4 := Lib.hid (blk_keep gk Q3.out)
    have C4 := Lib.hid (C3.out.keep gk)
    have D4 := Lib.hid (Vb.new (x := ⟨cap, s4, lag, true⟩) sd)
    have B4 := Lib.hid (belowT B3.out gk)
    have R4 := Lib.hid (P3.out.keep gd)
    clear ed sd gd gk
    obtain ⟨_, _, _, _, x4, xl⟩ := bx_cells R4.out.m
    go_wp2_with fail
    refine (HT1.out _ _ P4.out.s).mono ?_
    rintro e w5 ⟨x, lx, rfl, ex, sx, gx⟩
    obtain ⟨⟨p5, n5, c5⟩, rfl, hk5⟩ := bp_eq ex
    subst hk5
    have gk := belowT (belowT gx (below1 (o := .cells (bx ⟨cap, ⟨p5, n5, c5⟩, lag, closed⟩) 24))) (below1 (o := .cells (nt N) 31))
    have P5 := Lib.hid (P4.out.keep gk)
    have Q5 := Lib.hid (blk_keep gk Q4.out)
    have C5 := Lib.hid (C4.out.keep gk)
    have D5 := Lib.hid (D4.out.keep gk)
    have X5 := Lib.hid ((Vb.new (x := ⟨cap, ⟨p5, n5, c5⟩, lag, closed⟩) sx).keep (below1 (o := .cells (nt N) 31)))
    have Y5 : Hid ((((w5.alloc (.cells (bx ⟨cap, ⟨p5, n5, c5⟩, lag, closed⟩) 24)).alloc (.cells (nt N) 31))).heap[w5.heap.size + 1]? = some (.cells (nt N) 31 (0, 0))) := by
      have := heap_alloc_last (w5.alloc (.cells (bx ⟨cap, ⟨p5, n5, c5⟩, lag, closed⟩) 24)) (.cells (nt N) 31)
      show _ = _
      simpa using this
    have B5 := Lib.hid (belowT B4.out gk)
    have R5 := Lib.hid (C4.out.keep gx)
    have K5 := Lib.hid (sv_len sx)
    clear ex sx gx gk x4 xl
    obtain ⟨_, _, _, _, x4, xl⟩ := bx_cells R5.out.m
    go_wp2_with fail
    refine (HT2.out _ _ C5.out.s).mono ?_
    rintro e w6 ⟨y, ly, rfl, ey, sy, gy⟩
    obtain ⟨⟨p6, n6, c6⟩, rfl, rfl⟩ := bp_eq ey
    have gk := belowT (belowT gy (below1 (o := .cells (bx ⟨cap, ⟨p6, n6, c6⟩, lag, true⟩) 24))) (below1 (o := .cells (nt N) 31))
    have P6 := Lib.hid (P5.out.keep gk)
    have Q6 := Lib.hid (blk_keep gk Q5.out)
    have C6 := Lib.hid (C5.out.keep gk)
    have D6 := Lib.hid (D5.out.keep gk)
    have X6 := Lib.hid (X5.out.keep gk)
    have Y6 := Lib.hid (blk_keep gk Y5.out)
    have U6 := Lib.hid ((Vb.new (x := ⟨cap, ⟨p6, n6, c6⟩, lag, true⟩) sy).keep (below1 (o := .cells (nt N) 31)))
    have T6 : Hid ((((w6.alloc (.cells (bx ⟨cap, ⟨p6, n6, c6⟩, lag, true⟩) 24)).alloc (.cells (nt N) 31))).heap[w6.heap.size + 1]? = some (.cells (nt N) 31 (0, 0))) := by
      have := heap_alloc_last (w6.alloc (.cells (bx ⟨cap, ⟨p6, n6, c6⟩, lag, true⟩) 24)) (.cells (nt N) 31)
      show _ = _
      simpa using this
    have B6 := Lib.hid (belowT B5.out gk)
    have K6 := Lib.hid (sv_len sy)
    clear ey sy gy gk x4 xl
    have hkk : n6 = n5 := by
      have h5 := K5.out
      have h6 := K6.out
      dsimp only at h5 h6
      omega
    subst hkk
    go_wp2_with fail
    obtain ⟨W7, hW7⟩ : ∃ W7, W7 = (w6.alloc (.cells (bx ⟨cap, ⟨p6, n6, c6⟩, lag, true⟩) 24)).alloc (.cells (nt N) 31) := ⟨_, rfl⟩
    rw [← hW7] at P6 Q6 C6 D6 X6 Y6 U6 T6 B6 ⊢
    have Lb := wd_cell (bx_cells P6.out.m).2.2.2.1
    have Ln := wd_nt Q6.out
    have Lc := wd_bx C6.out.m
    have Ld := wd_bx D6.out.m
    have Lx := wd_cell (bx_cells X6.out.m).2.1
    have LN := wd_nt Y6.out
    have Ly := wd_cell (bx_cells U6.out.m).2.1
    have Lz := wd_cell (bx_cells U6.out.m).2.2.2.1
    have LM := wd_nt T6.out
    dsimp only at Lb Lx Ly Lz
    simp only [sv_mk] at Lx Ly
    have C7 : Hid (∀ W, Below W7.heap.size W7 W → SlE Ent W (sv s3) l) := fun W g => slE_keep g C6.out.s
    have D7 : Hid (∀ W, Below W7.heap.size W7 W → SlE Ent W (sv s4) l) := fun W g => slE_keep g D6.out.s
    have B7 := Lib.hid B6.out
    have L8 := Lib.hid (show l.length ≤ 1000 by have := H8.out; omega)
    clear hW7 P6 Q6 C6 D6 X6 Y6 U6 T6 B6
    refine wp_region_lex [12, 14, 17, 19, 21, 26, 31, 40, 44, 46] (by kernel_rfl) (by kernel_rfl) (by kernel_rfl) ?_
    repeat (refine wpXL_quiet rfl rfl _ cls_begin ?_; (first | go_big_quiet_step (fail) | quiet_step (fail)); refine wpQuiet_nil ?_)
    refine wpXL_call rfl rfl rfl enters_same #[.agg (bx ⟨cap, s4, lag, true⟩), .agg (bx ⟨cap, s3, lag, true⟩)] rfl ?_
    refine (same_is ⟨cap, s4, lag, true⟩ ⟨cap, s3, lag, true⟩ l l _ (D7.out _ (belowD (Below.refl _ _) 1)) (C7.out _ (belowD (Below.refl _ _) 1)) L8.out rfl).mono ?_
    rintro e u1 ⟨rfl, g1⟩
    refine ⟨_, rfl, g1, ?_⟩
    simp only [Act.put, List.setIfInBounds_toArray, List.set_cons_zero, List.set_cons_succ]
    have G1 : Hid (Below W7.heap.size W7 u1) := belowT (belowD (Below.refl _ _) 1) g1
    clear g1
    repeat (refine wpXL_quiet rfl rfl _ cls_begin ?_; (first | go_big_quiet_step (fail) | quiet_step (fail)); refine wpQuiet_nil ?_)
    refine wpXL_eff rfl rfl (.bool true) u1 (by go_simp) (Below.refl _ _) ?_
    simp only [Act.put, List.setIfInBounds_toArray, List.set_cons_zero, List.set_cons_succ]
    repeat (refine wpXL_quiet rfl rfl _ cls_begin ?_; (first | go_big_quiet_step (fail) | quiet_step (fail)); refine wpQuiet_nil ?_)
    refine wpXL_call rfl rfl rfl enters_post #[.agg (bx ⟨cap, s3, lag, true⟩), .agg (nt n)] rfl ?_
    refine (HP.out _ _ (C7.out _ G1.out)).mono ?_
    rintro e u2 ⟨q, lq, rfl, eq, sq, g2⟩
    obtain ⟨s7, rfl, h3⟩ := bp_eq eq
    have h3' := h3.symm
    subst h3'
    refine ⟨_, rfl, g2, ?_⟩
    simp only [Act.put, List.setIfInBounds_toArray, List.set_cons_zero, List.set_cons_succ]
    have G2 : Hid (Below W7.heap.size W7 u2) := belowT G1.out g2
    have S7 := Lib.hid sq
    clear eq sq g2
    repeat (refine wpXL_quiet rfl rfl _ cls_begin ?_; (first | go_big_quiet_step (fail) | quiet_step (fail)); refine wpQuiet_nil ?_)
    refine wpXL_call rfl rfl rfl enters_same #[.agg (bx ⟨cap, s7, lag, true⟩), .agg (bx ⟨cap, s3, lag, true⟩)] rfl ?_
    refine (same_is ⟨cap, s7, lag, true⟩ ⟨cap, s3, lag, true⟩ _ _ _ S7.out (C7.out _ G2.out) L8.out rfl).mono ?_
    rintro e u3 ⟨rfl, g3⟩
    refine ⟨_, rfl, g3, ?_⟩
    simp only [Act.put, List.setIfInBounds_toArray, List.set_cons_zero, List.set_cons_succ]
    have G3 : Hid (Below W7.heap.size W7 u3) := belowT G2.out g3
    clear g3
    repeat (refine wpXL_quiet rfl rfl _ cls_begin ?_; (first | go_big_quiet_step (fail) | quiet_step (fail)); refine wpQuiet_nil ?_)
    refine wpXL_eff rfl rfl (.bool true) u3 (by go_simp) (Below.refl _ _) ?_
    simp only [Act.put, List.setIfInBounds_toArray, List.set_cons_zero, List.set_cons_succ]
    repeat (refine wpXL_quiet rfl rfl _ cls_begin ?_; (first | go_big_quiet_step (fail) | quiet_step (fail)); refine wpQuiet_nil ?_)
    refine wpXL_eff rfl rfl (.bool true) u3 (by go_simp) (Below.refl _ _) ?_
    simp only [Act.put, List.setIfInBounds_toArray, List.set_cons_zero, List.set_cons_succ]
    repeat (refine wpXL_quiet rfl rfl _ cls_begin ?_; (first | go_big_quiet_step (fail) | quiet_step (fail)); refine wpQuiet_nil ?_)
    refine wpXL_eff rfl rfl (.bool true) u3 (by go_simp) (Below.refl _ _) ?_
    simp only [Act.put, List.setIfInBounds_toArray, List.set_cons_zero, List.set_cons_succ]
    repeat (refine wpXL_quiet rfl rfl _ cls_begin ?_; (first | go_big_quiet_step (fail) | quiet_step (fail)); refine wpQuiet_nil ?_)
    refine wpXL_eff rfl rfl (.bool true) u3 (by go_simp) (Below.refl _ _) ?_
    simp only [Act.put, List.setIfInBounds_toArray, List.set_cons_zero, List.set_cons_succ]
    repeat (refine wpXL_quiet rfl rfl _ cls_begin ?_; (first | go_big_quiet_step (fail) | quiet_step (fail)); refine wpQuiet_nil ?_)
    refine wpXL_eff rfl rfl (.bool true) u3 (by go_simp) (Below.refl _ _) ?_
    simp only [Act.put, List.setIfInBounds_toArray, List.set_cons_zero, List.set_cons_succ]
    repeat (refine wpXL_quiet rfl rfl _ cls_begin ?_; (first | go_big_quiet_step (fail) | quiet_step (fail)); refine wpQuiet_nil ?_)
    refine wpXL_call rfl rfl rfl enters_mayE #[.agg (bx ⟨cap, s3, lag, true⟩)] rfl ?_
    refine (HM.out _ _ (C7.out _ G3.out)).mono ?_
    rintro e u4 ⟨rfl, g4⟩
    refine ⟨_, rfl, g4, ?_⟩
    simp only [Act.put, List.setIfInBounds_toArray, List.set_cons_zero, List.set_cons_succ]
    have G4 : Hid (Below W7.heap.size W7 u4) := belowT G3.out g4
    clear g4
    repeat (refine wpXL_quiet rfl rfl _ cls_begin ?_; (first | go_big_quiet_step (fail) | quiet_step (fail)); refine wpQuiet_nil ?_)
    refine wpXL_nil ?_
    go_wp2_with fail
    go_ret
    exact ⟨rfl, belowT B7.out G4.out⟩
theorem boxClose_walk (b : Bx) (l : List Nt) (n : Nt) (w : World) (h : SlE Ent w (sv b.l) l) :
    Calls Try.prog 5 #[.agg (bx b), .agg (nt n)] w fun e w' => e = .returned (.bool true) ∧ Below w.heap.size w w' := by
  have hl := sv_len h
  obtain ⟨cap, ⟨p, nb, cp⟩, lag, closed⟩ := b
  exact boxClose_n cap p nb cp lag closed l n w h hl
end Go.Proofs.Ytiljgnhnpoackaa
