/-
  The law BoxTwice, walked.
-/
import Derived.Test.YtiljgnhnpoackaaBoxK
namespace Go.Proofs.Ytiljgnhnpoackaa
open Go.RowKit

theorem enters_post : ∀ args w, (callFunc 11 args).run Try.prog w = .ok (.enter 11 args) w := entersE Try.func11 (by kernel_rfl) (by kernel_rfl)
theorem enters_same : ∀ args w, (callFunc 21 args).run Try.prog w = .ok (.enter 21 args) w := entersE Try.func21 (by kernel_rfl) (by kernel_rfl)
theorem same_is (a b : Bx) (l k : List Nt) (w : World) (h : SlE Ent w (sv a.l) l) (h' : SlE Ent w (sv b.l) k) (hn : l.length ≤ 1000) (he : bp a l = bp b k) :
    Calls Try.prog 21 #[.agg (bx a), .agg (bx b)] w fun e w' => e = .returned (.bool true) ∧ Below w.heap.size w w' := by
  have := same_any a b l k w h h' hn
  rwa [sameB_iff.2 he] at this
/-- A variable's block, read behind calls. -/
theorem wd_bx {w : World} {g : Nat} {x : Bx} (h : w.heap[g]? = some (.cells (bx x) 24 (0, 0))) (p : Wd w.drew) : ldA p.w (.pointer (some ⟨g, 0, none⟩)) 4 = some (bx x) := ldA_wd (show ldA w.drew _ 4 = _ by rw [ldA_drew]; exact ldA_block h (bx_size _)) (by decide) p
theorem wd_nt {w : World} {g : Nat} {x : Nt} (h : w.heap[g]? = some (.cells (nt x) 31 (0, 0))) (p : Wd w.drew) : ldA p.w (.pointer (some ⟨g, 0, none⟩)) 66 = some (nt x) := ldA_wd (show ldA w.drew _ 66 = _ by rw [ldA_drew]; exact ldA_block h (nt_size _)) (by decide) p
theorem wd_cell {w : World} {g o : Nat} {v : Value} (h : w.cell? ⟨g, o, none⟩ = some v) (p : Wd w.drew) : p.w.cell? ⟨g, o, none⟩ = some v := (p.h.cell (p := ⟨g, o, none⟩) (block_lt_of_cell (show w.drew.cell? ⟨g, o, none⟩ = some v from h))).trans h

set_option maxRecDepth 100000 in
set_option maxHeartbeats 2000000 in
theorem boxTwice_walk (b : Bx) (l : List Nt) (n : Nt) (less : Int) (w : World) (h : SlE Ent w (sv b.l) l) :
    Calls Try.prog 7 #[.agg (bx b), .agg (nt n), .int .i64 less] w fun e w' => e = .returned (.bool true) ∧ Below w.heap.size w w' := by
  have HM := Lib.hid (fun W (g : Below w.heap.size w W) => may_any b l W (slE_keep g h))
  obtain ⟨W0, hW0⟩ : ∃ W0, W0 = (w.alloc (.cells (bx b) 24)).alloc (.cells (nt n) 31) := ⟨_, rfl⟩
  obtain ⟨hB, hM0, hM1, _⟩ := heap2 w _ _ _ _ W0 hW0
  have HB := Lib.hid hB
  have V0 : Hid (Vb W0 w.heap.size b l) := ⟨hM0, slE_keep hB h⟩
  have M1 := Lib.hid hM1
  have HW := Lib.hid hW0
  clear h hW0 hB hM0 hM1
  obtain ⟨r, hr⟩ : ∃ r, r = mayX Nt.ver (bp b l) := ⟨_, rfl⟩
  rw [← hr] at HM
  have HR := Lib.hid hr
  clear hr
  go_enter Try.func7, Try.ntmps7
  go_wp2_with fail
  rw [← HW.out]
  refine (awake_any _).mono ?_
  rintro e w1 ⟨rfl, g1⟩
  have V1 := Lib.hid (V0.out.keep g1)
  have N1 := Lib.hid (blk_keep g1 M1.out)
  have B1 := Lib.hid (belowT HB.out g1)
  obtain ⟨_, _, _, _, x4, xl⟩ := bx_cells V1.out.m
  clear g1
  go_wp2_with fail
  refine (HM.out _ B1.out).mono ?_
  rintro e w2 ⟨rfl, g2⟩
  have V2 := Lib.hid (V1.out.keep g2)
  have N2 := Lib.hid (blk_keep g2 N1.out)
  have B2 := Lib.hid (belowT B1.out g2)
  clear g2 x4 xl
  obtain ⟨_, _, _, _, x4, xl⟩ := bx_cells V2.out.m
  have xv := nt_rd0_ver N2.out
  have xn := ldA_block N2.out (nt_size _)
  cases r with
  | false =>
    go_wp2_with fail
    go_ret
    exact ⟨rfl, B2.out⟩
  | true =>
    by_cases hv : n.ver < less
    · have t0 : decide (n.ver < less) = true := decide_eq_true hv
      clear hv
      go_wp2_with fail
      go_ret
      exact ⟨rfl, B2.out⟩
    · have t0 : decide (n.ver < less) = false := decide_eq_false hv
      have HV := Lib.hid hv
      have hl8 : l.length ≤ 8 := mayX_len HR.out.symm
      have HL8 := Lib.hid hl8
      have HP := Lib.hid (post_any b n l w2 V2.out.s (by omega))
      clear hv hl8
      go_wp2_with fail
      refine HP.out.mono ?_
      rintro e w3 ⟨c, lc, rfl, e3, s3, g3⟩
      have hlc : lc.length ≤ 8 := by
        have := mayX_len (post_may HR.out.symm n)
        rw [← e3] at this
        exact this
      have HLC := Lib.hid hlc
      have E3 := Lib.hid e3
      have V3 := Lib.hid (V2.out.keep (belowT g3 (below1 (o := .cells (bx c) 24))))
      have N3 := Lib.hid (blk_keep (belowT g3 (below1 (o := .cells (bx c) 24))) N2.out)
      have C3 := Lib.hid (Vb.new (x := c) s3)
      have B3 := Lib.hid (belowT B2.out (belowT g3 (below1 (o := .cells (bx c) 24))))
      have K1 := Lib.hid (sv_len s3)
      have K2 := Lib.hid (sv_len V2.out.s)
      clear e3 hlc x4 xl xv xn
      have z1 := (bx_cells V3.out.m).2.1
      have z2 : w.heap.size < w3.heap.size := (Array.getElem?_eq_some_iff.1 (blk_keep g3 V2.out.m)).1
      have z3 := ldA_block (blk_keep g3 N2.out) (nt_size _)
      have z4 : w.heap.size + 1 < w3.heap.size := (Array.getElem?_eq_some_iff.1 (blk_keep g3 N2.out)).1
      have z5 := (bx_cells (blk_keep g3 V2.out.m)).2.1
      clear z1 g3 s3
      obtain ⟨cap, ⟨p, nb, cp⟩, lag, closed⟩ := b
      obtain ⟨cap', ⟨p', nc, cp'⟩, lag', closed'⟩ := c
      dsimp only at K1 K2 z5
      rw [sv_mk] at z5
      by_cases hn : nc = nb
      · have HE : Hid (postX Nt.ver (postX Nt.ver (bp ⟨cap, ⟨p, nb, cp⟩, lag, closed⟩ l) n) n = postX Nt.ver (bp ⟨cap, ⟨p, nb, cp⟩, lag, closed⟩ l) n) := post_same _ _ (by
          rw [← E3.out]
          show lc.length = l.length
          rw [K1.out, K2.out, hn])
        subst hn
        go_wp2_with fail
        obtain ⟨W4, hW4⟩ : ∃ W4, W4 = w3.alloc (.cells (bx ⟨cap', ⟨p', nc, cp'⟩, lag', closed'⟩) 24) := ⟨_, rfl⟩
        rw [← hW4] at C3 N3 B3 ⊢
        have Lc := wd_bx C3.out.m
        have Ln := wd_nt N3.out
        refine wp_region_lex [2, 4] (by kernel_rfl) (by kernel_rfl) (by kernel_rfl) ?_
        repeat (refine wpXL_quiet rfl rfl _ cls_begin ?_; (first | go_big_quiet_step (fail) | quiet_step (fail)); refine wpQuiet_nil ?_)
        refine wpXL_call rfl rfl rfl enters_post #[.agg (bx ⟨cap', ⟨p', nc, cp'⟩, lag', closed'⟩), .agg (nt n)] rfl ?_
        refine (post_any ⟨cap', ⟨p', nc, cp'⟩, lag', closed'⟩ n lc _ (slE_keep (belowD (Below.refl _ _) 1) C3.out.s) (by have := HLC.out; omega)).mono ?_
        rintro e u5 ⟨d5, l5, rfl, e5, s5, g5⟩
        refine ⟨_, rfl, g5, ?_⟩
        simp only [Act.put, List.setIfInBounds_toArray, List.set_cons_zero, List.set_cons_succ]
        have X5 := Lib.hid (show bp d5 l5 = bp ⟨cap', ⟨p', nc, cp'⟩, lag', closed'⟩ lc by rw [e5, E3.out, HE.out])
        have Y5 := Lib.hid (show l5.length ≤ 1000 by have : l5 = lc := congrArg BoxP.l X5.out; rw [this]; have := HLC.out; omega)
        have S5 := Lib.hid s5
        have G5 : Hid (Below W4.heap.size W4 u5) := belowT (belowD (Below.refl _ _) 1) g5
        clear e5 s5 g5
        repeat (refine wpXL_quiet rfl rfl _ cls_begin ?_; (first | go_big_quiet_step (fail) | quiet_step (fail)); refine wpQuiet_nil ?_)
        refine wpXL_call rfl rfl rfl enters_same #[.agg (bx d5), .agg (bx ⟨cap', ⟨p', nc, cp'⟩, lag', closed'⟩)] rfl ?_
        refine (same_is d5 ⟨cap', ⟨p', nc, cp'⟩, lag', closed'⟩ l5 lc _ S5.out (slE_keep G5.out C3.out.s) Y5.out X5.out).mono ?_
        rintro e v5 ⟨rfl, g5⟩
        refine ⟨_, rfl, g5, ?_⟩
        simp only [Act.put, List.setIfInBounds_toArray, List.set_cons_zero, List.set_cons_succ]
        have H5 : Hid (Below W4.heap.size W4 v5) := belowT G5.out g5
        clear g5
        repeat (refine wpXL_quiet rfl rfl _ cls_begin ?_; (first | go_big_quiet_step (fail) | quiet_step (fail)); refine wpQuiet_nil ?_)
        refine wpXL_nil ?_
        go_wp2_with fail
        go_ret
        exact ⟨rfl, belowT B3.out H5.out⟩
      · have hne : (postX Nt.ver (bp ⟨cap, ⟨p, nb, cp⟩, lag, closed⟩ l) n).l.length ≠ (bp ⟨cap, ⟨p, nb, cp⟩, lag, closed⟩ l).l.length := by
          rw [← E3.out]
          show lc.length ≠ l.length
          rw [K1.out, K2.out]; exact hn
        have HE := Lib.hid (post_twice (bp ⟨cap, ⟨p, nb, cp⟩, lag, closed⟩ l) n n (Int.le_refl _) hne).1
        have HE2 := Lib.hid (post_twice (bp ⟨cap, ⟨p, nb, cp⟩, lag, closed⟩ l) n ⟨less, n.head, n.fin⟩ (show less ≤ n.ver by have := HV.out; omega) hne)
        have t1 : ((nc : Int) == (nb : Int)) = false := by simp; omega
        have hlag : lag' = lag := by
          have := HE2.out.2
          rw [← E3.out] at this
          exact this
        subst hlag
        clear hne hn
        go_wp2_with fail
        obtain ⟨W4, hW4⟩ : ∃ W4, W4 = (w3.alloc (.cells (bx ⟨cap', ⟨p', nc, cp'⟩, lag', closed'⟩) 24)).alloc (.cells (nt ⟨less, n.head, n.fin⟩) 31) := ⟨_, rfl⟩
        have g4 : Below (w3.alloc (.cells (bx ⟨cap', ⟨p', nc, cp'⟩, lag', closed'⟩) 24)).heap.size (w3.alloc (.cells (bx ⟨cap', ⟨p', nc, cp'⟩, lag', closed'⟩) 24)) W4 := by rw [hW4]; exact below1
        have V4 := Lib.hid (V3.out.keep g4)
        have N4 := Lib.hid (blk_keep g4 N3.out)
        have B4 := Lib.hid (belowT B3.out g4)
        have M4 : Hid (W4.heap[w3.heap.size + 1]? = some (.cells (nt ⟨less, n.head, n.fin⟩) 31 (0, 0))) := by
          have := heap_alloc_last (w3.alloc (.cells (bx ⟨cap', ⟨p', nc, cp'⟩, lag', closed'⟩) 24)) (.cells (nt ⟨less, n.head, n.fin⟩) 31)
          rw [← hW4] at this
          show _ = _
          simpa using this
        have C4 := Lib.hid (C3.out.keep g4)
        clear C3 N3 V3 B3 g4
        obtain ⟨C3, hC3⟩ : ∃ C3, C3 = C4 := ⟨_, rfl⟩
        clear hC3 C4
        rw [← hW4]
        have Lc := wd_bx C3.out.m
        have Ln := wd_nt N4.out
        have Lm := wd_nt M4.out
        have Lg := wd_cell (bx_cells C3.out.m).2.2.1
        have Lh := wd_cell (bx_cells V4.out.m).2.2.1
        clear hW4
        refine wp_region_lex [2, 4, 5, 8, 10] (by kernel_rfl) (by kernel_rfl) (by kernel_rfl) ?_
        repeat (refine wpXL_quiet rfl rfl _ cls_begin ?_; (first | go_big_quiet_step (fail) | quiet_step (fail)); refine wpQuiet_nil ?_)
        refine wpXL_call rfl rfl rfl enters_post #[.agg (bx ⟨cap', ⟨p', nc, cp'⟩, lag', closed'⟩), .agg (nt n)] rfl ?_
        refine (post_any ⟨cap', ⟨p', nc, cp'⟩, lag', closed'⟩ n lc _ (slE_keep (belowD (Below.refl _ _) 1) C3.out.s) (by have := HLC.out; omega)).mono ?_
        rintro e u5 ⟨d5, l5, rfl, e5, s5, g5⟩
        refine ⟨_, rfl, g5, ?_⟩
        simp only [Act.put, List.setIfInBounds_toArray, List.set_cons_zero, List.set_cons_succ]
        have X5 := Lib.hid (show bp d5 l5 = bp ⟨cap', ⟨p', nc, cp'⟩, lag', closed'⟩ lc by rw [e5, E3.out, HE.out])
        have Y5 := Lib.hid (show l5.length ≤ 1000 by have : l5 = lc := congrArg BoxP.l X5.out; rw [this]; have := HLC.out; omega)
        have S5 := Lib.hid s5
        have G5 : Hid (Below W4.heap.size W4 u5) := belowT (belowD (Below.refl _ _) 1) g5
        clear e5 s5 g5
        repeat (refine wpXL_quiet rfl rfl _ cls_begin ?_; (first | go_big_quiet_step (fail) | quiet_step (fail)); refine wpQuiet_nil ?_)
        refine wpXL_call rfl rfl rfl enters_same #[.agg (bx d5), .agg (bx ⟨cap', ⟨p', nc, cp'⟩, lag', closed'⟩)] rfl ?_
        refine (same_is d5 ⟨cap', ⟨p', nc, cp'⟩, lag', closed'⟩ l5 lc _ S5.out (slE_keep G5.out C3.out.s) Y5.out X5.out).mono ?_
        rintro e v5 ⟨rfl, g5⟩
        refine ⟨_, rfl, g5, ?_⟩
        simp only [Act.put, List.setIfInBounds_toArray, List.set_cons_zero, List.set_cons_succ]
        have H5 : Hid (Below W4.heap.size W4 v5) := belowT G5.out g5
        clear g5
        refine wpXL_eff rfl rfl (.bool true) v5 (by go_simp) (Below.refl _ _) ?_
        simp only [Act.put, List.setIfInBounds_toArray, List.set_cons_zero, List.set_cons_succ]
        repeat (refine wpXL_quiet rfl rfl _ cls_begin ?_; (first | go_big_quiet_step (fail) | quiet_step (fail)); refine wpQuiet_nil ?_)
        refine wpXL_call rfl rfl rfl enters_post #[.agg (bx ⟨cap', ⟨p', nc, cp'⟩, lag', closed'⟩), .agg (nt ⟨less, n.head, n.fin⟩)] rfl ?_
        refine (post_any ⟨cap', ⟨p', nc, cp'⟩, lag', closed'⟩ ⟨less, n.head, n.fin⟩ lc _ (slE_keep H5.out C3.out.s) (by have := HLC.out; omega)).mono ?_
        rintro e u6 ⟨d6, l6, rfl, e6, s6, g6⟩
        refine ⟨_, rfl, g6, ?_⟩
        simp only [Act.put, List.setIfInBounds_toArray, List.set_cons_zero, List.set_cons_succ]
        have X6 := Lib.hid (show bp d6 l6 = bp ⟨cap', ⟨p', nc, cp'⟩, lag', closed'⟩ lc by rw [e6, E3.out, HE2.out.1])
        have Y6 := Lib.hid (show l6.length ≤ 1000 by have : l6 = lc := congrArg BoxP.l X6.out; rw [this]; have := HLC.out; omega)
        have S6 := Lib.hid s6
        have G6 : Hid (Below W4.heap.size W4 u6) := belowT H5.out g6
        clear e6 s6 g6
        repeat (refine wpXL_quiet rfl rfl _ cls_begin ?_; (first | go_big_quiet_step (fail) | quiet_step (fail)); refine wpQuiet_nil ?_)
        refine wpXL_call rfl rfl rfl enters_same #[.agg (bx d6), .agg (bx ⟨cap', ⟨p', nc, cp'⟩, lag', closed'⟩)] rfl ?_
        refine (same_is d6 ⟨cap', ⟨p', nc, cp'⟩, lag', closed'⟩ l6 lc _ S6.out (slE_keep G6.out C3.out.s) Y6.out X6.out).mono ?_
        rintro e v6 ⟨rfl, g6⟩
        refine ⟨_, rfl, g6, ?_⟩
        simp only [Act.put, List.setIfInBounds_toArray, List.set_cons_zero, List.set_cons_succ]
        have H6 : Hid (Below W4.heap.size W4 v6) := belowT G6.out g6
        clear g6
        repeat (refine wpXL_quiet rfl rfl _ cls_begin ?_; (first | go_big_quiet_step (fail) | quiet_step (fail)); refine wpQuiet_nil ?_)
        refine wpXL_nil ?_
        go_wp2_with fail
        go_ret
        exact ⟨rfl, belowT B4.out H6.out⟩
end Go.Proofs.Ytiljgnhnpoackaa
