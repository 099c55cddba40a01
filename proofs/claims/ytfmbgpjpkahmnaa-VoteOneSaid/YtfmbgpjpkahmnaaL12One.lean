/-
  The law VoteOne, walked. (written by wip/gen/law12.py)
-/
import Derived.Test.YtfmbgpjpkahmnaaW12
import Derived.Test.YtfmbgpjpkahmnaaVoteQ
namespace Go.Proofs.Ytfmbgpjpkahmnaa
open Go.RowKit

set_option maxRecDepth 100000 in
set_option maxHeartbeats 8000000 in
theorem voteOne_n (H : VoteC) (pv : Option Addr) (nv cv : Nat) (v : Vt) (val : Int) (r : Rt) (ep : UInt64) (other : Int) (w : World) (hv : SlE Elt w (.slice pv nv cv) v.l) (lv : v.l.length = nv) :
    Calls Try.prog 5 #[.agg (vo ⟨⟨pv, nv, cv⟩, v.out⟩), .int .i64 val, .agg (rc r), .int .u64 (ep.toNat : Int), .int .i64 other] w fun e w' => e = .returned (.bool true) ∧ Below w.heap.size w w' := by
  obtain ⟨W0, hW0⟩ : ∃ W0, W0 = ((w.alloc (.cells (vo ⟨⟨pv, nv, cv⟩, v.out⟩) 25)).alloc (.cells (rc r) 27)) := ⟨_, rfl⟩
  obtain ⟨hB, b0, b1, _⟩ := heap2 w _ _ _ _ W0 hW0
  have Av : Hid (Vw w W0 (w.heap.size) ⟨pv, nv, cv⟩ v) := ⟨b0, slE_keep hB hv, hB⟩
  have M : Hid (W0.heap[w.heap.size + 1]? = some (.cells (rc r) 27 (0, 0))) := b1
  have Lv := Lib.hid lv
  have HW := Lib.hid hW0
  have HAw := Lib.hid (fun W => awake_any12 H W)
  have HH := Lib.hid H
  clear hW0 H hB b0 b1 hv lv
  go_enter Try.func5, Try.ntmps5
  go_wp2_with fail
  rw [← HW.out]
  refine (HAw.out _).mono ?_
  rintro e w1 ⟨rfl, g⟩
  replace Av := Lib.hid (Av.out.keep g)
  replace M := Lib.hid (blk_keep g M.out)
  clear g
  have HM := Lib.hid (fun s W (h : SlE Elt W (sv s) v.l) => HH.out.may s v W h)
  obtain ⟨mv, hmv⟩ : ∃ b, b = mayV v := ⟨_, rfl⟩
  rw [← hmv] at HM
  have HMv := Lib.hid hmv
  clear hmv
  have z1v := Av.out.z1
  have z0v := Av.out.z0
  rw [sv_mk] at z0v
  go_wp2_with fail
  refine (HM.out _ _ Av.out.s).mono ?_
  rintro e w2 ⟨rfl, g⟩
  clear z1v z0v
  replace Av := Lib.hid (Av.out.keep g)
  replace M := Lib.hid (blk_keep g M.out)
  clear g
  have z1v := Av.out.z1
  have z0v := Av.out.z0
  rw [sv_mk] at z0v
  cases mv
  · skip
    go_wp2_with fail
    go_ret
    exact ⟨rfl, Av.out.g⟩
  have m1 : Hid (mayV v = true) := HMv.out.symm
  by_cases hval : val < 0
  · have hvali : decide (val < 0) = true := decide_eq_true (hval)
    clear hval
    go_wp2_with fail
    go_ret
    exact ⟨rfl, Av.out.g⟩
  have hvali : decide (val < 0) = false := decide_eq_false (hval)
  by_cases gval : (nv : Int) ≤ val
  · have gvali : decide ((nv : Int) ≤ val) = true := decide_eq_true (gval)
    clear gval
    go_wp2_with fail
    go_ret
    exact ⟨rfl, Av.out.g⟩
  have gvali : decide ((nv : Int) ≤ val) = false := decide_eq_false (gval)
  by_cases hother : other < 0
  · have hotheri : decide (other < 0) = true := decide_eq_true (hother)
    clear hother
    go_wp2_with fail
    go_ret
    exact ⟨rfl, Av.out.g⟩
  have hotheri : decide (other < 0) = false := decide_eq_false (hother)
  by_cases gother : (nv : Int) ≤ other
  · have gotheri : decide ((nv : Int) ≤ other) = true := decide_eq_true (gother)
    clear gother
    go_wp2_with fail
    go_ret
    exact ⟨rfl, Av.out.g⟩
  have gotheri : decide ((nv : Int) ≤ other) = false := decide_eq_false (gother)
  obtain ⟨j, rfl⟩ : ∃ j' : Nat, val = j' := ⟨val.toNat, by omega⟩
  have j0 : (0 : Int) ≤ (j : Int) := by omega
  have j1 : (j : Int) < (nv : Int) := by omega
  have Hj : Hid (j < nv) := by show _ < _; omega
  have qj : decide (nv ≤ j) = false := decide_eq_false (by omega)
  obtain ⟨o, rfl⟩ : ∃ j' : Nat, other = j' := ⟨other.toNat, by omega⟩
  have o0 : (0 : Int) ≤ (o : Int) := by omega
  have o1 : (o : Int) < (nv : Int) := by omega
  have Ho : Hid (o < nv) := by show _ < _; omega
  have qo : decide (nv ≤ o) = false := decide_eq_false (by omega)
  clear hval gval hother gother
  have h8 : v.l.length ≤ 8 := (mayV_iff.1 m1.out).2.1
  have H8 := Lib.hid h8
  obtain ⟨e1, e2, e3⟩ := put_step (v := v) (z := (j : Int)) (r := r) (ep := ep) m1.out ⟨j0, by rw [Lv.out]; exact j1⟩
  rw [Int.toNat_natCast] at e1 e2
  have hj : j < v.l.length := by rw [Lv.out]; exact Hj.out
  have ho : o < v.l.length := by rw [Lv.out]; exact Ho.out
  have m2 := step_may (r := r) (ep := ep) m1.out hj
  have ha := step_again (r := r) (ep := ep) m1.out hj
  have hlen := step_len (v := v) (i := j) (r := r) (ep := ep)
  obtain ⟨f1, f2, f3⟩ := put_step (v := stepV v j r ep) (z := (j : Int)) (r := r) (ep := ep) m2 ⟨j0, by rw [hlen, Lv.out]; exact j1⟩
  rw [Int.toNat_natCast] at f1 f2
  rw [fate_zero ha] at f1
  rw [ha] at f2
  have HX0 : Hid (fateV v j r ep = 0 → stepV v j r ep = v) := fate_zero
  have HXo : Hid (o ≠ j → lat (stepV v j r ep).l o = lat v.l o) := step_other hj
  have HP1 := Lib.hid (fun s W (h : SlE Elt W (sv s) v.l) => HH.out.put s v (j : Int) r ep W h (by omega))
  rw [e1, e2, e3] at HP1
  have HP2 := Lib.hid (fun s W (h : SlE Elt W (sv s) (stepV v j r ep).l) => HH.out.put s (stepV v j r ep) (j : Int) r ep W h (by omega))
  rw [f1, f2, f3] at HP2
  have HS1 := Lib.hid (fun s s' W (h : SlE Elt W (sv s) (stepV v j r ep).l) (h' : SlE Elt W (sv s') (stepV v j r ep).l) => HH.out.same s s' (stepV v j r ep) (stepV v j r ep) W h h' (by omega))
  rw [decide_eq_true rfl] at HS1
  have HS2 := Lib.hid (fun s s' W (h : SlE Elt W (sv s) (stepV v j r ep).l) (h' : SlE Elt W (sv s') v.l) => HH.out.same s s' (stepV v j r ep) v W h h' (by omega))
  rw [Lv.out] at hlen
  have HXl := Lib.hid hlen
  generalize stepV v j r ep = X at *
  generalize fateV v j r ep = K at *
  clear e1 e2 e3 f1 f2 f3 hj ho m2 ha hlen h8
  have zr := ldA_block M.out (rc_size _)
  go_wp2_with fail
  refine (HP1.out _ _ Av.out.s).mono ?_
  rintro e w3 ⟨sx, rfl, hs, g⟩
  clear z1v z0v
  clear zr
  have Ax := Lib.hid (vw_at (belowT Av.out.g g) hs)
  replace Av := Lib.hid (Av.out.keep (belowT g (below1 (o := .cells (vo ⟨sx, X.out⟩) 25))))
  replace M := Lib.hid (blk_keep (belowT g (below1 (o := .cells (vo ⟨sx, X.out⟩) 25))) M.out)
  clear hs g
  go_upto_region 5 with fail
  obtain ⟨WAx, hW⟩ : ∃ W, W = w3.alloc (.cells (vo ⟨sx, X.out⟩) 25) := ⟨_, rfl⟩
  rw [← hW] at Av M Ax ⊢
  clear hW
  have z1x := Ax.out.z1
  have zr := ldA_block M.out (rc_size _)
  go_wp2_with fail
  refine (HP2.out _ _ Ax.out.s).mono ?_
  rintro e w4 ⟨sy, rfl, hs, g⟩
  clear z1x zr
  have Ay := Lib.hid (vw_at (belowT Ax.out.g g) hs)
  replace Av := Lib.hid (Av.out.keep (belowT g (below1 (o := .cells (vo ⟨sy, X.out⟩) 25))))
  replace M := Lib.hid (blk_keep (belowT g (below1 (o := .cells (vo ⟨sy, X.out⟩) 25))) M.out)
  replace Ax := Lib.hid (Ax.out.keep (belowT g (below1 (o := .cells (vo ⟨sy, X.out⟩) 25))))
  clear hs g
  go_upto_region 6 with fail
  obtain ⟨WAy, hW⟩ : ∃ W, W = w4.alloc (.cells (vo ⟨sy, X.out⟩) 25) := ⟨_, rfl⟩
  rw [← hW] at Av M Ax Ay ⊢
  clear hW
  obtain ⟨px, nx, cx⟩ := sx
  have lx := sv_lenT Ax.out.s
  rw [HXl.out] at lx
  dsimp only at lx
  subst lx
  have z1x := Ax.out.z1
  have z1y := Ay.out.z1
  go_wp2_with fail
  refine (HS1.out _ _ _ Ay.out.s Ax.out.s).mono ?_
  rintro e w5 ⟨rfl, g⟩
  clear z1x z1y
  clear Ay
  replace Av := Lib.hid (Av.out.keep g)
  replace M := Lib.hid (blk_keep g M.out)
  replace Ax := Lib.hid (Ax.out.keep g)
  clear g
  have z0x := Ax.out.z0
  rw [sv_mk] at z0x
  have z0v := Av.out.z0
  rw [sv_mk] at z0v
  go_wp2_with fail
  clear z0x z0v
  obtain ⟨bx, ox, rfl, _, qx⟩ := lats_ptr Ax.out.s (by rw [HXl.out]; have := Ho.out; omega)
  obtain ⟨bv, ov, rfl, _, qv⟩ := lats_ptr Av.out.s (by rw [Lv.out]; have := Ho.out; omega)
  have yx := lats_ld qx (i := o) (by rw [HXl.out]; exact Ho.out)
  have yv := lats_ld qv (i := o) (by rw [Lv.out]; exact Ho.out)
  clear qx qv
  have z0x := Ax.out.z0
  rw [sv_mk] at z0x
  have z0v := Av.out.z0
  rw [sv_mk] at z0v
  have z1x := Ax.out.z1
  have z1v := Av.out.z1
  by_cases hK : K = 0
  · subst hK
    have hXv := HX0.out rfl
    rw [decide_eq_true hXv] at HS2
    clear hXv
    by_cases hoj : o = j
    · subst hoj
      have L0 := fun p : Wd w5.drew => wd_ld z1x (by decide) p
      have L1 := fun p : Wd w5.drew => wd_ld z1v (by decide) p
      have L2 := fun p : Wd w5.drew => wd_cell z0x p
      have L3 := fun p : Wd w5.drew => wd_cell z0v p
      have L4 := fun p : Wd w5.drew => wd_ld yx (by decide) p
      have L5 := fun p : Wd w5.drew => wd_ld yv (by decide) p
      clear z0x z0v z1x z1v yx yv
      refine wp_region_lex [5] (by kernel_rfl) (by kernel_rfl) (by kernel_rfl) ?_
      repeat (first | (refine wpXL_quiet rfl rfl _ cls_begin ?_; (first | go_big_quiet_step (fail) | quiet_step (fail)); refine wpQuiet_nil ?_) | refine wpXL_skip rfl ?_)
      refine wpXL_call rfl rfl rfl enters_voteSame #[.agg (vo ⟨⟨some ⟨bx, ox, none⟩, nv, cx⟩, X.out⟩), .agg (vo ⟨⟨some ⟨bv, ov, none⟩, nv, cv⟩, v.out⟩)] rfl ?_
      refine (HS2.out _ _ _ (slE_keep (belowD (Below.refl _ _) 1) Ax.out.s) (slE_keep (belowD (Below.refl _ _) 1) Av.out.s)).mono ?_
      rintro e u ⟨rfl, g⟩
      refine ⟨_, rfl, g, ?_⟩
      simp only [Act.put, List.setIfInBounds_toArray, List.set_cons_zero, List.set_cons_succ]
      have G := Lib.hid (belowT Av.out.g (belowT (belowD (Below.refl _ _) 1) g))
      clear g
      repeat (first | (refine wpXL_quiet rfl rfl _ cls_begin ?_; (first | go_big_quiet_step (fail) | quiet_step (fail)); refine wpQuiet_nil ?_) | refine wpXL_skip rfl ?_)
      refine wpXL_nil ?_
      clear L0 L1 L2 L3 L4 L5
      go_wp2_with fail
      go_ret
      exact ⟨rfl, G.out⟩
    · have t2 : ((o : Int) == (j : Int)) = false := by rw [beq_eq_false_iff_ne]; omega
      have t2' : (o == j) = false := by rw [beq_eq_false_iff_ne]; exact hoj
      rw [HXo.out hoj] at yx
      clear hoj
      have L0 := fun p : Wd w5.drew => wd_ld z1x (by decide) p
      have L1 := fun p : Wd w5.drew => wd_ld z1v (by decide) p
      have L2 := fun p : Wd w5.drew => wd_cell z0x p
      have L3 := fun p : Wd w5.drew => wd_cell z0v p
      have L4 := fun p : Wd w5.drew => wd_ld yx (by decide) p
      have L5 := fun p : Wd w5.drew => wd_ld yv (by decide) p
      clear z0x z0v z1x z1v yx yv
      refine wp_region_lex [5] (by kernel_rfl) (by kernel_rfl) (by kernel_rfl) ?_
      repeat (first | (refine wpXL_quiet rfl rfl _ cls_begin ?_; (first | go_big_quiet_step (fail) | quiet_step (fail)); refine wpQuiet_nil ?_) | refine wpXL_skip rfl ?_)
      refine wpXL_call rfl rfl rfl enters_voteSame #[.agg (vo ⟨⟨some ⟨bx, ox, none⟩, nv, cx⟩, X.out⟩), .agg (vo ⟨⟨some ⟨bv, ov, none⟩, nv, cv⟩, v.out⟩)] rfl ?_
      refine (HS2.out _ _ _ (slE_keep (belowD (Below.refl _ _) 1) Ax.out.s) (slE_keep (belowD (Below.refl _ _) 1) Av.out.s)).mono ?_
      rintro e u ⟨rfl, g⟩
      refine ⟨_, rfl, g, ?_⟩
      simp only [Act.put, List.setIfInBounds_toArray, List.set_cons_zero, List.set_cons_succ]
      have G := Lib.hid (belowT Av.out.g (belowT (belowD (Below.refl _ _) 1) g))
      clear g
      repeat (first | (refine wpXL_quiet rfl rfl _ cls_begin ?_; (first | go_big_quiet_step (fail) | quiet_step (fail)); refine wpQuiet_nil ?_) | refine wpXL_skip rfl ?_)
      refine wpXL_nil ?_
      clear L0 L1 L2 L3 L4 L5
      go_wp2_with fail
      go_ret
      exact ⟨rfl, G.out⟩
  · have t1 : ((K : Int) != 0) = true := by rw [bne_iff_ne]; omega
    have t1' : (K != 0) = true := by rw [bne_iff_ne]; exact hK
    clear hK
    by_cases hoj : o = j
    · subst hoj
      have L0 := fun p : Wd w5.drew => wd_ld z1x (by decide) p
      have L1 := fun p : Wd w5.drew => wd_ld z1v (by decide) p
      have L2 := fun p : Wd w5.drew => wd_cell z0x p
      have L3 := fun p : Wd w5.drew => wd_cell z0v p
      have L4 := fun p : Wd w5.drew => wd_ld yx (by decide) p
      have L5 := fun p : Wd w5.drew => wd_ld yv (by decide) p
      clear z0x z0v z1x z1v yx yv
      refine wp_region_lex [5] (by kernel_rfl) (by kernel_rfl) (by kernel_rfl) ?_
      repeat (first | (refine wpXL_quiet rfl rfl _ cls_begin ?_; (first | go_big_quiet_step (fail) | quiet_step (fail)); refine wpQuiet_nil ?_) | refine wpXL_skip rfl ?_)
      refine wpXL_nil ?_
      clear L0 L1 L2 L3 L4 L5
      go_wp2_with fail
      go_ret
      exact ⟨rfl, belowD Av.out.g _⟩
    · have t2 : ((o : Int) == (j : Int)) = false := by rw [beq_eq_false_iff_ne]; omega
      have t2' : (o == j) = false := by rw [beq_eq_false_iff_ne]; exact hoj
      rw [HXo.out hoj] at yx
      clear hoj
      have L0 := fun p : Wd w5.drew => wd_ld z1x (by decide) p
      have L1 := fun p : Wd w5.drew => wd_ld z1v (by decide) p
      have L2 := fun p : Wd w5.drew => wd_cell z0x p
      have L3 := fun p : Wd w5.drew => wd_cell z0v p
      have L4 := fun p : Wd w5.drew => wd_ld yx (by decide) p
      have L5 := fun p : Wd w5.drew => wd_ld yv (by decide) p
      clear z0x z0v z1x z1v yx yv
      refine wp_region_lex [5] (by kernel_rfl) (by kernel_rfl) (by kernel_rfl) ?_
      repeat (first | (refine wpXL_quiet rfl rfl _ cls_begin ?_; (first | go_big_quiet_step (fail) | quiet_step (fail)); refine wpQuiet_nil ?_) | refine wpXL_skip rfl ?_)
      refine wpXL_nil ?_
      clear L0 L1 L2 L3 L4 L5
      go_wp2_with fail
      go_ret
      exact ⟨rfl, belowD Av.out.g _⟩
/-- The law. -/
theorem voteOneL (H : VoteC) (tv : SlV) (v : Vt) (val : Int) (r : Rt) (ep : UInt64) (other : Int) (w : World) (hv : SlE Elt w (sv tv) v.l) :
    Calls Try.prog 5 #[.agg (vo ⟨tv, v.out⟩), .int .i64 val, .agg (rc r), .int .u64 (ep.toNat : Int), .int .i64 other] w fun e w' => e = .returned (.bool true) ∧ Below w.heap.size w w' := by
  have lv := sv_lenT hv
  obtain ⟨pv, nv, cv⟩ := tv
  dsimp only at lv
  exact voteOne_n H pv _ cv v val r ep other w hv lv
end Go.Proofs.Ytfmbgpjpkahmnaa
