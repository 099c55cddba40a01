/-
  The law VoteDrop, walked. (written by wip/gen/law12.py)
-/
import Derived.Test.YtfmbgpjpkahmnaaW12
import Derived.Test.YtfmbgpjpkahmnaaVoteQ
namespace Go.Proofs.Ytfmbgpjpkahmnaa
open Go.RowKit

set_option maxRecDepth 100000 in
set_option maxHeartbeats 8000000 in
theorem voteDrop_n (H : VoteC) (pv : Option Addr) (nv cv : Nat) (v : Vt) (pkeep : Option Addr) (nkeep ckeep : Nat) (keep : List Rt) (i : Int) (w : World) (hv : SlE Elt w (.slice pv nv cv) v.l) (lv : v.l.length = nv) (hkeep : SlE Ert w (.slice pkeep nkeep ckeep) keep) (lkeep : keep.length = nkeep) :
    Calls Try.prog 6 #[.agg (vo ⟨⟨pv, nv, cv⟩, v.out⟩), .slice pkeep nkeep ckeep, .int .i64 i] w fun e w' => e = .returned (.bool true) ∧ Below w.heap.size w w' := by
  obtain ⟨W0, hW0⟩ : ∃ W0, W0 = (w.alloc (.cells (vo ⟨⟨pv, nv, cv⟩, v.out⟩) 25)) := ⟨_, rfl⟩
  have hB : Below w.heap.size w W0 := by rw [hW0]; exact below1
  have b0 : W0.heap[w.heap.size]? = some (.cells (vo ⟨⟨pv, nv, cv⟩, v.out⟩) 25 (0, 0)) := by rw [hW0]; exact heap_alloc_last w _
  have Av : Hid (Vw w W0 (w.heap.size) ⟨pv, nv, cv⟩ v) := ⟨b0, slE_keep hB hv, hB⟩
  have Lv := Lib.hid lv
  have Lkeep := Lib.hid lkeep
  have Kkeep := Lib.hid (slE_keep hB hkeep)
  have HW := Lib.hid hW0
  have HAw := Lib.hid (fun W => awake_any12 H W)
  have HH := Lib.hid H
  clear hW0 H hB b0 hv lv hkeep lkeep
  go_enter Try.func6, Try.ntmps6
  go_wp2_with fail
  rw [← HW.out]
  refine (HAw.out _).mono ?_
  rintro e w1 ⟨rfl, g⟩
  replace Av := Lib.hid (Av.out.keep g)
  replace Kkeep := Lib.hid (slE_keep g Kkeep.out)
  clear g
  have HM := Lib.hid (fun s W (h : SlE Elt W (sv s) v.l) => HH.out.may s v W h)
  obtain ⟨mv, hmv⟩ : ∃ b, b = mayV v := ⟨_, rfl⟩
  rw [← hmv] at HM
  have HMv := Lib.hid hmv
  clear hmv
  have z1v := Av.out.z1
  have z0v := Av.out.z0
  rw [sv_mk] at z0v
  go_wp2_with fail
  refine (HM.out _ _ Av.out.s).mono ?_
  rintro e w2 ⟨rfl, g⟩
  clear z1v z0v
  replace Av := Lib.hid (Av.out.keep g)
  replace Kkeep := Lib.hid (slE_keep g Kkeep.out)
  clear g
  have z1v := Av.out.z1
  have z0v := Av.out.z0
  rw [sv_mk] at z0v
  cases mv
  · skip
    go_wp2_with fail
    go_ret
    exact ⟨rfl, Av.out.g⟩
  have m1 : Hid (mayV v = true) := HMv.out.symm
  by_cases hk1 : 40 < nkeep
  · have hk1i : decide ((40 : Int) < (nkeep : Int)) = true := decide_eq_true (by omega)
    have hk1i' : decide (40 < nkeep) = true := decide_eq_true (by omega)
    clear hk1
    go_wp2_with fail
    go_ret
    exact ⟨rfl, Av.out.g⟩
  have hk1i : decide ((40 : Int) < (nkeep : Int)) = false := decide_eq_false (by omega)
  have hk1i' : decide (40 < nkeep) = false := decide_eq_false (by omega)
  by_cases hi : i < 0
  · have hii : decide (i < 0) = true := decide_eq_true (hi)
    clear hi
    go_wp2_with fail
    go_ret
    exact ⟨rfl, Av.out.g⟩
  have hii : decide (i < 0) = false := decide_eq_false (hi)
  by_cases gi : (nv : Int) ≤ i
  · have gii : decide ((nv : Int) ≤ i) = true := decide_eq_true (gi)
    clear gi
    go_wp2_with fail
    go_ret
    exact ⟨rfl, Av.out.g⟩
  have gii : decide ((nv : Int) ≤ i) = false := decide_eq_false (gi)
  obtain ⟨j, rfl⟩ : ∃ j' : Nat, i = j' := ⟨i.toNat, by omega⟩
  have j0 : (0 : Int) ≤ (j : Int) := by omega
  have j1 : (j : Int) < (nv : Int) := by omega
  have Hj : Hid (j < nv) := by show _ < _; omega
  have qj : decide (nv ≤ j) = false := decide_eq_false (by omega)
  clear hi gi
  have h8 : v.l.length ≤ 8 := (mayV_iff.1 m1.out).2.1
  have H8 := Lib.hid h8
  have hkl : keep.length ≤ 1000 := by have := Lkeep.out; omega
  have Hkl := Lib.hid hkl
  have hj : j < v.l.length := by rw [Lv.out]; exact Hj.out
  have hlen := drop_len (v := v) (keep := keep)
  have m2 := drop_may (keep := keep) m1.out
  have hdd := drop_drop (keep := keep) m1.out
  have hlat := drop_lat (keep := keep) m1.out hj
  have hout := drop_out (v := v) (keep := keep)
  have HP1 := Lib.hid (fun s W (h : SlE Elt W (sv s) v.l) (g : SlE Ert W (.slice pkeep nkeep ckeep) keep) => HH.out.drop s _ v keep W h g (by omega) hkl)
  have HP2 := Lib.hid (fun s W (h : SlE Elt W (sv s) (dropV v keep).l) (g : SlE Ert W (.slice pkeep nkeep ckeep) keep) => HH.out.drop s _ (dropV v keep) keep W h g (by omega) hkl)
  rw [hdd] at HP2
  have HM2 := Lib.hid (fun s W (h : SlE Elt W (sv s) (dropV v keep).l) => HH.out.may s (dropV v keep) W h)
  rw [m2] at HM2
  have HS1 := Lib.hid (fun s s' W (h : SlE Elt W (sv s) (dropV v keep).l) (h' : SlE Elt W (sv s') (dropV v keep).l) => HH.out.same s s' (dropV v keep) (dropV v keep) W h h' (by omega))
  rw [decide_eq_true rfl] at HS1
  rw [Lv.out] at hlen
  have HXl := Lib.hid hlen
  have HXo := Lib.hid hout
  generalize dropV v keep = X at *
  have HXt := Lib.hid hlat
  obtain ⟨ρ, hρ⟩ : ∃ ρ, ρ = (lat v.l j).root := ⟨_, rfl⟩
  have Hρ := Lib.hid hρ
  clear hkl hj hlen m2 hdd hlat hout h8 hρ hk1
  go_wp2_with fail
  refine (HP1.out _ _ Av.out.s Kkeep.out).mono ?_
  rintro e w3 ⟨sx, rfl, hs, g⟩
  clear z1v z0v
  have Ax := Lib.hid (vw_at (belowT Av.out.g g) hs)
  replace Av := Lib.hid (Av.out.keep (belowT g (below1 (o := .cells (vo ⟨sx, X.out⟩) 25))))
  replace Kkeep := Lib.hid (slE_keep (belowT g (below1 (o := .cells (vo ⟨sx, X.out⟩) 25))) Kkeep.out)
  clear hs g
  go_upto_region 5 with fail
  obtain ⟨WAx, hW⟩ : ∃ W, W = w3.alloc (.cells (vo ⟨sx, X.out⟩) 25) := ⟨_, rfl⟩
  rw [← hW] at Av Kkeep Ax ⊢
  clear hW
  obtain ⟨px, nx, cx⟩ := sx
  have lx := sv_lenT Ax.out.s
  rw [HXl.out] at lx
  dsimp only at lx
  subst lx
  go_wp2_with fail
  go_loopw [9, 10] (fun b i wr => ∃ y : Nat, y ≤ nkeep ∧ i = .int .i64 (y : Int) ∧ b = .bool (decide (ρ ∈ keep.take y)) ∧ Below WAx.heap.size WAx wr) (fun _ i _ => nkeep - (intOf i).toNat)
  case atStart => exact ⟨0, Nat.zero_le _, rfl, by rw [List.take_zero]; rfl, Below.refl _ _⟩
  case round =>
    obtain ⟨y, hy, rfl, rfl, hb⟩ := hrel
    have Gb := Lib.hid hb
    replace Av := Lib.hid (Av.out.keep hb)
    replace Kkeep := Lib.hid (slE_keep hb Kkeep.out)
    replace Ax := Lib.hid (Ax.out.keep hb)
    clear hb
    by_cases hym : y < nkeep
    · have x0 : (0 : Int) ≤ (y : Int) := by omega
      have x1 : (y : Int) < (nkeep : Int) := by omega
      have u2 : (y : Int) + 1 < 10000 := by have := Lkeep.out; have := Hkl.out; omega
      have HT : Hid (decide (ρ ∈ keep.take (y + 1)) = (decide (ρ ∈ keep.take y) || decide (rtAt keep y = ρ))) := mem_take (by rw [Lkeep.out]; exact hym) ρ
      obtain ⟨b, hb⟩ : ∃ b, b = decide (ρ ∈ keep.take y) := ⟨_, rfl⟩
      rw [← hb] at HT ⊢
      clear hb
      cases b
      · obtain ⟨b1, o1, rfl, _, q1⟩ := lats_ptr Av.out.s (by rw [Lv.out]; have := Hj.out; omega)
        obtain ⟨b2, o2, rfl, _, q2⟩ := rts_ptr Kkeep.out (by rw [Lkeep.out]; omega)
        have y1 := lats_root q1 (i := j) (by rw [Lv.out]; exact Hj.out)
        have y2 := rts_ld q2 (i := y) (by rw [Lkeep.out]; exact hym)
        rw [← Hρ.out] at y1
        obtain ⟨σ, hσ⟩ : ∃ σ, σ = rtAt keep y := ⟨_, rfl⟩
        rw [← hσ] at y2 HT
        clear q1 q2 hσ
        have z0v := Av.out.z0
        rw [sv_mk] at z0v
        by_cases he : σ = ρ
        · replace he := he.symm
          subst he
          have HT' : Hid (decide (ρ ∈ keep.take (y + 1)) = true) := by show _ = _; rw [HT.out]; simp
          have t1 := eqB_self ρ
          go_wp2_with fail
          go_quiet (fail)
          go_wp2_with fail
          go_roundw
          case rel => exact ⟨y + 1, by omega, by go_num, by rw [HT'.out], belowD Gb.out _⟩
          case measure => simp [intOf]; omega
        · have t1 : decide (σ = ρ) = false := decide_eq_false he
          have HT' : Hid (decide (ρ ∈ keep.take (y + 1)) = false) := by show _ = _; rw [HT.out, t1]; rfl
          have t2 : eqB σ ρ = false := t1
          clear he
          go_wp2_with fail
          go_quiet (fail)
          go_wp2_with fail
          go_roundw
          case rel => exact ⟨y + 1, by omega, by go_num, by rw [HT'.out], belowD Gb.out _⟩
          case measure => simp [intOf]; omega
      · have HT' : Hid (decide (ρ ∈ keep.take (y + 1)) = true) := by show _ = _; rw [HT.out]; rfl
        go_wp2_with fail
        go_quiet (fail)
        go_wp2_with fail
        go_roundw
        case rel => exact ⟨y + 1, by omega, by go_num, by rw [HT'.out], belowD Gb.out _⟩
        case measure => simp [intOf]; omega
    · obtain rfl : y = nkeep := by omega
      rw [show decide (ρ ∈ keep.take y) = decide (ρ ∈ keep) from by rw [← Lkeep.out, List.take_length]]
      obtain ⟨kb, hkb⟩ : ∃ b, b = decide (ρ ∈ keep) := ⟨_, rfl⟩
      have HXe : Hid (lat X.l j = if kb = true then lat v.l j else zlt) := by show _ = _; rw [HXt.out, hkb, Hρ.out]; rfl
      rw [← hkb]
      clear hkb hym
      obtain ⟨wo, rfl⟩ : ∃ wo : World, wo = wr := ⟨_, rfl⟩
      have z0v := Av.out.z0
      rw [sv_mk] at z0v
      have z0x := Ax.out.z0
      rw [sv_mk] at z0x
      have z1x := Ax.out.z1
      have zov := Av.out.zo
      have zox := Ax.out.zo
      rw [HXo.out] at zox
      go_wp2_with fail
      have L0 := fun p : Wd wo.drew => wd_cell z0x p
      have L1 := fun p : Wd wo.drew => wd_cell z0v p
      have L2 := fun p : Wd wo.drew => wd_ld z1x (by decide) p
      have L3 := fun p : Wd wo.drew => wd_cell zox p
      have L4 := fun p : Wd wo.drew => wd_cell zov p
      clear z0v z0x z1x zov zox
      refine wp_region_lex [9, 12, 19, 22, 24] (by kernel_rfl) (by kernel_rfl) (by kernel_rfl) ?_
      repeat (first | (refine wpXL_quiet rfl rfl _ cls_begin ?_; (first | go_big_quiet_step (fail) | quiet_step (fail)); refine wpQuiet_nil ?_) | refine wpXL_skip rfl ?_)
      refine wpXL_call rfl rfl rfl enters_voteMay #[.agg (vo ⟨⟨px, nv, cx⟩, X.out⟩)] rfl ?_
      refine (HM2.out _ _ (slE_keep (belowD (Below.refl _ _) 1) Ax.out.s)).mono ?_
      rintro e u1 ⟨rfl, g⟩
      refine ⟨_, rfl, g, ?_⟩
      simp only [Act.put, List.setIfInBounds_toArray, List.set_cons_zero, List.set_cons_succ]
      have G : Hid (Below wo.heap.size wo u1) := belowT (belowD (Below.refl _ _) 1) g
      clear g
      repeat (first | (refine wpXL_quiet rfl rfl _ cls_begin ?_; (first | go_big_quiet_step (fail) | quiet_step (fail)); refine wpQuiet_nil ?_) | refine wpXL_skip rfl ?_)
      refine wpXL_eff rfl rfl (.bool false) _ rfl (Below.refl _ _) ?_
      simp only [Act.put, List.setIfInBounds_toArray, List.set_cons_zero, List.set_cons_succ]
      repeat (first | (refine wpXL_quiet rfl rfl _ cls_begin ?_; (first | go_big_quiet_step (fail) | quiet_step (fail)); refine wpQuiet_nil ?_) | refine wpXL_skip rfl ?_)
      refine wpXL_eff rfl rfl (.bool false) _ rfl (Below.refl _ _) ?_
      simp only [Act.put, List.setIfInBounds_toArray, List.set_cons_zero, List.set_cons_succ]
      repeat (first | (refine wpXL_quiet rfl rfl _ cls_begin ?_; (first | go_big_quiet_step (fail) | quiet_step (fail)); refine wpQuiet_nil ?_) | refine wpXL_skip rfl ?_)
      refine wpXL_call rfl rfl rfl enters_voteDrop #[.agg (vo ⟨⟨px, nv, cx⟩, X.out⟩), .slice pkeep y ckeep] rfl ?_
      refine (HP2.out _ _ (slE_keep G.out Ax.out.s) (slE_keep G.out Kkeep.out)).mono ?_
      rintro e u2 ⟨sd, rfl, hs, g⟩
      refine ⟨_, rfl, g, ?_⟩
      simp only [Act.put, List.setIfInBounds_toArray, List.set_cons_zero, List.set_cons_succ]
      replace G : Hid (Below wo.heap.size wo u2) := belowT G.out g
      have Sd := Lib.hid hs
      clear hs g
      repeat (first | (refine wpXL_quiet rfl rfl _ cls_begin ?_; (first | go_big_quiet_step (fail) | quiet_step (fail)); refine wpQuiet_nil ?_) | refine wpXL_skip rfl ?_)
      refine wpXL_call rfl rfl rfl enters_voteSame #[.agg (vo ⟨sd, X.out⟩), .agg (vo ⟨⟨px, nv, cx⟩, X.out⟩)] rfl ?_
      refine (HS1.out _ _ _ Sd.out (slE_keep G.out Ax.out.s)).mono ?_
      rintro e u3 ⟨rfl, g⟩
      refine ⟨_, rfl, g, ?_⟩
      simp only [Act.put, List.setIfInBounds_toArray, List.set_cons_zero, List.set_cons_succ]
      replace G : Hid (Below wo.heap.size wo u3) := belowT G.out g
      clear g
      repeat (first | (refine wpXL_quiet rfl rfl _ cls_begin ?_; (first | go_big_quiet_step (fail) | quiet_step (fail)); refine wpQuiet_nil ?_) | refine wpXL_skip rfl ?_)
      refine wpXL_nil ?_
      clear L0 L1 L2 L3 L4
      replace Av := Lib.hid (Av.out.keep G.out)
      replace Kkeep := Lib.hid (slE_keep G.out Kkeep.out)
      replace Ax := Lib.hid (Ax.out.keep G.out)
      clear G Sd
      obtain ⟨bx, ox, rfl, _, qx⟩ := lats_ptr Ax.out.s (by rw [HXl.out]; have := Hj.out; omega)
      obtain ⟨bv, ov, rfl, _, qv⟩ := lats_ptr Av.out.s (by rw [Lv.out]; have := Hj.out; omega)
      have yx := lats_ld qx (i := j) (by rw [HXl.out]; exact Hj.out)
      have yv := lats_ld qv (i := j) (by rw [Lv.out]; exact Hj.out)
      rw [HXe.out] at yx
      clear qx qv
      have z0v := Av.out.z0
      rw [sv_mk] at z0v
      have z0x := Ax.out.z0
      rw [sv_mk] at z0x
      cases kb
      · rw [if_neg Bool.false_ne_true] at yx
        go_wp2_with fail
        go_quiet (fail)
        go_wp2_with fail
        go_ret
        exact ⟨rfl, belowD Av.out.g _⟩
      · rw [if_pos rfl] at yx
        go_wp2_with fail
        go_quiet (fail)
        go_wp2_with fail
        go_ret
        exact ⟨rfl, belowD Av.out.g _⟩
/-- The law. -/
theorem voteDropL (H : VoteC) (tv : SlV) (v : Vt) (vkeep : Value) (keep : List Rt) (i : Int) (w : World) (hv : SlE Elt w (sv tv) v.l) (hkeep : SlE Ert w vkeep keep) :
    Calls Try.prog 6 #[.agg (vo ⟨tv, v.out⟩), vkeep, .int .i64 i] w fun e w' => e = .returned (.bool true) ∧ Below w.heap.size w w' := by
  have lv := sv_lenT hv
  obtain ⟨pv, nv, cv⟩ := tv
  dsimp only at lv
  have kkeep := hkeep
  obtain ⟨pkeep, ckeep, rfl, _⟩ := slE_shape hkeep
  exact voteDrop_n H pv _ cv v pkeep _ ckeep keep i w hv lv kkeep rfl
end Go.Proofs.Ytfmbgpjpkahmnaa
