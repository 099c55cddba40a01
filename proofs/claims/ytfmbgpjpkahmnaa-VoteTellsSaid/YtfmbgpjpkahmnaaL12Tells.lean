/-
  The law VoteTells, walked. (written by wip/gen/law12.py)
-/
import Derived.Test.YtfmbgpjpkahmnaaW12
import Derived.Test.YtfmbgpjpkahmnaaVoteQ
namespace Go.Proofs.Ytfmbgpjpkahmnaa
open Go.RowKit

set_option maxRecDepth 100000 in
set_option maxHeartbeats 8000000 in
theorem voteTells_n (H : VoteC) (pv : Option Addr) (nv cv : Nat) (v : Vt) (pu : Option Addr) (nu cu : Nat) (u : Vt) (val : Int) (r : Rt) (ep : UInt64) (pkeep : Option Addr) (nkeep ckeep : Nat) (keep : List Rt) (w : World) (hv : SlE Elt w (.slice pv nv cv) v.l) (lv : v.l.length = nv) (hu : SlE Elt w (.slice pu nu cu) u.l) (lu : u.l.length = nu) (hkeep : SlE Ert w (.slice pkeep nkeep ckeep) keep) (lkeep : keep.length = nkeep) :
    Calls Try.prog 3 #[.agg (vo ⟨⟨pv, nv, cv⟩, v.out⟩), .agg (vo ⟨⟨pu, nu, cu⟩, u.out⟩), .int .i64 val, .agg (rc r), .int .u64 (ep.toNat : Int), .slice pkeep nkeep ckeep] w fun e w' => e = .returned (.bool true) ∧ Below w.heap.size w w' := by
  obtain ⟨W0, hW0⟩ : ∃ W0, W0 = (((w.alloc (.cells (vo ⟨⟨pv, nv, cv⟩, v.out⟩) 25)).alloc (.cells (vo ⟨⟨pu, nu, cu⟩, u.out⟩) 25)).alloc (.cells (rc r) 27)) := ⟨_, rfl⟩
  obtain ⟨hB, b0, b1, b2, _⟩ := heap3 w _ _ _ _ _ _ W0 hW0
  have Av : Hid (Vw w W0 (w.heap.size) ⟨pv, nv, cv⟩ v) := ⟨b0, slE_keep hB hv, hB⟩
  have Au : Hid (Vw w W0 (w.heap.size + 1) ⟨pu, nu, cu⟩ u) := ⟨b1, slE_keep hB hu, hB⟩
  have M : Hid (W0.heap[w.heap.size + 2]? = some (.cells (rc r) 27 (0, 0))) := b2
  have Lv := Lib.hid lv
  have Lu := Lib.hid lu
  have Lkeep := Lib.hid lkeep
  have Kkeep := Lib.hid (slE_keep hB hkeep)
  have HW := Lib.hid hW0
  have HAw := Lib.hid (fun W => awake_any12 H W)
  have HH := Lib.hid H
  clear hW0 H hB b0 b1 b2 hv lv hu lu hkeep lkeep
  go_enter Try.func3, Try.ntmps3
  go_wp2_with fail
  rw [← HW.out]
  refine (HAw.out _).mono ?_
  rintro e w1 ⟨rfl, g⟩
  replace Av := Lib.hid (Av.out.keep g)
  replace Au := Lib.hid (Au.out.keep g)
  replace M := Lib.hid (blk_keep g M.out)
  replace Kkeep := Lib.hid (slE_keep g Kkeep.out)
  clear g
  have z0v := Av.out.z0
  rw [sv_mk] at z0v
  have z0u := Au.out.z0
  rw [sv_mk] at z0u
  by_cases h1 : 70 < nv
  · have h1i : decide ((70 : Int) < (nv : Int)) = true := decide_eq_true (by omega)
    have h1i' : decide (70 < nv) = true := decide_eq_true (by omega)
    clear h1
    go_wp2_with fail
    go_ret
    exact ⟨rfl, Av.out.g⟩
  have h1i : decide ((70 : Int) < (nv : Int)) = false := decide_eq_false (by omega)
  have h1i' : decide (70 < nv) = false := decide_eq_false (by omega)
  by_cases h2 : 70 < nu
  · have h2i : decide ((70 : Int) < (nu : Int)) = true := decide_eq_true (by omega)
    have h2i' : decide (70 < nu) = true := decide_eq_true (by omega)
    clear h2
    go_wp2_with fail
    go_ret
    exact ⟨rfl, Av.out.g⟩
  have h2i : decide ((70 : Int) < (nu : Int)) = false := decide_eq_false (by omega)
  have h2i' : decide (70 < nu) = false := decide_eq_false (by omega)
  by_cases h3 : 40 < nkeep
  · have h3i : decide ((40 : Int) < (nkeep : Int)) = true := decide_eq_true (by omega)
    have h3i' : decide (40 < nkeep) = true := decide_eq_true (by omega)
    clear h3
    go_wp2_with fail
    go_ret
    exact ⟨rfl, Av.out.g⟩
  have h3i : decide ((40 : Int) < (nkeep : Int)) = false := decide_eq_false (by omega)
  have h3i' : decide (40 < nkeep) = false := decide_eq_false (by omega)
  have hn : v.l.length ≤ 1000 := by have := Lv.out; omega
  have hk : keep.length ≤ 1000 := by have := Lkeep.out; omega
  have HP1 := Lib.hid (fun s W (h : SlE Elt W (sv s) v.l) => HH.out.put s v val r ep W h hn)
  have HP2 := Lib.hid (fun s W (h : SlE Elt W (sv s) v.l) => ref12Put s v val r ep W h hn)
  have HD1 := Lib.hid (fun s W (h : SlE Elt W (sv s) v.l) (g : SlE Ert W (.slice pkeep nkeep ckeep) keep) => HH.out.drop s _ v keep W h g hn hk)
  have HD2 := Lib.hid (fun s W (h : SlE Elt W (sv s) v.l) (g : SlE Ert W (.slice pkeep nkeep ckeep) keep) => ref12Drop s _ v keep W h g hn hk)
  have HN1 := Lib.hid (fun W => HH.out.new val W)
  have HN2 := Lib.hid (fun W => ref12New val W)
  have HM1 := Lib.hid (fun s W (h : SlE Elt W (sv s) v.l) => HH.out.may s v W h)
  have HM2 := Lib.hid (fun s W (h : SlE Elt W (sv s) v.l) => ref12May s v W h hn)
  have HS1 := Lib.hid (fun s s' W (h : SlE Elt W (sv s) v.l) (h' : SlE Elt W (sv s') u.l) => HH.out.same s s' v u W h h' hn)
  have HS2 := Lib.hid (fun s s' W (h : SlE Elt W (sv s) v.l) (h' : SlE Elt W (sv s') u.l) => ref12Same s s' v u W h h' hn)
  have k1 : (putV v val r ep).l.length ≤ 1000 := by rw [put_len]; exact hn
  have k2 : (dropV v keep).l.length ≤ 1000 := by rw [drop_len]; exact hn
  have k3 : (newV val).l.length ≤ 1000 := Nat.le_trans new_len (by decide)
  generalize putV v val r ep = PV at *
  generalize putVk v val r ep = PK at *
  generalize putVe v val = PE at *
  generalize dropV v keep = DV at *
  generalize newV val = NV at *
  generalize newOkV val = NK at *
  generalize mayV v = MV at *
  obtain ⟨sm, hsm⟩ : ∃ b, b = decide (v = u) := ⟨_, rfl⟩
  rw [← hsm] at HS1 HS2
  have HSp := Lib.hid (fun s s' W (h : SlE Elt W (sv s) PV.l) (h' : SlE Elt W (sv s') PV.l) => ref12Same s s' PV PV W h h' k1)
  rw [decide_eq_true rfl] at HSp
  have HSd := Lib.hid (fun s s' W (h : SlE Elt W (sv s) DV.l) (h' : SlE Elt W (sv s') DV.l) => ref12Same s s' DV DV W h h' k2)
  rw [decide_eq_true rfl] at HSd
  have HSn := Lib.hid (fun s s' W (h : SlE Elt W (sv s) NV.l) (h' : SlE Elt W (sv s') NV.l) => ref12Same s s' NV NV W h h' k3)
  rw [decide_eq_true rfl] at HSn
  clear hn hk k1 k2 k3 hsm h1 h2 h3
  have z1v := Av.out.z1
  have zr := ldA_block M.out (rc_size _)
  go_wp2_with fail
  refine (HP1.out _ _ Av.out.s).mono ?_
  rintro e w2 ⟨sa, rfl, hs, g⟩
  clear z0v z0u
  clear z1v zr
  have Aa := Lib.hid (vw_at (belowT Av.out.g g) hs)
  replace Av := Lib.hid (Av.out.keep (belowT g (below1 (o := .cells (vo ⟨sa, PV.out⟩) 25))))
  replace Au := Lib.hid (Au.out.keep (belowT g (below1 (o := .cells (vo ⟨sa, PV.out⟩) 25))))
  replace M := Lib.hid (blk_keep (belowT g (below1 (o := .cells (vo ⟨sa, PV.out⟩) 25))) M.out)
  replace Kkeep := Lib.hid (slE_keep (belowT g (below1 (o := .cells (vo ⟨sa, PV.out⟩) 25))) Kkeep.out)
  clear hs g
  go_upto_region 5 with fail
  obtain ⟨WAa, hW⟩ : ∃ W, W = w2.alloc (.cells (vo ⟨sa, PV.out⟩) 25) := ⟨_, rfl⟩
  rw [← hW] at Av Au M Kkeep Aa ⊢
  clear hW
  have z1v := Av.out.z1
  have zr := ldA_block M.out (rc_size _)
  go_wp2_with fail
  refine (HP2.out _ _ Av.out.s).mono ?_
  rintro e w3 ⟨sb, rfl, hs, g⟩
  clear z1v zr
  have Ab := Lib.hid (vw_at (belowT Aa.out.g g) hs)
  replace Av := Lib.hid (Av.out.keep (belowT g (below1 (o := .cells (vo ⟨sb, PV.out⟩) 25))))
  replace Au := Lib.hid (Au.out.keep (belowT g (below1 (o := .cells (vo ⟨sb, PV.out⟩) 25))))
  replace M := Lib.hid (blk_keep (belowT g (below1 (o := .cells (vo ⟨sb, PV.out⟩) 25))) M.out)
  replace Kkeep := Lib.hid (slE_keep (belowT g (below1 (o := .cells (vo ⟨sb, PV.out⟩) 25))) Kkeep.out)
  replace Aa := Lib.hid (Aa.out.keep (belowT g (below1 (o := .cells (vo ⟨sb, PV.out⟩) 25))))
  clear hs g
  go_upto_region 6 with fail
  obtain ⟨WAb, hW⟩ : ∃ W, W = w3.alloc (.cells (vo ⟨sb, PV.out⟩) 25) := ⟨_, rfl⟩
  rw [← hW] at Av Au M Kkeep Aa Ab ⊢
  clear hW
  have z1a := Aa.out.z1
  have z1b := Ab.out.z1
  go_wp2_with fail
  refine (HSp.out _ _ _ Aa.out.s Ab.out.s).mono ?_
  rintro e w4 ⟨rfl, g⟩
  clear z1a z1b
  clear Aa Ab
  replace Av := Lib.hid (Av.out.keep g)
  replace Au := Lib.hid (Au.out.keep g)
  replace M := Lib.hid (blk_keep g M.out)
  replace Kkeep := Lib.hid (slE_keep g Kkeep.out)
  clear g
  have z1v := Av.out.z1
  go_wp2_with fail
  have L0 := fun p : Wd w4.drew => wd_ld z1v (by decide) p
  refine wp_region_lex [2, 5, 6] (by kernel_rfl) (by kernel_rfl) (by kernel_rfl) ?_
  repeat (first | (refine wpXL_quiet rfl rfl _ cls_begin ?_; (first | go_big_quiet_step (fail) | quiet_step (fail)); refine wpQuiet_nil ?_) | refine wpXL_skip rfl ?_)
  refine wpXL_call rfl rfl rfl enters_voteDrop #[.agg (vo ⟨⟨pv, nv, cv⟩, v.out⟩), .slice pkeep nkeep ckeep] rfl ?_
  refine (HD1.out _ _ (slE_keep (belowD (Below.refl _ _) 1) Av.out.s) (slE_keep (belowD (Below.refl _ _) 1) Kkeep.out)).mono ?_
  rintro e u1 ⟨sc, rfl, hs, g⟩
  refine ⟨_, rfl, g, ?_⟩
  simp only [Act.put, List.setIfInBounds_toArray, List.set_cons_zero, List.set_cons_succ]
  have G : Hid (Below w4.heap.size w4 u1) := belowT (belowD (Below.refl _ _) 1) g
  have Sc := Lib.hid hs
  clear hs g
  repeat (first | (refine wpXL_quiet rfl rfl _ cls_begin ?_; (first | go_big_quiet_step (fail) | quiet_step (fail)); refine wpQuiet_nil ?_) | refine wpXL_skip rfl ?_)
  refine wpXL_call rfl rfl rfl enters_ref12Drop #[.agg (vo ⟨⟨pv, nv, cv⟩, v.out⟩), .slice pkeep nkeep ckeep] rfl ?_
  refine (HD2.out _ _ (slE_keep G.out Av.out.s) (slE_keep G.out Kkeep.out)).mono ?_
  rintro e u2 ⟨sd, rfl, hs, g⟩
  refine ⟨_, rfl, g, ?_⟩
  simp only [Act.put, List.setIfInBounds_toArray, List.set_cons_zero, List.set_cons_succ]
  replace G : Hid (Below w4.heap.size w4 u2) := belowT G.out g
  replace Sc := Lib.hid (slE_keep g Sc.out)
  have Sd := Lib.hid hs
  clear hs g
  repeat (first | (refine wpXL_quiet rfl rfl _ cls_begin ?_; (first | go_big_quiet_step (fail) | quiet_step (fail)); refine wpQuiet_nil ?_) | refine wpXL_skip rfl ?_)
  refine wpXL_call rfl rfl rfl enters_ref12Same #[.agg (vo ⟨sc, DV.out⟩), .agg (vo ⟨sd, DV.out⟩)] rfl ?_
  refine (HSd.out _ _ _ Sc.out Sd.out).mono ?_
  rintro e u3 ⟨rfl, g⟩
  refine ⟨_, rfl, g, ?_⟩
  simp only [Act.put, List.setIfInBounds_toArray, List.set_cons_zero, List.set_cons_succ]
  replace G : Hid (Below w4.heap.size w4 u3) := belowT G.out g
  clear g
  repeat (first | (refine wpXL_quiet rfl rfl _ cls_begin ?_; (first | go_big_quiet_step (fail) | quiet_step (fail)); refine wpQuiet_nil ?_) | refine wpXL_skip rfl ?_)
  refine wpXL_nil ?_
  clear L0 z1v
  replace Av := Lib.hid (Av.out.keep G.out)
  replace Au := Lib.hid (Au.out.keep G.out)
  replace M := Lib.hid (blk_keep G.out M.out)
  replace Kkeep := Lib.hid (slE_keep G.out Kkeep.out)
  clear G Sc Sd
  obtain ⟨w5, rfl⟩ : ∃ W : World, W = u3 := ⟨_, rfl⟩
  go_wp2_with fail
  refine (HN1.out _).mono ?_
  rintro e w6 ⟨sa, rfl, hs, g⟩
  have Aa := Lib.hid (vw_at (belowT Av.out.g g) hs)
  replace Av := Lib.hid (Av.out.keep (belowT g (below1 (o := .cells (vo ⟨sa, NV.out⟩) 25))))
  replace Au := Lib.hid (Au.out.keep (belowT g (below1 (o := .cells (vo ⟨sa, NV.out⟩) 25))))
  replace M := Lib.hid (blk_keep (belowT g (below1 (o := .cells (vo ⟨sa, NV.out⟩) 25))) M.out)
  replace Kkeep := Lib.hid (slE_keep (belowT g (below1 (o := .cells (vo ⟨sa, NV.out⟩) 25))) Kkeep.out)
  clear hs g
  go_upto_region 9 with fail
  obtain ⟨WAa, hW⟩ : ∃ W, W = w6.alloc (.cells (vo ⟨sa, NV.out⟩) 25) := ⟨_, rfl⟩
  rw [← hW] at Av Au M Kkeep Aa ⊢
  clear hW
  go_wp2_with fail
  refine (HN2.out _).mono ?_
  rintro e w7 ⟨sb, rfl, hs, g⟩
  have Ab := Lib.hid (vw_at (belowT Aa.out.g g) hs)
  replace Av := Lib.hid (Av.out.keep (belowT g (below1 (o := .cells (vo ⟨sb, NV.out⟩) 25))))
  replace Au := Lib.hid (Au.out.keep (belowT g (below1 (o := .cells (vo ⟨sb, NV.out⟩) 25))))
  replace M := Lib.hid (blk_keep (belowT g (below1 (o := .cells (vo ⟨sb, NV.out⟩) 25))) M.out)
  replace Kkeep := Lib.hid (slE_keep (belowT g (below1 (o := .cells (vo ⟨sb, NV.out⟩) 25))) Kkeep.out)
  replace Aa := Lib.hid (Aa.out.keep (belowT g (below1 (o := .cells (vo ⟨sb, NV.out⟩) 25))))
  clear hs g
  go_upto_region 10 with fail
  obtain ⟨WAb, hW⟩ : ∃ W, W = w7.alloc (.cells (vo ⟨sb, NV.out⟩) 25) := ⟨_, rfl⟩
  rw [← hW] at Av Au M Kkeep Aa Ab ⊢
  clear hW
  have z1a := Aa.out.z1
  have z1b := Ab.out.z1
  go_wp2_with fail
  refine (HSn.out _ _ _ Aa.out.s Ab.out.s).mono ?_
  rintro e w8 ⟨rfl, g⟩
  clear z1a z1b
  clear Aa Ab
  replace Av := Lib.hid (Av.out.keep g)
  replace Au := Lib.hid (Au.out.keep g)
  replace M := Lib.hid (blk_keep g M.out)
  replace Kkeep := Lib.hid (slE_keep g Kkeep.out)
  clear g
  have z1v := Av.out.z1
  have z1u := Au.out.z1
  go_wp2_with fail
  refine (HM2.out _ _ Av.out.s).mono ?_
  rintro e w9 ⟨rfl, g⟩
  clear z1v z1u
  replace Av := Lib.hid (Av.out.keep g)
  replace Au := Lib.hid (Au.out.keep g)
  replace M := Lib.hid (blk_keep g M.out)
  replace Kkeep := Lib.hid (slE_keep g Kkeep.out)
  clear g
  have z1v := Av.out.z1
  have z1u := Au.out.z1
  go_wp2_with fail
  refine (HS2.out _ _ _ Av.out.s Au.out.s).mono ?_
  rintro e w10 ⟨rfl, g⟩
  clear z1v z1u
  replace Av := Lib.hid (Av.out.keep g)
  replace Au := Lib.hid (Au.out.keep g)
  replace M := Lib.hid (blk_keep g M.out)
  replace Kkeep := Lib.hid (slE_keep g Kkeep.out)
  clear g
  have z1v := Av.out.z1
  have z1u := Au.out.z1
  go_wp2_with fail
  refine (HM1.out _ _ Av.out.s).mono ?_
  rintro e w11 ⟨rfl, g⟩
  clear z1v z1u
  replace Av := Lib.hid (Av.out.keep g)
  replace Au := Lib.hid (Au.out.keep g)
  replace M := Lib.hid (blk_keep g M.out)
  replace Kkeep := Lib.hid (slE_keep g Kkeep.out)
  clear g
  have z1v := Av.out.z1
  have z1u := Au.out.z1
  go_wp2_with fail
  refine (HS1.out _ _ _ Av.out.s Au.out.s).mono ?_
  rintro e w12 ⟨rfl, g⟩
  clear z1v z1u
  replace Av := Lib.hid (Av.out.keep g)
  replace Au := Lib.hid (Au.out.keep g)
  replace M := Lib.hid (blk_keep g M.out)
  replace Kkeep := Lib.hid (slE_keep g Kkeep.out)
  clear g
  go_wp2_with fail
  go_ret
  exact ⟨rfl, Av.out.g⟩
/-- The law. -/
theorem voteTellsL (H : VoteC) (tv : SlV) (v : Vt) (tu : SlV) (u : Vt) (val : Int) (r : Rt) (ep : UInt64) (vkeep : Value) (keep : List Rt) (w : World) (hv : SlE Elt w (sv tv) v.l) (hu : SlE Elt w (sv tu) u.l) (hkeep : SlE Ert w vkeep keep) :
    Calls Try.prog 3 #[.agg (vo ⟨tv, v.out⟩), .agg (vo ⟨tu, u.out⟩), .int .i64 val, .agg (rc r), .int .u64 (ep.toNat : Int), vkeep] w fun e w' => e = .returned (.bool true) ∧ Below w.heap.size w w' := by
  have lv := sv_lenT hv
  obtain ⟨pv, nv, cv⟩ := tv
  dsimp only at lv
  have lu := sv_lenT hu
  obtain ⟨pu, nu, cu⟩ := tu
  dsimp only at lu
  have kkeep := hkeep
  obtain ⟨pkeep, ckeep, rfl, _⟩ := slE_shape hkeep
  exact voteTells_n H pv _ cv v pu _ cu u val r ep pkeep _ ckeep keep w hv lv hu lu kkeep rfl
end Go.Proofs.Ytfmbgpjpkahmnaa
