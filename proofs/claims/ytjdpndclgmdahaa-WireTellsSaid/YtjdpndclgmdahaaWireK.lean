/-
  The law WireOwn, walked.
-/
import Derived.Test.YtjdpndclgmdahaaWireG
namespace Go.Proofs.Ytjdpndclgmdahaa
open Go.RowKit

theorem enters_f {P : Program} {f : FuncId} {fn : Func} (hf : P.funcs[f]? = some fn) (hname : (fn.name == "runtime.NumGoroutine") = false) (hb : fn.body.isNone = false) : ∀ args w, (callFunc f args).run P w = .ok (.enter f args) w := fun args w => by
  have h1 : fn.name ≠ "runtime.NumGoroutine" := by simpa using hname
  have h2 : ¬ fn.body = none := fun e => by rw [e] at hb; cases hb
  simp [callFunc, hf, h1, h2]
theorem enters_putBlock : ∀ args w, (callFunc 16 args).run Try.prog w = .ok (.enter 16 args) w := enters_f Try.func16 (by kernel_rfl) (by kernel_rfl)

theorem putB_beq (a b : Blk) : (putB a == putB b) = eqBlk a b := by
  unfold eqBlk
  rw [Bool.eq_iff_iff, beq_iff_eq, decide_eq_true_iff]
  constructor
  · intro h
    have := congrArg getB h
    rwa [getB_putB, getB_putB] at this
  · intro h; rw [h]
theorem putA_beq (a b : At) (ha : okV a.val = true) (hb : okV b.val = true) : (putAs a == putAs b) = eqAt a b := by
  unfold eqAt putAs
  rw [if_pos ha, if_pos hb, Bool.eq_iff_iff, beq_iff_eq, decide_eq_true_iff]
  constructor
  · intro h
    have := congrArg getA h
    rwa [getA_putA a ha, getA_putA b hb] at this
  · intro h; rw [h]

set_option maxRecDepth 100000 in
set_option maxHeartbeats 4000000 in
theorem wireOwn_tt (a b : Blk) (c d : At) (w : World) (hc : okV c.val = true) (hd : okV d.val = true) :
    Calls Try.prog 5 #[.agg (bc a), .agg (bc b), .agg (ac c), .agg (ac d)] w fun e w' => e = .returned (.bool true) ∧ Below w.heap.size w w' := by
  have cC := fun W => putAtt_any c W
  have cD := fun W => putAtt_any d W
  rw [hc] at cC
  rw [hd] at cD
  have hab := putB_beq a b
  have hcd := putA_beq c d hc hd
  have HCC := Lib.hid cC
  have HCD := Lib.hid cD
  clear cC cD hc hd
  have G00 : Below w.heap.size w ((((w.alloc (.cells (bc a) 26)).alloc (.cells (bc b) 26)).alloc (.cells (ac c) 30)).alloc (.cells (ac d) 30)) :=
    ((((Below.refl w.heap.size w).alloc (Nat.le_refl _) _).alloc (by simp) _).alloc (by simp; omega) _).alloc (by simp; omega) _
  have HG00 := Lib.hid G00; clear G00
  go_enter Try.func5, Try.ntmps5
  go_wp2_with fail
  refine (awake_any _).mono ?_
  rintro e w0 ⟨rfl, g0⟩
  have la0 : ldA w0 (.pointer (some ⟨w.heap.size, 0, none⟩)) 66 = some (bc a) := keep g0 (by go_simp)
  have lb0 : ldA w0 (.pointer (some ⟨w.heap.size + 1, 0, none⟩)) 66 = some (bc b) := keep g0 (by go_simp)
  have lc0 : ldA w0 (.pointer (some ⟨w.heap.size + 1 + 1, 0, none⟩)) 100 = some (ac c) := keep g0 (by go_simp)
  have ld0 : ldA w0 (.pointer (some ⟨w.heap.size + 1 + 1 + 1, 0, none⟩)) 100 = some (ac d) := keep g0 (by go_simp)
  have G0 := Lib.hid (belowT HG00.out g0)
  clear g0
  go_wp2_with fail
  refine (HCC.out _).mono ?_
  rintro e w1 ⟨v1, rfl, hs1, g1⟩
  have HS1 := Lib.hid hs1
  have la1 := keep g1 la0
  have lb1 := keep g1 lb0
  have lc1 := keep g1 lc0
  have ld1 := keep g1 ld0
  have G1 := Lib.hid (belowT G0.out g1)
  clear g1 hs1 la0 lb0 lc0 ld0
  go_wp2_with fail
  refine (HCD.out _).mono ?_
  rintro e w2 ⟨v2, rfl, hs2, g2⟩
  have HS1' := Lib.hid (slB_keep g2 HS1.out)
  have HS2 := Lib.hid hs2
  have la2 := keep g2 la1
  have lb2 := keep g2 lb1
  have lc2 := keep g2 lc1
  have ld2 := keep g2 ld1
  have G2 := Lib.hid (belowT G1.out g2)
  clear g2 hs2 la1 lb1 lc1 ld1
  go_wp2_with fail
  have La := fun p : Wd w2.drew => ldA_wd (show ldA w2.drew _ 66 = _ by rw [ldA_drew]; exact la2) (by decide) p
  have Lb := fun p : Wd w2.drew => ldA_wd (show ldA w2.drew _ 66 = _ by rw [ldA_drew]; exact lb2) (by decide) p
  have Lc := fun p : Wd w2.drew => ldA_wd (show ldA w2.drew _ 100 = _ by rw [ldA_drew]; exact lc2) (by decide) p
  have Ld := fun p : Wd w2.drew => ldA_wd (show ldA w2.drew _ 100 = _ by rw [ldA_drew]; exact ld2) (by decide) p
  have S1 := fun p : Wd w2.drew => strB_wd (show SlB w2.drew v1 _ from HS1'.out) p
  have S2 := fun p : Wd w2.drew => strB_wd (show SlB w2.drew v2 _ from HS2.out) p
  clear la2 lb2 lc2 ld2
  refine wp_region_lex [3, 6] (by kernel_rfl) (by kernel_rfl) (by kernel_rfl) ?_
  repeat (refine wpXL_quiet rfl rfl _ cls_begin ?_; (first | go_big_quiet_step (fail) | quiet_step (fail)); refine wpQuiet_nil ?_)
  refine wpXL_call rfl rfl rfl enters_putBlock #[.agg (bc a)] rfl ?_
  refine (putBlock_any a _).mono ?_
  rintro e w3 ⟨v3, rfl, hs3, g3⟩
  refine ⟨_, rfl, g3, ?_⟩
  simp only [Act.put, List.setIfInBounds_toArray, List.set_cons_zero, List.set_cons_succ]
  have S3 := fun p : Wd w3 => strB_wd hs3 p
  have G3 := Lib.hid (show Lq w2.drew w3 from g3)
  clear hs3 g3
  refine wpXL_quiet rfl rfl w3 (cls_at 3 w3 (by simp) (by kernel_rfl)) ?_
  first | go_big_quiet_step (fail) | quiet_step (fail)
  refine wpQuiet_nil ?_
  repeat (refine wpXL_quiet rfl rfl _ cls_begin ?_; (first | go_big_quiet_step (fail) | quiet_step (fail)); refine wpQuiet_nil ?_)
  refine wpXL_call rfl rfl rfl enters_putBlock #[.agg (bc b)] rfl ?_
  refine (putBlock_any b _).mono ?_
  rintro e w4 ⟨v4, rfl, hs4, g4⟩
  refine ⟨_, rfl, g4, ?_⟩
  simp only [Act.put, List.setIfInBounds_toArray, List.set_cons_zero, List.set_cons_succ]
  have S4 := fun p : Wd w4 => strB_wd hs4 p
  have G4 := Lib.hid (show Lq w3 w4 from g4)
  clear hs4 g4
  refine wpXL_quiet rfl rfl w4 (cls_at 6 w4 (by simp) (by kernel_rfl)) ?_
  first | go_big_quiet_step (fail) | quiet_step (fail)
  refine wpQuiet_nil ?_
  repeat (refine wpXL_quiet rfl rfl _ cls_begin ?_; (first | go_big_quiet_step (fail) | quiet_step (fail)); refine wpQuiet_nil ?_)
  refine wpXL_nil ?_
  go_wp2_with fail
  go_ret
  exact ⟨rfl, belowT G2.out (Lq.trans (Lq.trans (belowD (Below.refl _ _) 1) G3.out) G4.out)⟩
set_option maxRecDepth 100000 in
set_option maxHeartbeats 4000000 in
theorem wireOwn_tf (a b : Blk) (c d : At) (w : World) (hc : okV c.val = true) (hd : okV d.val = false) :
    Calls Try.prog 5 #[.agg (bc a), .agg (bc b), .agg (ac c), .agg (ac d)] w fun e w' => e = .returned (.bool true) ∧ Below w.heap.size w w' := by
  have cC := fun W => putAtt_any c W
  have cD := fun W => putAtt_any d W
  rw [hc] at cC
  rw [hd] at cD
  have hab := putB_beq a b
  have HCC := Lib.hid cC
  have HCD := Lib.hid cD
  clear cC cD hc hd
  have G00 : Below w.heap.size w ((((w.alloc (.cells (bc a) 26)).alloc (.cells (bc b) 26)).alloc (.cells (ac c) 30)).alloc (.cells (ac d) 30)) :=
    ((((Below.refl w.heap.size w).alloc (Nat.le_refl _) _).alloc (by simp) _).alloc (by simp; omega) _).alloc (by simp; omega) _
  have HG00 := Lib.hid G00; clear G00
  go_enter Try.func5, Try.ntmps5
  go_wp2_with fail
  refine (awake_any _).mono ?_
  rintro e w0 ⟨rfl, g0⟩
  have la0 : ldA w0 (.pointer (some ⟨w.heap.size, 0, none⟩)) 66 = some (bc a) := keep g0 (by go_simp)
  have lb0 : ldA w0 (.pointer (some ⟨w.heap.size + 1, 0, none⟩)) 66 = some (bc b) := keep g0 (by go_simp)
  have lc0 : ldA w0 (.pointer (some ⟨w.heap.size + 1 + 1, 0, none⟩)) 100 = some (ac c) := keep g0 (by go_simp)
  have ld0 : ldA w0 (.pointer (some ⟨w.heap.size + 1 + 1 + 1, 0, none⟩)) 100 = some (ac d) := keep g0 (by go_simp)
  have G0 := Lib.hid (belowT HG00.out g0)
  clear g0
  go_wp2_with fail
  refine (HCC.out _).mono ?_
  rintro e w1 ⟨v1, rfl, hs1, g1⟩
  have HS1 := Lib.hid hs1
  have la1 := keep g1 la0
  have lb1 := keep g1 lb0
  have lc1 := keep g1 lc0
  have ld1 := keep g1 ld0
  have G1 := Lib.hid (belowT G0.out g1)
  clear g1 hs1 la0 lb0 lc0 ld0
  go_wp2_with fail
  refine (HCD.out _).mono ?_
  rintro e w2 ⟨v2, rfl, hs2, g2⟩
  have HS1' := Lib.hid (slB_keep g2 HS1.out)
  have HS2 := Lib.hid hs2
  have la2 := keep g2 la1
  have lb2 := keep g2 lb1
  have lc2 := keep g2 lc1
  have ld2 := keep g2 ld1
  have G2 := Lib.hid (belowT G1.out g2)
  clear g2 hs2 la1 lb1 lc1 ld1
  go_wp2_with fail
  have La := fun p : Wd w2.drew => ldA_wd (show ldA w2.drew _ 66 = _ by rw [ldA_drew]; exact la2) (by decide) p
  have Lb := fun p : Wd w2.drew => ldA_wd (show ldA w2.drew _ 66 = _ by rw [ldA_drew]; exact lb2) (by decide) p
  have Lc := fun p : Wd w2.drew => ldA_wd (show ldA w2.drew _ 100 = _ by rw [ldA_drew]; exact lc2) (by decide) p
  have Ld := fun p : Wd w2.drew => ldA_wd (show ldA w2.drew _ 100 = _ by rw [ldA_drew]; exact ld2) (by decide) p
  have S1 := fun p : Wd w2.drew => strB_wd (show SlB w2.drew v1 _ from HS1'.out) p
  have S2 := fun p : Wd w2.drew => strB_wd (show SlB w2.drew v2 _ from HS2.out) p
  clear la2 lb2 lc2 ld2
  refine wp_region_lex [3, 6] (by kernel_rfl) (by kernel_rfl) (by kernel_rfl) ?_
  repeat (refine wpXL_quiet rfl rfl _ cls_begin ?_; (first | go_big_quiet_step (fail) | quiet_step (fail)); refine wpQuiet_nil ?_)
  refine wpXL_call rfl rfl rfl enters_putBlock #[.agg (bc a)] rfl ?_
  refine (putBlock_any a _).mono ?_
  rintro e w3 ⟨v3, rfl, hs3, g3⟩
  refine ⟨_, rfl, g3, ?_⟩
  simp only [Act.put, List.setIfInBounds_toArray, List.set_cons_zero, List.set_cons_succ]
  have S3 := fun p : Wd w3 => strB_wd hs3 p
  have G3 := Lib.hid (show Lq w2.drew w3 from g3)
  clear hs3 g3
  refine wpXL_quiet rfl rfl w3 (cls_at 3 w3 (by simp) (by kernel_rfl)) ?_
  first | go_big_quiet_step (fail) | quiet_step (fail)
  refine wpQuiet_nil ?_
  repeat (refine wpXL_quiet rfl rfl _ cls_begin ?_; (first | go_big_quiet_step (fail) | quiet_step (fail)); refine wpQuiet_nil ?_)
  refine wpXL_call rfl rfl rfl enters_putBlock #[.agg (bc b)] rfl ?_
  refine (putBlock_any b _).mono ?_
  rintro e w4 ⟨v4, rfl, hs4, g4⟩
  refine ⟨_, rfl, g4, ?_⟩
  simp only [Act.put, List.setIfInBounds_toArray, List.set_cons_zero, List.set_cons_succ]
  have S4 := fun p : Wd w4 => strB_wd hs4 p
  have G4 := Lib.hid (show Lq w3 w4 from g4)
  clear hs4 g4
  refine wpXL_quiet rfl rfl w4 (cls_at 6 w4 (by simp) (by kernel_rfl)) ?_
  first | go_big_quiet_step (fail) | quiet_step (fail)
  refine wpQuiet_nil ?_
  repeat (refine wpXL_quiet rfl rfl _ cls_begin ?_; (first | go_big_quiet_step (fail) | quiet_step (fail)); refine wpQuiet_nil ?_)
  refine wpXL_nil ?_
  go_wp2_with fail
  go_ret
  exact ⟨rfl, belowT G2.out (Lq.trans (Lq.trans (belowD (Below.refl _ _) 1) G3.out) G4.out)⟩
set_option maxRecDepth 100000 in
set_option maxHeartbeats 4000000 in
theorem wireOwn_ft (a b : Blk) (c d : At) (w : World) (hc : okV c.val = false) (hd : okV d.val = true) :
    Calls Try.prog 5 #[.agg (bc a), .agg (bc b), .agg (ac c), .agg (ac d)] w fun e w' => e = .returned (.bool true) ∧ Below w.heap.size w w' := by
  have cC := fun W => putAtt_any c W
  have cD := fun W => putAtt_any d W
  rw [hc] at cC
  rw [hd] at cD
  have hab := putB_beq a b
  have HCC := Lib.hid cC
  have HCD := Lib.hid cD
  clear cC cD hc hd
  have G00 : Below w.heap.size w ((((w.alloc (.cells (bc a) 26)).alloc (.cells (bc b) 26)).alloc (.cells (ac c) 30)).alloc (.cells (ac d) 30)) :=
    ((((Below.refl w.heap.size w).alloc (Nat.le_refl _) _).alloc (by simp) _).alloc (by simp; omega) _).alloc (by simp; omega) _
  have HG00 := Lib.hid G00; clear G00
  go_enter Try.func5, Try.ntmps5
  go_wp2_with fail
  refine (awake_any _).mono ?_
  rintro e w0 ⟨rfl, g0⟩
  have la0 : ldA w0 (.pointer (some ⟨w.heap.size, 0, none⟩)) 66 = some (bc a) := keep g0 (by go_simp)
  have lb0 : ldA w0 (.pointer (some ⟨w.heap.size + 1, 0, none⟩)) 66 = some (bc b) := keep g0 (by go_simp)
  have lc0 : ldA w0 (.pointer (some ⟨w.heap.size + 1 + 1, 0, none⟩)) 100 = some (ac c) := keep g0 (by go_simp)
  have ld0 : ldA w0 (.pointer (some ⟨w.heap.size + 1 + 1 + 1, 0, none⟩)) 100 = some (ac d) := keep g0 (by go_simp)
  have G0 := Lib.hid (belowT HG00.out g0)
  clear g0
  go_wp2_with fail
  refine (HCC.out _).mono ?_
  rintro e w1 ⟨v1, rfl, hs1, g1⟩
  have HS1 := Lib.hid hs1
  have la1 := keep g1 la0
  have lb1 := keep g1 lb0
  have lc1 := keep g1 lc0
  have ld1 := keep g1 ld0
  have G1 := Lib.hid (belowT G0.out g1)
  clear g1 hs1 la0 lb0 lc0 ld0
  go_wp2_with fail
  refine (HCD.out _).mono ?_
  rintro e w2 ⟨v2, rfl, hs2, g2⟩
  have HS1' := Lib.hid (slB_keep g2 HS1.out)
  have HS2 := Lib.hid hs2
  have la2 := keep g2 la1
  have lb2 := keep g2 lb1
  have lc2 := keep g2 lc1
  have ld2 := keep g2 ld1
  have G2 := Lib.hid (belowT G1.out g2)
  clear g2 hs2 la1 lb1 lc1 ld1
  go_wp2_with fail
  have La := fun p : Wd w2.drew => ldA_wd (show ldA w2.drew _ 66 = _ by rw [ldA_drew]; exact la2) (by decide) p
  have Lb := fun p : Wd w2.drew => ldA_wd (show ldA w2.drew _ 66 = _ by rw [ldA_drew]; exact lb2) (by decide) p
  have Lc := fun p : Wd w2.drew => ldA_wd (show ldA w2.drew _ 100 = _ by rw [ldA_drew]; exact lc2) (by decide) p
  have Ld := fun p : Wd w2.drew => ldA_wd (show ldA w2.drew _ 100 = _ by rw [ldA_drew]; exact ld2) (by decide) p
  have S1 := fun p : Wd w2.drew => strB_wd (show SlB w2.drew v1 _ from HS1'.out) p
  have S2 := fun p : Wd w2.drew => strB_wd (show SlB w2.drew v2 _ from HS2.out) p
  clear la2 lb2 lc2 ld2
  refine wp_region_lex [3, 6] (by kernel_rfl) (by kernel_rfl) (by kernel_rfl) ?_
  repeat (refine wpXL_quiet rfl rfl _ cls_begin ?_; (first | go_big_quiet_step (fail) | quiet_step (fail)); refine wpQuiet_nil ?_)
  refine wpXL_call rfl rfl rfl enters_putBlock #[.agg (bc a)] rfl ?_
  refine (putBlock_any a _).mono ?_
  rintro e w3 ⟨v3, rfl, hs3, g3⟩
  refine ⟨_, rfl, g3, ?_⟩
  simp only [Act.put, List.setIfInBounds_toArray, List.set_cons_zero, List.set_cons_succ]
  have S3 := fun p : Wd w3 => strB_wd hs3 p
  have G3 := Lib.hid (show Lq w2.drew w3 from g3)
  clear hs3 g3
  refine wpXL_quiet rfl rfl w3 (cls_at 3 w3 (by simp) (by kernel_rfl)) ?_
  first | go_big_quiet_step (fail) | quiet_step (fail)
  refine wpQuiet_nil ?_
  repeat (refine wpXL_quiet rfl rfl _ cls_begin ?_; (first | go_big_quiet_step (fail) | quiet_step (fail)); refine wpQuiet_nil ?_)
  refine wpXL_call rfl rfl rfl enters_putBlock #[.agg (bc b)] rfl ?_
  refine (putBlock_any b _).mono ?_
  rintro e w4 ⟨v4, rfl, hs4, g4⟩
  refine ⟨_, rfl, g4, ?_⟩
  simp only [Act.put, List.setIfInBounds_toArray, List.set_cons_zero, List.set_cons_succ]
  have S4 := fun p : Wd w4 => strB_wd hs4 p
  have G4 := Lib.hid (show Lq w3 w4 from g4)
  clear hs4 g4
  refine wpXL_quiet rfl rfl w4 (cls_at 6 w4 (by simp) (by kernel_rfl)) ?_
  first | go_big_quiet_step (fail) | quiet_step (fail)
  refine wpQuiet_nil ?_
  repeat (refine wpXL_quiet rfl rfl _ cls_begin ?_; (first | go_big_quiet_step (fail) | quiet_step (fail)); refine wpQuiet_nil ?_)
  refine wpXL_nil ?_
  go_wp2_with fail
  go_ret
  exact ⟨rfl, belowT G2.out (Lq.trans (Lq.trans (belowD (Below.refl _ _) 1) G3.out) G4.out)⟩
set_option maxRecDepth 100000 in
set_option maxHeartbeats 4000000 in
theorem wireOwn_ff (a b : Blk) (c d : At) (w : World) (hc : okV c.val = false) (hd : okV d.val = false) :
    Calls Try.prog 5 #[.agg (bc a), .agg (bc b), .agg (ac c), .agg (ac d)] w fun e w' => e = .returned (.bool true) ∧ Below w.heap.size w w' := by
  have cC := fun W => putAtt_any c W
  have cD := fun W => putAtt_any d W
  rw [hc] at cC
  rw [hd] at cD
  have hab := putB_beq a b
  have HCC := Lib.hid cC
  have HCD := Lib.hid cD
  clear cC cD hc hd
  have G00 : Below w.heap.size w ((((w.alloc (.cells (bc a) 26)).alloc (.cells (bc b) 26)).alloc (.cells (ac c) 30)).alloc (.cells (ac d) 30)) :=
    ((((Below.refl w.heap.size w).alloc (Nat.le_refl _) _).alloc (by simp) _).alloc (by simp; omega) _).alloc (by simp; omega) _
  have HG00 := Lib.hid G00; clear G00
  go_enter Try.func5, Try.ntmps5
  go_wp2_with fail
  refine (awake_any _).mono ?_
  rintro e w0 ⟨rfl, g0⟩
  have la0 : ldA w0 (.pointer (some ⟨w.heap.size, 0, none⟩)) 66 = some (bc a) := keep g0 (by go_simp)
  have lb0 : ldA w0 (.pointer (some ⟨w.heap.size + 1, 0, none⟩)) 66 = some (bc b) := keep g0 (by go_simp)
  have lc0 : ldA w0 (.pointer (some ⟨w.heap.size + 1 + 1, 0, none⟩)) 100 = some (ac c) := keep g0 (by go_simp)
  have ld0 : ldA w0 (.pointer (some ⟨w.heap.size + 1 + 1 + 1, 0, none⟩)) 100 = some (ac d) := keep g0 (by go_simp)
  have G0 := Lib.hid (belowT HG00.out g0)
  clear g0
  go_wp2_with fail
  refine (HCC.out _).mono ?_
  rintro e w1 ⟨v1, rfl, hs1, g1⟩
  have HS1 := Lib.hid hs1
  have la1 := keep g1 la0
  have lb1 := keep g1 lb0
  have lc1 := keep g1 lc0
  have ld1 := keep g1 ld0
  have G1 := Lib.hid (belowT G0.out g1)
  clear g1 hs1 la0 lb0 lc0 ld0
  go_wp2_with fail
  refine (HCD.out _).mono ?_
  rintro e w2 ⟨v2, rfl, hs2, g2⟩
  have HS1' := Lib.hid (slB_keep g2 HS1.out)
  have HS2 := Lib.hid hs2
  have la2 := keep g2 la1
  have lb2 := keep g2 lb1
  have lc2 := keep g2 lc1
  have ld2 := keep g2 ld1
  have G2 := Lib.hid (belowT G1.out g2)
  clear g2 hs2 la1 lb1 lc1 ld1
  go_wp2_with fail
  have La := fun p : Wd w2.drew => ldA_wd (show ldA w2.drew _ 66 = _ by rw [ldA_drew]; exact la2) (by decide) p
  have Lb := fun p : Wd w2.drew => ldA_wd (show ldA w2.drew _ 66 = _ by rw [ldA_drew]; exact lb2) (by decide) p
  have Lc := fun p : Wd w2.drew => ldA_wd (show ldA w2.drew _ 100 = _ by rw [ldA_drew]; exact lc2) (by decide) p
  have Ld := fun p : Wd w2.drew => ldA_wd (show ldA w2.drew _ 100 = _ by rw [ldA_drew]; exact ld2) (by decide) p
  have S1 := fun p : Wd w2.drew => strB_wd (show SlB w2.drew v1 _ from HS1'.out) p
  have S2 := fun p : Wd w2.drew => strB_wd (show SlB w2.drew v2 _ from HS2.out) p
  clear la2 lb2 lc2 ld2
  refine wp_region_lex [3, 6] (by kernel_rfl) (by kernel_rfl) (by kernel_rfl) ?_
  repeat (refine wpXL_quiet rfl rfl _ cls_begin ?_; (first | go_big_quiet_step (fail) | quiet_step (fail)); refine wpQuiet_nil ?_)
  refine wpXL_call rfl rfl rfl enters_putBlock #[.agg (bc a)] rfl ?_
  refine (putBlock_any a _).mono ?_
  rintro e w3 ⟨v3, rfl, hs3, g3⟩
  refine ⟨_, rfl, g3, ?_⟩
  simp only [Act.put, List.setIfInBounds_toArray, List.set_cons_zero, List.set_cons_succ]
  have S3 := fun p : Wd w3 => strB_wd hs3 p
  have G3 := Lib.hid (show Lq w2.drew w3 from g3)
  clear hs3 g3
  refine wpXL_quiet rfl rfl w3 (cls_at 3 w3 (by simp) (by kernel_rfl)) ?_
  first | go_big_quiet_step (fail) | quiet_step (fail)
  refine wpQuiet_nil ?_
  repeat (refine wpXL_quiet rfl rfl _ cls_begin ?_; (first | go_big_quiet_step (fail) | quiet_step (fail)); refine wpQuiet_nil ?_)
  refine wpXL_call rfl rfl rfl enters_putBlock #[.agg (bc b)] rfl ?_
  refine (putBlock_any b _).mono ?_
  rintro e w4 ⟨v4, rfl, hs4, g4⟩
  refine ⟨_, rfl, g4, ?_⟩
  simp only [Act.put, List.setIfInBounds_toArray, List.set_cons_zero, List.set_cons_succ]
  have S4 := fun p : Wd w4 => strB_wd hs4 p
  have G4 := Lib.hid (show Lq w3 w4 from g4)
  clear hs4 g4
  refine wpXL_quiet rfl rfl w4 (cls_at 6 w4 (by simp) (by kernel_rfl)) ?_
  first | go_big_quiet_step (fail) | quiet_step (fail)
  refine wpQuiet_nil ?_
  repeat (refine wpXL_quiet rfl rfl _ cls_begin ?_; (first | go_big_quiet_step (fail) | quiet_step (fail)); refine wpQuiet_nil ?_)
  refine wpXL_nil ?_
  go_wp2_with fail
  go_ret
  exact ⟨rfl, belowT G2.out (Lq.trans (Lq.trans (belowD (Below.refl _ _) 1) G3.out) G4.out)⟩
theorem wireOwn_walk (a b : Blk) (c d : At) (w : World) :
    Calls Try.prog 5 #[.agg (bc a), .agg (bc b), .agg (ac c), .agg (ac d)] w fun e w' => e = .returned (.bool true) ∧ Below w.heap.size w w' := by
  cases hc : okV c.val <;> cases hd : okV d.val
  · exact wireOwn_ff a b c d w hc hd
  · exact wireOwn_ft a b c d w hc hd
  · exact wireOwn_tf a b c d w hc hd
  · exact wireOwn_tt a b c d w hc hd
end Go.Proofs.Ytjdpndclgmdahaa
