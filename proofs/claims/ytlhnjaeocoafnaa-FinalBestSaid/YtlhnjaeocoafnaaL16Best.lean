/-
  The law FinalBest, walked. (written by wip/gen/law16.py)
-/
import Derived.Test.YtlhnjaeocoafnaaQ28
import Derived.Deep.Cut
import Derived.Deep.CutRange
import Derived.Deep.RegionLaw
import Derived.Test.YtlhnjaeocoafnaaL16Safe
namespace Go.Proofs.Ytlhnjaeocoafnaa
open Go.RowKit
set_option maxRecDepth 100000

set_option maxRecDepth 100000 in
set_option maxHeartbeats 16000000 in
theorem finalBest_n (H : FinalC) (HP : Beside16) (s : SlV) (l : List Nd) (pjs : Option Addr) (njs cjs : Nat) (js : List Ck) (fin : Ck) (c : Ck) (w : World) (ht : SlE Ene w (sv s) l) (hjs : SlE Ecc w (.slice pjs njs cjs) js) (ljs : js.length = njs) :
    Calls Try.prog 6 #[.agg (tr ⟨s⟩), .slice pjs njs cjs, .agg (cc fin), .agg (cc c)] w fun e w' => e = .returned (.bool true) ∧ Below w.heap.size w w' := by
  obtain ⟨W0, hW0⟩ : ∃ W0, W0 = (((w.alloc (.cells (tr ⟨s⟩) 24)).alloc (.cells (cc fin) 32)).alloc (.cells (cc c) 32)) := ⟨_, rfl⟩
  obtain ⟨hB, b0, b1, b2, _⟩ := heap3 w _ _ _ _ _ _ W0 hW0
  have Mt : Hid (W0.heap[w.heap.size]? = some (.cells (tr ⟨s⟩) 24 (0, 0))) := b0
  have Mfin : Hid (W0.heap[w.heap.size + 1]? = some (.cells (cc fin) 32 (0, 0))) := b1
  have Mc : Hid (W0.heap[w.heap.size + 2]? = some (.cells (cc c) 32 (0, 0))) := b2
  have A0 : Hid (Below w.heap.size w W0) := hB
  have HW := Lib.hid hW0
  have Kt := Lib.hid (slE_keep hB ht)
  have Kjs := Lib.hid (slE_keep hB hjs)
  have Ljs := Lib.hid ljs
  have HAw := Lib.hid (fun W => awake_any16 H W)
  have HH := Lib.hid H
  clear H hW0 hB b0 b1 b2 ht hjs ljs
  go_enter Try.func6, Try.ntmps6
  go_upto_region 1 with fail
  rw [← HW.out]
  go_wp2_with fail
  refine (HAw.out _).mono ?_
  rintro e w1 ⟨rfl, g⟩
  replace Mt := Lib.hid (blk_keep g Mt.out)
  replace Mfin := Lib.hid (blk_keep g Mfin.out)
  replace Mc := Lib.hid (blk_keep g Mc.out)
  replace A0 := Lib.hid (belowT A0.out g)
  replace Kt := Lib.hid (slE_keep g Kt.out)
  replace Kjs := Lib.hid (slE_keep g Kjs.out)
  clear g
  have zt := (tr_cells Mt.out).2.1
  go_wp2_with fail
  refine (few16 s none pjs 0 0 njs cjs l ([] : List Lk) js _ Kt.out rfl Ljs.out).mono ?_
  rintro e w2 ⟨rfl, g⟩
  replace Mt := Lib.hid (blk_keep g Mt.out)
  replace Mfin := Lib.hid (blk_keep g Mfin.out)
  replace Mc := Lib.hid (blk_keep g Mc.out)
  replace A0 := Lib.hid (belowT A0.out g)
  replace Kt := Lib.hid (slE_keep g Kt.out)
  replace Kjs := Lib.hid (slE_keep g Kjs.out)
  clear g
  obtain ⟨f, hf⟩ : ∃ f, f = (decide (l.length ≤ 20) && (decide (([] : List Lk).length ≤ 20) && decide (js.length ≤ 20))) := ⟨_, rfl⟩
  rw [← hf]
  have HSm : Hid (f = true → l.length ≤ 20 ∧ ([] : List Lk).length ≤ 20 ∧ js.length ≤ 20) := fun e => by rw [e] at hf; have := hf.symm; rw [Bool.and_eq_true, Bool.and_eq_true, decide_eq_true_iff, decide_eq_true_iff, decide_eq_true_iff] at this; exact this
  clear hf zt
  cases f
  · skip
    go_wp2_with fail
    go_ret
    exact ⟨rfl, A0.out⟩
  obtain ⟨s1, _, s3⟩ := HSm.out rfl
  have HBe := Lib.hid (fun W h h3 => HH.out.best s (.slice pjs njs cjs) l js fin W h h3 (by omega) (by omega))
  have HLaw := Lib.hid (law_best (l := l) (js := js) (fin := fin))
  generalize bestJ l js fin = B at *
  have HHb := Lib.hid (fun W h => ref16Has (.slice pjs njs cjs) js B W h (by omega))
  have HHc := Lib.hid (fun W h => ref16Has (.slice pjs njs cjs) js c W h (by omega))
  have P1 := Lib.hid (HP.find s l fin.root)
  have P2 := Lib.hid (HP.find s l B.root)
  have P4 := Lib.hid (HP.find s l c.root)
  have P3 := Lib.hid (HP.above s l (findT l fin.root) (findT l B.root))
  have P5 := Lib.hid (HP.above s l (findT l fin.root) (findT l c.root))
  have HB1 : Hid (behindB l B fin = aboveZ l (findT l fin.root) (findT l B.root)) := rfl
  have HB2 : Hid (behindB l c fin = aboveZ l (findT l fin.root) (findT l c.root)) := rfl
  generalize findT l fin.root = z1 at *
  generalize findT l B.root = z2 at *
  generalize findT l c.root = z3 at *
  clear s1 s3 HH HP
  obtain ⟨_, zt, _⟩ := tr_cells Mt.out
  have yf := (ck_v Mfin.out).a
  go_wp2_with fail
  refine (HBe.out _ Kt.out Kjs.out).mono ?_
  rintro e w3 ⟨rfl, g⟩
  replace Mt := Lib.hid (blk_keep g Mt.out)
  replace Mfin := Lib.hid (blk_keep g Mfin.out)
  replace Mc := Lib.hid (blk_keep g Mc.out)
  replace A0 := Lib.hid (belowT A0.out g)
  replace Kt := Lib.hid (slE_keep g Kt.out)
  replace Kjs := Lib.hid (slE_keep g Kjs.out)
  clear g zt yf
  go_upto_region 6 with fail
  obtain ⟨W4, hW4⟩ : ∃ W, W = w3.alloc (.cells (cc B) 32) := ⟨_, rfl⟩
  have g : Below w3.heap.size w3 W4 := by rw [hW4]; exact below1
  have MB : Hid (W4.heap[w3.heap.size]? = some (.cells (cc B) 32 (0, 0))) := by show _ = _; rw [hW4]; exact heap_alloc_last _ _
  rw [← hW4]
  replace Mt := Lib.hid (blk_keep g Mt.out)
  replace Mfin := Lib.hid (blk_keep g Mfin.out)
  replace Mc := Lib.hid (blk_keep g Mc.out)
  replace A0 := Lib.hid (belowT A0.out g)
  replace Kt := Lib.hid (slE_keep g Kt.out)
  replace Kjs := Lib.hid (slE_keep g Kjs.out)
  generalize w3.heap.size = R at *
  clear g hW4
  have yB := (ck_v MB.out).a
  go_wp2_with fail
  refine (HHb.out _ Kjs.out).mono ?_
  rintro e w4 ⟨rfl, g⟩
  replace Mt := Lib.hid (blk_keep g Mt.out)
  replace Mfin := Lib.hid (blk_keep g Mfin.out)
  replace Mc := Lib.hid (blk_keep g Mc.out)
  replace A0 := Lib.hid (belowT A0.out g)
  replace Kt := Lib.hid (slE_keep g Kt.out)
  replace Kjs := Lib.hid (slE_keep g Kjs.out)
  replace MB := Lib.hid (blk_keep g MB.out)
  clear g yB
  obtain ⟨_, zt, _⟩ := tr_cells Mt.out
  have y1 := cc_rd0_root Mfin.out
  have y2 := cc_rd0_root MB.out
  have y3 := (ck_v MB.out).e
  have y4 := (ck_v Mfin.out).e
  have y5 := (ck_v MB.out).a
  have y6 := (ck_v Mfin.out).a
  obtain ⟨E, hE⟩ : ∃ E, E = decide (B = fin) := ⟨_, rfl⟩
  replace hE := hE.symm
  have hE2 : (!decide (B = fin)) = !E := by rw [hE]
  cases E
  case true =>
    have hBf := of_decide_eq_true hE
    rw [hBf] at y5
    go_wp2_with fail
    have L0 := fun p : Wd w4.drew => wd_ld zt (by decide) p
    have L1 := fun p : Wd w4.drew => wd_ld y1 (by decide) p
    have L2 := fun p : Wd w4.drew => wd_ld y2 (by decide) p
    have L3 := fun p : Wd w4.drew => wd_cell y3 p
    have L4 := fun p : Wd w4.drew => wd_cell y4 p
    have L5 := fun p : Wd w4.drew => wd_ld y5 (by decide) p
    have L6 := fun p : Wd w4.drew => wd_ld y6 (by decide) p
    clear zt y1 y2 y3 y4 y5 y6 hE hE2 hBf
    refine wp_region_lex [11, 15, 16] (by kernel_rfl) (by kernel_rfl) (by kernel_rfl) ?_
    repeat (first | (refine wpXL_quiet rfl rfl _ cls_begin ?_; (first | go_big_quiet_step (fail) | quiet_step (fail)); refine wpQuiet_nil ?_) | refine wpXL_skip rfl ?_)
    refine wpXL_nil ?_
    clear L0 L1 L2 L3 L4 L5 L6
    have g : Below w4.heap.size w4 w4.drew := belowD (Below.refl _ _) 1
    replace Mt := Lib.hid (blk_keep g Mt.out)
    replace Mfin := Lib.hid (blk_keep g Mfin.out)
    replace Mc := Lib.hid (blk_keep g Mc.out)
    replace A0 := Lib.hid (belowT A0.out g)
    replace Kt := Lib.hid (slE_keep g Kt.out)
    replace Kjs := Lib.hid (slE_keep g Kjs.out)
    replace MB := Lib.hid (blk_keep g MB.out)
    clear g
    generalize w4.drew = w5 at *
    have yc := (ck_v Mc.out).a
    go_wp2_with fail
    refine (HHc.out _ Kjs.out).mono ?_
    rintro e w6 ⟨rfl, g⟩
    replace Mt := Lib.hid (blk_keep g Mt.out)
    replace Mfin := Lib.hid (blk_keep g Mfin.out)
    replace Mc := Lib.hid (blk_keep g Mc.out)
    replace A0 := Lib.hid (belowT A0.out g)
    replace Kt := Lib.hid (slE_keep g Kt.out)
    replace Kjs := Lib.hid (slE_keep g Kjs.out)
    replace MB := Lib.hid (blk_keep g MB.out)
    clear g yc
    obtain ⟨h, hh⟩ : ∃ h, h = decide (c ∈ js) := ⟨_, rfl⟩
    rw [← hh]
    have HHe := Lib.hid hh
    clear hh
    obtain ⟨_, zt, _⟩ := tr_cells Mt.out
    have y1 := cc_rd0_root Mfin.out
    have y2 := cc_rd0_root Mc.out
    have y3 := (ck_v MB.out).e
    have y4 := (ck_v Mc.out).e
    obtain ⟨a, ha⟩ : ∃ a, a = aboveZ l z1 z3 := ⟨_, rfl⟩
    rw [← ha] at P5
    have HLe : Hid (h = true → a = true → c.epoch.toNat ≤ B.epoch.toNat) := fun e1 e2 => HLaw.out.2 c (of_decide_eq_true (HHe.out.symm.trans e1)) (by rw [HB2.out, ← ha]; exact e2)
    clear ha
    generalize B.epoch.toNat = Be at *
    generalize c.epoch.toNat = Ce at *
    go_wp2_with fail
    have L0 := fun p : Wd w6.drew => wd_ld zt (by decide) p
    have L1 := fun p : Wd w6.drew => wd_ld y1 (by decide) p
    have L2 := fun p : Wd w6.drew => wd_ld y2 (by decide) p
    have L3 := fun p : Wd w6.drew => wd_cell y3 p
    have L4 := fun p : Wd w6.drew => wd_cell y4 p
    clear zt y1 y2 y3 y4
    refine wp_region_lex [7, 11, 12] (by kernel_rfl) (by kernel_rfl) (by kernel_rfl) ?_
    repeat (first | (refine wpXL_quiet rfl rfl _ cls_begin ?_; (first | go_big_quiet_step (fail) | quiet_step (fail)); refine wpQuiet_nil ?_) | refine wpXL_skip rfl ?_)
    cases h
    · repeat (first | (refine wpXL_quiet rfl rfl _ cls_begin ?_; (first | go_big_quiet_step (fail) | quiet_step (fail)); refine wpQuiet_nil ?_) | refine wpXL_skip rfl ?_)
      refine wpXL_nil ?_
      clear L0 L1 L2 L3 L4
      go_wp2_with fail
      go_ret
      exact ⟨rfl, belowD A0.out _⟩
    · repeat (first | (refine wpXL_quiet rfl rfl _ cls_begin ?_; (first | go_big_quiet_step (fail) | quiet_step (fail)); refine wpQuiet_nil ?_) | refine wpXL_skip rfl ?_)
      refine wpXL_call rfl rfl rfl enters_treeFind16 #[.agg (tr ⟨s⟩), .agg (rc fin.root)] rfl ?_
      refine (P1.out _ (slE_keep (belowD (Below.refl _ _) 1) Kt.out)).mono ?_
      rintro e u ⟨rfl, g⟩
      refine ⟨_, rfl, g, ?_⟩
      simp only [Act.put, List.setIfInBounds_toArray, List.set_cons_zero, List.set_cons_succ]
      have G : Hid (Below w6.heap.size w6 u) := belowT (belowD (Below.refl _ _) 1) g
      clear g
      repeat (first | (refine wpXL_quiet rfl rfl _ cls_begin ?_; (first | go_big_quiet_step (fail) | quiet_step (fail)); refine wpQuiet_nil ?_) | refine wpXL_skip rfl ?_)
      refine wpXL_call rfl rfl rfl enters_treeFind16 #[.agg (tr ⟨s⟩), .agg (rc c.root)] rfl ?_
      refine (P4.out _ (slE_keep G.out Kt.out)).mono ?_
      rintro e u ⟨rfl, g⟩
      refine ⟨_, rfl, g, ?_⟩
      simp only [Act.put, List.setIfInBounds_toArray, List.set_cons_zero, List.set_cons_succ]
      replace G : Hid (Below w6.heap.size w6 u) := belowT G.out g
      clear g
      repeat (first | (refine wpXL_quiet rfl rfl _ cls_begin ?_; (first | go_big_quiet_step (fail) | quiet_step (fail)); refine wpQuiet_nil ?_) | refine wpXL_skip rfl ?_)
      have HP5 := Lib.hid (P5.out)
      cases a
      · skip
        refine wpXL_call rfl rfl rfl enters_treeAbove16 #[.agg (tr ⟨s⟩), .int .i64 z1, .int .i64 z3] rfl ?_
        refine (HP5.out _ (slE_keep G.out Kt.out)).mono ?_
        rintro e u ⟨rfl, g⟩
        refine ⟨_, rfl, g, ?_⟩
        simp only [Act.put, List.setIfInBounds_toArray, List.set_cons_zero, List.set_cons_succ]
        replace G : Hid (Below w6.heap.size w6 u) := belowT G.out g
        clear g
        repeat (first | (refine wpXL_quiet rfl rfl _ cls_begin ?_; (first | go_big_quiet_step (fail) | quiet_step (fail)); refine wpQuiet_nil ?_) | refine wpXL_skip rfl ?_)
        refine wpXL_nil ?_
        clear L0 L1 L2 L3 L4
        go_wp2_with fail
        go_ret
        exact ⟨rfl, belowT A0.out G.out⟩
      · skip
        have hle := HLe.out rfl rfl
        have t1 : decide ((Ce : Int) ≤ (Be : Int)) = true := decide_eq_true (by omega)
        have t1' : decide (Ce ≤ Be) = true := decide_eq_true hle
        clear hle
        refine wpXL_call rfl rfl rfl enters_treeAbove16 #[.agg (tr ⟨s⟩), .int .i64 z1, .int .i64 z3] rfl ?_
        refine (HP5.out _ (slE_keep G.out Kt.out)).mono ?_
        rintro e u ⟨rfl, g⟩
        refine ⟨_, rfl, g, ?_⟩
        simp only [Act.put, List.setIfInBounds_toArray, List.set_cons_zero, List.set_cons_succ]
        replace G : Hid (Below w6.heap.size w6 u) := belowT G.out g
        clear g
        repeat (first | (refine wpXL_quiet rfl rfl _ cls_begin ?_; (first | go_big_quiet_step (fail) | quiet_step (fail)); refine wpQuiet_nil ?_) | refine wpXL_skip rfl ?_)
        refine wpXL_nil ?_
        clear L0 L1 L2 L3 L4
        go_wp2_with fail
        go_ret
        exact ⟨rfl, belowT A0.out G.out⟩
  case false =>
    obtain ⟨hm, hbd, hle⟩ := HLaw.out.1.resolve_left (of_decide_eq_false hE)
    rw [HB1.out] at hbd
    rw [hbd] at P3
    rw [decide_eq_true hm]
    have HLt : Hid (decide ((B.epoch.toNat : Int) < (fin.epoch.toNat : Int)) = false ∧ decide (B.epoch.toNat < fin.epoch.toNat) = false) := ⟨decide_eq_false (by omega), decide_eq_false (by omega)⟩
    clear hm hbd hle
    obtain ⟨t1, t1'⟩ := HLt.out
    clear HLt
    go_wp2_with fail
    have L0 := fun p : Wd w4.drew => wd_ld zt (by decide) p
    have L1 := fun p : Wd w4.drew => wd_ld y1 (by decide) p
    have L2 := fun p : Wd w4.drew => wd_ld y2 (by decide) p
    have L3 := fun p : Wd w4.drew => wd_cell y3 p
    have L4 := fun p : Wd w4.drew => wd_cell y4 p
    have L5 := fun p : Wd w4.drew => wd_ld y5 (by decide) p
    have L6 := fun p : Wd w4.drew => wd_ld y6 (by decide) p
    clear zt y1 y2 y3 y4 y5 y6
    refine wp_region_lex [11, 15, 16] (by kernel_rfl) (by kernel_rfl) (by kernel_rfl) ?_
    repeat (first | (refine wpXL_quiet rfl rfl _ cls_begin ?_; (first | go_big_quiet_step (fail) | quiet_step (fail)); refine wpQuiet_nil ?_) | refine wpXL_skip rfl ?_)
    refine wpXL_call rfl rfl rfl enters_treeFind16 #[.agg (tr ⟨s⟩), .agg (rc fin.root)] rfl ?_
    refine (P1.out _ (slE_keep (belowD (Below.refl _ _) 1) Kt.out)).mono ?_
    rintro e u ⟨rfl, g⟩
    refine ⟨_, rfl, g, ?_⟩
    simp only [Act.put, List.setIfInBounds_toArray, List.set_cons_zero, List.set_cons_succ]
    have G : Hid (Below w4.heap.size w4 u) := belowT (belowD (Below.refl _ _) 1) g
    clear g
    repeat (first | (refine wpXL_quiet rfl rfl _ cls_begin ?_; (first | go_big_quiet_step (fail) | quiet_step (fail)); refine wpQuiet_nil ?_) | refine wpXL_skip rfl ?_)
    refine wpXL_call rfl rfl rfl enters_treeFind16 #[.agg (tr ⟨s⟩), .agg (rc B.root)] rfl ?_
    refine (P2.out _ (slE_keep G.out Kt.out)).mono ?_
    rintro e u ⟨rfl, g⟩
    refine ⟨_, rfl, g, ?_⟩
    simp only [Act.put, List.setIfInBounds_toArray, List.set_cons_zero, List.set_cons_succ]
    replace G : Hid (Below w4.heap.size w4 u) := belowT G.out g
    clear g
    repeat (first | (refine wpXL_quiet rfl rfl _ cls_begin ?_; (first | go_big_quiet_step (fail) | quiet_step (fail)); refine wpQuiet_nil ?_) | refine wpXL_skip rfl ?_)
    refine wpXL_call rfl rfl rfl enters_treeAbove16 #[.agg (tr ⟨s⟩), .int .i64 z1, .int .i64 z2] rfl ?_
    refine (P3.out _ (slE_keep G.out Kt.out)).mono ?_
    rintro e u ⟨rfl, g⟩
    refine ⟨_, rfl, g, ?_⟩
    simp only [Act.put, List.setIfInBounds_toArray, List.set_cons_zero, List.set_cons_succ]
    replace G : Hid (Below w4.heap.size w4 u) := belowT G.out g
    clear g
    repeat (first | (refine wpXL_quiet rfl rfl _ cls_begin ?_; (first | go_big_quiet_step (fail) | quiet_step (fail)); refine wpQuiet_nil ?_) | refine wpXL_skip rfl ?_)
    refine wpXL_nil ?_
    clear L0 L1 L2 L3 L4 L5 L6
    replace Mt := Lib.hid (blk_keep G.out Mt.out)
    replace Mfin := Lib.hid (blk_keep G.out Mfin.out)
    replace Mc := Lib.hid (blk_keep G.out Mc.out)
    replace A0 := Lib.hid (belowT A0.out G.out)
    replace Kt := Lib.hid (slE_keep G.out Kt.out)
    replace Kjs := Lib.hid (slE_keep G.out Kjs.out)
    replace MB := Lib.hid (blk_keep G.out MB.out)
    clear G
    obtain ⟨w5, rfl⟩ : ∃ W : World, W = u := ⟨_, rfl⟩
    clear t1 t1' hE hE2
    have yc := (ck_v Mc.out).a
    go_wp2_with fail
    refine (HHc.out _ Kjs.out).mono ?_
    rintro e w6 ⟨rfl, g⟩
    replace Mt := Lib.hid (blk_keep g Mt.out)
    replace Mfin := Lib.hid (blk_keep g Mfin.out)
    replace Mc := Lib.hid (blk_keep g Mc.out)
    replace A0 := Lib.hid (belowT A0.out g)
    replace Kt := Lib.hid (slE_keep g Kt.out)
    replace Kjs := Lib.hid (slE_keep g Kjs.out)
    replace MB := Lib.hid (blk_keep g MB.out)
    clear g yc
    obtain ⟨h, hh⟩ : ∃ h, h = decide (c ∈ js) := ⟨_, rfl⟩
    rw [← hh]
    have HHe := Lib.hid hh
    clear hh
    obtain ⟨_, zt, _⟩ := tr_cells Mt.out
    have y1 := cc_rd0_root Mfin.out
    have y2 := cc_rd0_root Mc.out
    have y3 := (ck_v MB.out).e
    have y4 := (ck_v Mc.out).e
    obtain ⟨a, ha⟩ : ∃ a, a = aboveZ l z1 z3 := ⟨_, rfl⟩
    rw [← ha] at P5
    have HLe : Hid (h = true → a = true → c.epoch.toNat ≤ B.epoch.toNat) := fun e1 e2 => HLaw.out.2 c (of_decide_eq_true (HHe.out.symm.trans e1)) (by rw [HB2.out, ← ha]; exact e2)
    clear ha
    generalize B.epoch.toNat = Be at *
    generalize c.epoch.toNat = Ce at *
    go_wp2_with fail
    have L0 := fun p : Wd w6.drew => wd_ld zt (by decide) p
    have L1 := fun p : Wd w6.drew => wd_ld y1 (by decide) p
    have L2 := fun p : Wd w6.drew => wd_ld y2 (by decide) p
    have L3 := fun p : Wd w6.drew => wd_cell y3 p
    have L4 := fun p : Wd w6.drew => wd_cell y4 p
    clear zt y1 y2 y3 y4
    refine wp_region_lex [7, 11, 12] (by kernel_rfl) (by kernel_rfl) (by kernel_rfl) ?_
    repeat (first | (refine wpXL_quiet rfl rfl _ cls_begin ?_; (first | go_big_quiet_step (fail) | quiet_step (fail)); refine wpQuiet_nil ?_) | refine wpXL_skip rfl ?_)
    cases h
    · repeat (first | (refine wpXL_quiet rfl rfl _ cls_begin ?_; (first | go_big_quiet_step (fail) | quiet_step (fail)); refine wpQuiet_nil ?_) | refine wpXL_skip rfl ?_)
      refine wpXL_nil ?_
      clear L0 L1 L2 L3 L4
      go_wp2_with fail
      go_ret
      exact ⟨rfl, belowD A0.out _⟩
    · repeat (first | (refine wpXL_quiet rfl rfl _ cls_begin ?_; (first | go_big_quiet_step (fail) | quiet_step (fail)); refine wpQuiet_nil ?_) | refine wpXL_skip rfl ?_)
      refine wpXL_call rfl rfl rfl enters_treeFind16 #[.agg (tr ⟨s⟩), .agg (rc fin.root)] rfl ?_
      refine (P1.out _ (slE_keep (belowD (Below.refl _ _) 1) Kt.out)).mono ?_
      rintro e u ⟨rfl, g⟩
      refine ⟨_, rfl, g, ?_⟩
      simp only [Act.put, List.setIfInBounds_toArray, List.set_cons_zero, List.set_cons_succ]
      have G : Hid (Below w6.heap.size w6 u) := belowT (belowD (Below.refl _ _) 1) g
      clear g
      repeat (first | (refine wpXL_quiet rfl rfl _ cls_begin ?_; (first | go_big_quiet_step (fail) | quiet_step (fail)); refine wpQuiet_nil ?_) | refine wpXL_skip rfl ?_)
      refine wpXL_call rfl rfl rfl enters_treeFind16 #[.agg (tr ⟨s⟩), .agg (rc c.root)] rfl ?_
      refine (P4.out _ (slE_keep G.out Kt.out)).mono ?_
      rintro e u ⟨rfl, g⟩
      refine ⟨_, rfl, g, ?_⟩
      simp only [Act.put, List.setIfInBounds_toArray, List.set_cons_zero, List.set_cons_succ]
      replace G : Hid (Below w6.heap.size w6 u) := belowT G.out g
      clear g
      repeat (first | (refine wpXL_quiet rfl rfl _ cls_begin ?_; (first | go_big_quiet_step (fail) | quiet_step (fail)); refine wpQuiet_nil ?_) | refine wpXL_skip rfl ?_)
      have HP5 := Lib.hid (P5.out)
      cases a
      · skip
        refine wpXL_call rfl rfl rfl enters_treeAbove16 #[.agg (tr ⟨s⟩), .int .i64 z1, .int .i64 z3] rfl ?_
        refine (HP5.out _ (slE_keep G.out Kt.out)).mono ?_
        rintro e u ⟨rfl, g⟩
        refine ⟨_, rfl, g, ?_⟩
        simp only [Act.put, List.setIfInBounds_toArray, List.set_cons_zero, List.set_cons_succ]
        replace G : Hid (Below w6.heap.size w6 u) := belowT G.out g
        clear g
        repeat (first | (refine wpXL_quiet rfl rfl _ cls_begin ?_; (first | go_big_quiet_step (fail) | quiet_step (fail)); refine wpQuiet_nil ?_) | refine wpXL_skip rfl ?_)
        refine wpXL_nil ?_
        clear L0 L1 L2 L3 L4
        go_wp2_with fail
        go_ret
        exact ⟨rfl, belowT A0.out G.out⟩
      · skip
        have hle := HLe.out rfl rfl
        have t1 : decide ((Ce : Int) ≤ (Be : Int)) = true := decide_eq_true (by omega)
        have t1' : decide (Ce ≤ Be) = true := decide_eq_true hle
        clear hle
        refine wpXL_call rfl rfl rfl enters_treeAbove16 #[.agg (tr ⟨s⟩), .int .i64 z1, .int .i64 z3] rfl ?_
        refine (HP5.out _ (slE_keep G.out Kt.out)).mono ?_
        rintro e u ⟨rfl, g⟩
        refine ⟨_, rfl, g, ?_⟩
        simp only [Act.put, List.setIfInBounds_toArray, List.set_cons_zero, List.set_cons_succ]
        replace G : Hid (Below w6.heap.size w6 u) := belowT G.out g
        clear g
        repeat (first | (refine wpXL_quiet rfl rfl _ cls_begin ?_; (first | go_big_quiet_step (fail) | quiet_step (fail)); refine wpQuiet_nil ?_) | refine wpXL_skip rfl ?_)
        refine wpXL_nil ?_
        clear L0 L1 L2 L3 L4
        go_wp2_with fail
        go_ret
        exact ⟨rfl, belowT A0.out G.out⟩
/-- The law. -/
theorem finalBestL (H : FinalC) (HP : Beside16) (s : SlV) (l : List Nd) (vjs : Value) (js : List Ck) (fin : Ck) (c : Ck) (w : World) (ht : SlE Ene w (sv s) l) (hjs : SlE Ecc w vjs js) :
    Calls Try.prog 6 #[.agg (tr ⟨s⟩), vjs, .agg (cc fin), .agg (cc c)] w fun e w' => e = .returned (.bool true) ∧ Below w.heap.size w w' := by
  have kjs := hjs
  obtain ⟨pjs, cjs, rfl, _⟩ := slE_shape hjs
  exact finalBest_n H HP s l pjs _ cjs js fin c w ht kjs rfl
end Go.Proofs.Ytlhnjaeocoafnaa
