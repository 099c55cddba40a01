/-
  The law FinalTells, walked. (written by wip/gen/law16.py)
-/
import Derived.Test.YtlhnjaeocoafnaaQ28
import Derived.Deep.Cut
import Derived.Deep.CutRange
import Derived.Deep.RegionLaw
namespace Go.Proofs.Ytlhnjaeocoafnaa
open Go.RowKit
set_option maxRecDepth 100000

theorem moreF_len {cnt : Lk → Bool} {ls : List Lk} : ∀ (f : Nat) (js : List Ck), (moreF cnt ls f js).length ≤ js.length + f
  | 0, js => Nat.le_refl _
  | f + 1, js => by
    cases e : findNew cnt ls js with
    | none => simp only [moreF, e]; omega
    | some k =>
      simp only [moreF, e]
      have := moreF_len (cnt := cnt) (ls := ls) f (js ++ [k.t])
      rw [List.length_append, List.length_singleton] at this
      omega
theorem moreL_max {l : List Nd} {ls : List Lk} {bal : List UInt64} {js : List Ck} : (moreL l ls bal js).length ≤ js.length + ls.length := by
  unfold moreL
  split
  · exact moreF_len _ _
  · omega

set_option maxRecDepth 100000 in
set_option maxHeartbeats 16000000 in
theorem finalTells_n (H : FinalC)  (s : SlV) (l : List Nd) (pls : Option Addr) (nls cls : Nat) (ls : List Lk) (vb : Value) (bal : List UInt64) (pjs : Option Addr) (njs cjs : Nat) (js : List Ck) (fin : Ck) (w : World) (ht : SlE Ene w (sv s) l) (hls : SlE Elk w (.slice pls nls cls) ls) (lls : ls.length = nls) (hb : SlE Enum w vb bal) (lb : bal.length ≤ 1152921504606846976) (hjs : SlE Ecc w (.slice pjs njs cjs) js) (ljs : js.length = njs) :
    Calls Try.prog 3 #[.agg (tr ⟨s⟩), .slice pls nls cls, vb, .slice pjs njs cjs, .agg (cc fin)] w fun e w' => e = .returned (.bool true) ∧ Below w.heap.size w w' := by
  obtain ⟨W0, hW0⟩ : ∃ W0, W0 = ((w.alloc (.cells (tr ⟨s⟩) 24)).alloc (.cells (cc fin) 32)) := ⟨_, rfl⟩
  obtain ⟨hB, b0, b1, _⟩ := heap2 w _ _ _ _ W0 hW0
  have Mt : Hid (W0.heap[w.heap.size]? = some (.cells (tr ⟨s⟩) 24 (0, 0))) := b0
  have Mfin : Hid (W0.heap[w.heap.size + 1]? = some (.cells (cc fin) 32 (0, 0))) := b1
  have A0 : Hid (Below w.heap.size w W0) := hB
  have HW := Lib.hid hW0
  have Kt := Lib.hid (slE_keep hB ht)
  have Kls := Lib.hid (slE_keep hB hls)
  have Lls := Lib.hid lls
  have Kb := Lib.hid (slE_keep hB hb)
  have Lb := Lib.hid lb
  have Kjs := Lib.hid (slE_keep hB hjs)
  have Ljs := Lib.hid ljs
  have HAw := Lib.hid (fun W => awake_any16 H W)
  have HH := Lib.hid H
  clear H hW0 hB b0 b1 ht hls lls hb lb hjs ljs
  go_enter Try.func3, Try.ntmps3
  go_upto_region 1 with fail
  rw [← HW.out]
  go_wp2_with fail
  refine (HAw.out _).mono ?_
  rintro e w1 ⟨rfl, g⟩
  replace Mt := Lib.hid (blk_keep g Mt.out)
  replace Mfin := Lib.hid (blk_keep g Mfin.out)
  replace A0 := Lib.hid (belowT A0.out g)
  replace Kt := Lib.hid (slE_keep g Kt.out)
  replace Kls := Lib.hid (slE_keep g Kls.out)
  replace Kb := Lib.hid (slE_keep g Kb.out)
  replace Kjs := Lib.hid (slE_keep g Kjs.out)
  clear g
  have zt := (tr_cells Mt.out).2.1
  go_wp2_with fail
  refine (few16 s pls pjs nls cls njs cjs l ls js _ Kt.out Lls.out Ljs.out).mono ?_
  rintro e w2 ⟨rfl, g⟩
  replace Mt := Lib.hid (blk_keep g Mt.out)
  replace Mfin := Lib.hid (blk_keep g Mfin.out)
  replace A0 := Lib.hid (belowT A0.out g)
  replace Kt := Lib.hid (slE_keep g Kt.out)
  replace Kls := Lib.hid (slE_keep g Kls.out)
  replace Kb := Lib.hid (slE_keep g Kb.out)
  replace Kjs := Lib.hid (slE_keep g Kjs.out)
  clear g
  obtain ⟨f, hf⟩ : ∃ f, f = (decide (l.length ≤ 20) && (decide (ls.length ≤ 20) && decide (js.length ≤ 20))) := ⟨_, rfl⟩
  rw [← hf]
  have HSm : Hid (f = true → l.length ≤ 20 ∧ ls.length ≤ 20 ∧ js.length ≤ 20) := fun e => by rw [e] at hf; have := hf.symm; rw [Bool.and_eq_true, Bool.and_eq_true, decide_eq_true_iff, decide_eq_true_iff, decide_eq_true_iff] at this; exact this
  clear hf zt
  cases f
  · skip
    go_wp2_with fail
    go_ret
    exact ⟨rfl, A0.out⟩
  · obtain ⟨s1, s2, s3⟩ := HSm.out rfl
    have HMo := Lib.hid (fun W h h1 h2 h3 => HH.out.more s (.slice pls nls cls) vb (.slice pjs njs cjs) l ls bal js W h h1 h2 h3 (by omega) Lb.out (by omega))
    have HFi := Lib.hid (fun W h h1 h2 h3 => HH.out.finals s (.slice pls nls cls) vb (.slice pjs njs cjs) l ls bal js W h h1 h2 h3 (by omega) Lb.out (by omega) (by omega))
    have HNe := Lib.hid (fun W h h1 h2 h3 => HH.out.next s (.slice pls nls cls) vb (.slice pjs njs cjs) l ls bal js fin W h h1 h2 h3 (by omega) Lb.out (by omega) (by omega))
    have HBe := Lib.hid (fun W h h3 => HH.out.best s (.slice pjs njs cjs) l js fin W h h3 (by omega) (by omega))
    have HCh := Lib.hid (fun W h h3 => HH.out.chain s (.slice pjs njs cjs) l js W h h3 (by omega) (by omega))
    have RMo := Lib.hid (fun W h h1 h2 h3 => ref16More s (.slice pls nls cls) vb (.slice pjs njs cjs) l ls bal js W h h1 h2 h3 (by omega) Lb.out (by omega))
    have RFi := Lib.hid (fun W h h1 h2 h3 => ref16Finals s (.slice pls nls cls) vb (.slice pjs njs cjs) l ls bal js W h h1 h2 h3 (by omega) Lb.out (by omega) (by omega))
    have RNe := Lib.hid (fun W h h1 h2 h3 => ref16Next s (.slice pls nls cls) vb (.slice pjs njs cjs) l ls bal js fin W h h1 h2 h3 (by omega) Lb.out (by omega) (by omega))
    have RBe := Lib.hid (fun W h h3 => ref16Best s (.slice pjs njs cjs) l js fin W h h3 (by omega) (by omega))
    have RCh := Lib.hid (fun W h h3 => ref16Chain s (.slice pjs njs cjs) l js W h h3 (by omega) (by omega))
    have q1 : (moreL l ls bal js).length ≤ 1000 := Nat.le_trans moreL_max (by omega)
    have q2 : (finalsL l ls bal js).length ≤ 1000 := Nat.le_trans finals_len (by omega)
    generalize moreL l ls bal js = X at *
    generalize finalsL l ls bal js = Y at *
    generalize nextC l ls bal js fin = N at *
    generalize bestJ l js fin = B at *
    generalize chainT l js = C at *
    have S1 := Lib.hid (fun u v W h h3 => ref16Same u v X X W h h3 q1)
    have S2 := Lib.hid (fun u v W h h3 => ref16Same u v Y Y W h h3 q2)
    rw [decide_eq_true rfl] at S1 S2
    clear q1 q2 s1 s2 s3 HH
    obtain ⟨_, zt, _⟩ := tr_cells Mt.out
    go_wp2_with fail
    have L0 := fun p : Wd w2.drew => wd_ld zt (by decide) p
    clear zt
    refine wp_region_lex [4, 9, 10] (by kernel_rfl) (by kernel_rfl) (by kernel_rfl) ?_
    repeat (first | (refine wpXL_quiet rfl rfl _ cls_begin ?_; (first | go_big_quiet_step (fail) | quiet_step (fail)); refine wpQuiet_nil ?_) | refine wpXL_skip rfl ?_)
    refine wpXL_call rfl rfl rfl enters_finalMore16 #[.agg (tr ⟨s⟩), .slice pls nls cls, vb, .slice pjs njs cjs] rfl ?_
    refine (HMo.out _ (slE_keep (belowD (Below.refl _ _) 1) Kt.out) (slE_keep (belowD (Below.refl _ _) 1) Kls.out) (slE_keep (belowD (Below.refl _ _) 1) Kb.out) (slE_keep (belowD (Below.refl _ _) 1) Kjs.out)).mono ?_
    rintro e u ⟨v1, rfl, h1, g⟩
    refine ⟨_, rfl, g, ?_⟩
    simp only [Act.put, List.setIfInBounds_toArray, List.set_cons_zero, List.set_cons_succ]
    have G : Hid (Below w2.heap.size w2 u) := belowT (belowD (Below.refl _ _) 1) g
    have V1 := Lib.hid h1
    clear h1
    clear g
    repeat (first | (refine wpXL_quiet rfl rfl _ cls_begin ?_; (first | go_big_quiet_step (fail) | quiet_step (fail)); refine wpQuiet_nil ?_) | refine wpXL_skip rfl ?_)
    refine wpXL_call rfl rfl rfl enters_ref16More #[.agg (tr ⟨s⟩), .slice pls nls cls, vb, .slice pjs njs cjs] rfl ?_
    refine (RMo.out _ (slE_keep G.out Kt.out) (slE_keep G.out Kls.out) (slE_keep G.out Kb.out) (slE_keep G.out Kjs.out)).mono ?_
    rintro e u ⟨v2, rfl, h2, g⟩
    refine ⟨_, rfl, g, ?_⟩
    simp only [Act.put, List.setIfInBounds_toArray, List.set_cons_zero, List.set_cons_succ]
    replace G : Hid (Below w2.heap.size w2 u) := belowT G.out g
    have V2 := Lib.hid (ownE_slE h2)
    replace V1 := Lib.hid (slE_keep g V1.out)
    clear h2
    clear g
    repeat (first | (refine wpXL_quiet rfl rfl _ cls_begin ?_; (first | go_big_quiet_step (fail) | quiet_step (fail)); refine wpQuiet_nil ?_) | refine wpXL_skip rfl ?_)
    refine wpXL_call rfl rfl rfl enters_ref16Same #[v1, v2] rfl ?_
    refine (S1.out _ _ _ V1.out V2.out).mono ?_
    rintro e u ⟨rfl, g⟩
    refine ⟨_, rfl, g, ?_⟩
    simp only [Act.put, List.setIfInBounds_toArray, List.set_cons_zero, List.set_cons_succ]
    replace G : Hid (Below w2.heap.size w2 u) := belowT G.out g
    clear V1 V2
    clear g
    repeat (first | (refine wpXL_quiet rfl rfl _ cls_begin ?_; (first | go_big_quiet_step (fail) | quiet_step (fail)); refine wpQuiet_nil ?_) | refine wpXL_skip rfl ?_)
    refine wpXL_nil ?_
    clear L0
    replace Mt := Lib.hid (blk_keep G.out Mt.out)
    replace Mfin := Lib.hid (blk_keep G.out Mfin.out)
    replace A0 := Lib.hid (belowT A0.out G.out)
    replace Kt := Lib.hid (slE_keep G.out Kt.out)
    replace Kls := Lib.hid (slE_keep G.out Kls.out)
    replace Kb := Lib.hid (slE_keep G.out Kb.out)
    replace Kjs := Lib.hid (slE_keep G.out Kjs.out)
    clear G
    obtain ⟨w3, rfl⟩ : ∃ W : World, W = u := ⟨_, rfl⟩
    obtain ⟨_, zt, _⟩ := tr_cells Mt.out
    go_wp2_with fail
    have L0 := fun p : Wd w3.drew => wd_ld zt (by decide) p
    clear zt
    refine wp_region_lex [4, 9, 10] (by kernel_rfl) (by kernel_rfl) (by kernel_rfl) ?_
    repeat (first | (refine wpXL_quiet rfl rfl _ cls_begin ?_; (first | go_big_quiet_step (fail) | quiet_step (fail)); refine wpQuiet_nil ?_) | refine wpXL_skip rfl ?_)
    refine wpXL_call rfl rfl rfl enters_finalFinals16 #[.agg (tr ⟨s⟩), .slice pls nls cls, vb, .slice pjs njs cjs] rfl ?_
    refine (HFi.out _ (slE_keep (belowD (Below.refl _ _) 1) Kt.out) (slE_keep (belowD (Below.refl _ _) 1) Kls.out) (slE_keep (belowD (Below.refl _ _) 1) Kb.out) (slE_keep (belowD (Below.refl _ _) 1) Kjs.out)).mono ?_
    rintro e u ⟨v1, rfl, h1, g⟩
    refine ⟨_, rfl, g, ?_⟩
    simp only [Act.put, List.setIfInBounds_toArray, List.set_cons_zero, List.set_cons_succ]
    have G : Hid (Below w3.heap.size w3 u) := belowT (belowD (Below.refl _ _) 1) g
    have V1 := Lib.hid h1
    clear h1
    clear g
    repeat (first | (refine wpXL_quiet rfl rfl _ cls_begin ?_; (first | go_big_quiet_step (fail) | quiet_step (fail)); refine wpQuiet_nil ?_) | refine wpXL_skip rfl ?_)
    refine wpXL_call rfl rfl rfl enters_ref16Finals #[.agg (tr ⟨s⟩), .slice pls nls cls, vb, .slice pjs njs cjs] rfl ?_
    refine (RFi.out _ (slE_keep G.out Kt.out) (slE_keep G.out Kls.out) (slE_keep G.out Kb.out) (slE_keep G.out Kjs.out)).mono ?_
    rintro e u ⟨v2, rfl, h2, g⟩
    refine ⟨_, rfl, g, ?_⟩
    simp only [Act.put, List.setIfInBounds_toArray, List.set_cons_zero, List.set_cons_succ]
    replace G : Hid (Below w3.heap.size w3 u) := belowT G.out g
    have V2 := Lib.hid (ownE_slE h2)
    replace V1 := Lib.hid (slE_keep g V1.out)
    clear h2
    clear g
    repeat (first | (refine wpXL_quiet rfl rfl _ cls_begin ?_; (first | go_big_quiet_step (fail) | quiet_step (fail)); refine wpQuiet_nil ?_) | refine wpXL_skip rfl ?_)
    refine wpXL_call rfl rfl rfl enters_ref16Same #[v1, v2] rfl ?_
    refine (S2.out _ _ _ V1.out V2.out).mono ?_
    rintro e u ⟨rfl, g⟩
    refine ⟨_, rfl, g, ?_⟩
    simp only [Act.put, List.setIfInBounds_toArray, List.set_cons_zero, List.set_cons_succ]
    replace G : Hid (Below w3.heap.size w3 u) := belowT G.out g
    clear V1 V2
    clear g
    repeat (first | (refine wpXL_quiet rfl rfl _ cls_begin ?_; (first | go_big_quiet_step (fail) | quiet_step (fail)); refine wpQuiet_nil ?_) | refine wpXL_skip rfl ?_)
    refine wpXL_nil ?_
    clear L0
    replace Mt := Lib.hid (blk_keep G.out Mt.out)
    replace Mfin := Lib.hid (blk_keep G.out Mfin.out)
    replace A0 := Lib.hid (belowT A0.out G.out)
    replace Kt := Lib.hid (slE_keep G.out Kt.out)
    replace Kls := Lib.hid (slE_keep G.out Kls.out)
    replace Kb := Lib.hid (slE_keep G.out Kb.out)
    replace Kjs := Lib.hid (slE_keep G.out Kjs.out)
    clear G
    obtain ⟨w4, rfl⟩ : ∃ W : World, W = u := ⟨_, rfl⟩
    obtain ⟨_, zt, _⟩ := tr_cells Mt.out
    go_wp2_with fail
    refine (RCh.out _ Kt.out Kjs.out).mono ?_
    rintro e w5 ⟨rfl, g⟩
    replace Mt := Lib.hid (blk_keep g Mt.out)
    replace Mfin := Lib.hid (blk_keep g Mfin.out)
    replace A0 := Lib.hid (belowT A0.out g)
    replace Kt := Lib.hid (slE_keep g Kt.out)
    replace Kls := Lib.hid (slE_keep g Kls.out)
    replace Kb := Lib.hid (slE_keep g Kb.out)
    replace Kjs := Lib.hid (slE_keep g Kjs.out)
    clear g zt
    obtain ⟨_, zt, _⟩ := tr_cells Mt.out
    have yf := (ck_v Mfin.out).a
    go_wp2_with fail
    have L0 := fun p : Wd w5.drew => wd_ld zt (by decide) p
    have L1 := fun p : Wd w5.drew => wd_ld yf (by decide) p
    clear zt yf
    refine wp_region_lex [10, 16, 19, 23, 27, 30, 33] (by kernel_rfl) (by kernel_rfl) (by kernel_rfl) ?_
    repeat (first | (refine wpXL_quiet rfl rfl _ cls_begin ?_; (first | go_big_quiet_step (fail) | quiet_step (fail)); refine wpQuiet_nil ?_) | refine wpXL_skip rfl ?_)
    refine wpXL_call rfl rfl rfl enters_finalNext16 #[.agg (tr ⟨s⟩), .slice pls nls cls, vb, .slice pjs njs cjs, .agg (cc fin)] rfl ?_
    refine (HNe.out _ (slE_keep (belowD (Below.refl _ _) 1) Kt.out) (slE_keep (belowD (Below.refl _ _) 1) Kls.out) (slE_keep (belowD (Below.refl _ _) 1) Kb.out) (slE_keep (belowD (Below.refl _ _) 1) Kjs.out)).mono ?_
    rintro e u ⟨rfl, g⟩
    refine ⟨_, rfl, g, ?_⟩
    simp only [Act.put, List.setIfInBounds_toArray, List.set_cons_zero, List.set_cons_succ]
    have G : Hid (Below w5.heap.size w5 u) := belowT (belowD (Below.refl _ _) 1) g
    clear g
    repeat (first | (refine wpXL_quiet rfl rfl _ cls_begin ?_; (first | go_big_quiet_step (fail) | quiet_step (fail)); refine wpQuiet_nil ?_) | refine wpXL_skip rfl ?_)
    refine wpXL_call rfl rfl rfl enters_ref16Next #[.agg (tr ⟨s⟩), .slice pls nls cls, vb, .slice pjs njs cjs, .agg (cc fin)] rfl ?_
    refine (RNe.out _ (slE_keep G.out Kt.out) (slE_keep G.out Kls.out) (slE_keep G.out Kb.out) (slE_keep G.out Kjs.out)).mono ?_
    rintro e u ⟨rfl, g⟩
    refine ⟨_, rfl, g, ?_⟩
    simp only [Act.put, List.setIfInBounds_toArray, List.set_cons_zero, List.set_cons_succ]
    replace G : Hid (Below w5.heap.size w5 u) := belowT G.out g
    clear g
    repeat (first | (refine wpXL_quiet rfl rfl _ cls_begin ?_; (first | go_big_quiet_step (fail) | quiet_step (fail)); refine wpQuiet_nil ?_) | refine wpXL_skip rfl ?_)
    refine wpXL_eff rfl rfl (.bool true) _ rfl (Below.refl _ _) ?_
    simp only [Act.put, List.setIfInBounds_toArray, List.set_cons_zero, List.set_cons_succ]
    repeat (first | (refine wpXL_quiet rfl rfl _ cls_begin ?_; (first | go_big_quiet_step (fail) | quiet_step (fail)); refine wpQuiet_nil ?_) | refine wpXL_skip rfl ?_)
    refine wpXL_call rfl rfl rfl enters_finalBest16 #[.agg (tr ⟨s⟩), .slice pjs njs cjs, .agg (cc fin)] rfl ?_
    refine (HBe.out _ (slE_keep G.out Kt.out) (slE_keep G.out Kjs.out)).mono ?_
    rintro e u ⟨rfl, g⟩
    refine ⟨_, rfl, g, ?_⟩
    simp only [Act.put, List.setIfInBounds_toArray, List.set_cons_zero, List.set_cons_succ]
    replace G : Hid (Below w5.heap.size w5 u) := belowT G.out g
    clear g
    repeat (first | (refine wpXL_quiet rfl rfl _ cls_begin ?_; (first | go_big_quiet_step (fail) | quiet_step (fail)); refine wpQuiet_nil ?_) | refine wpXL_skip rfl ?_)
    refine wpXL_call rfl rfl rfl enters_ref16Best #[.agg (tr ⟨s⟩), .slice pjs njs cjs, .agg (cc fin)] rfl ?_
    refine (RBe.out _ (slE_keep G.out Kt.out) (slE_keep G.out Kjs.out)).mono ?_
    rintro e u ⟨rfl, g⟩
    refine ⟨_, rfl, g, ?_⟩
    simp only [Act.put, List.setIfInBounds_toArray, List.set_cons_zero, List.set_cons_succ]
    replace G : Hid (Below w5.heap.size w5 u) := belowT G.out g
    clear g
    repeat (first | (refine wpXL_quiet rfl rfl _ cls_begin ?_; (first | go_big_quiet_step (fail) | quiet_step (fail)); refine wpQuiet_nil ?_) | refine wpXL_skip rfl ?_)
    refine wpXL_eff rfl rfl (.bool true) _ rfl (Below.refl _ _) ?_
    simp only [Act.put, List.setIfInBounds_toArray, List.set_cons_zero, List.set_cons_succ]
    repeat (first | (refine wpXL_quiet rfl rfl _ cls_begin ?_; (first | go_big_quiet_step (fail) | quiet_step (fail)); refine wpQuiet_nil ?_) | refine wpXL_skip rfl ?_)
    refine wpXL_call rfl rfl rfl enters_finalChain16 #[.agg (tr ⟨s⟩), .slice pjs njs cjs] rfl ?_
    refine (HCh.out _ (slE_keep G.out Kt.out) (slE_keep G.out Kjs.out)).mono ?_
    rintro e u ⟨rfl, g⟩
    refine ⟨_, rfl, g, ?_⟩
    simp only [Act.put, List.setIfInBounds_toArray, List.set_cons_zero, List.set_cons_succ]
    replace G : Hid (Below w5.heap.size w5 u) := belowT G.out g
    clear g
    repeat (first | (refine wpXL_quiet rfl rfl _ cls_begin ?_; (first | go_big_quiet_step (fail) | quiet_step (fail)); refine wpQuiet_nil ?_) | refine wpXL_skip rfl ?_)
    refine wpXL_nil ?_
    clear L0 L1
    replace Mt := Lib.hid (blk_keep G.out Mt.out)
    replace Mfin := Lib.hid (blk_keep G.out Mfin.out)
    replace A0 := Lib.hid (belowT A0.out G.out)
    replace Kt := Lib.hid (slE_keep G.out Kt.out)
    replace Kls := Lib.hid (slE_keep G.out Kls.out)
    replace Kb := Lib.hid (slE_keep G.out Kb.out)
    replace Kjs := Lib.hid (slE_keep G.out Kjs.out)
    clear G
    obtain ⟨w6, rfl⟩ : ∃ W : World, W = u := ⟨_, rfl⟩
    go_wp2_with fail
    go_ret
    exact ⟨rfl, A0.out⟩
/-- The law. -/
theorem finalTellsL (H : FinalC)  (s : SlV) (l : List Nd) (vls : Value) (ls : List Lk) (vb : Value) (bal : List UInt64) (vjs : Value) (js : List Ck) (fin : Ck) (w : World) (ht : SlE Ene w (sv s) l) (hls : SlE Elk w vls ls) (hb : SlE Enum w vb bal) (lb : bal.length ≤ 1152921504606846976) (hjs : SlE Ecc w vjs js) :
    Calls Try.prog 3 #[.agg (tr ⟨s⟩), vls, vb, vjs, .agg (cc fin)] w fun e w' => e = .returned (.bool true) ∧ Below w.heap.size w w' := by
  have kls := hls
  obtain ⟨pls, cls, rfl, _⟩ := slE_shape hls
  have kjs := hjs
  obtain ⟨pjs, cjs, rfl, _⟩ := slE_shape hjs
  exact finalTells_n H  s l pls _ cls ls vb bal pjs _ cjs js fin w ht kls rfl hb lb kjs rfl
end Go.Proofs.Ytlhnjaeocoafnaa
