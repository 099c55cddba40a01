/-
  The law FinalNone, walked. (written by wip/gen/law16.py)
-/
import Derived.Test.YtlhnjaeocoafnaaQ28
import Derived.Deep.Cut
import Derived.Deep.CutRange
import Derived.Deep.RegionLaw
namespace Go.Proofs.Ytlhnjaeocoafnaa
open Go.RowKit
set_option maxRecDepth 100000

set_option maxRecDepth 100000 in
set_option maxHeartbeats 16000000 in
theorem finalNone_n (H : FinalC)  (s : SlV) (l : List Nd) (vb : Value) (bal : List UInt64) (pjs : Option Addr) (njs cjs : Nat) (js : List Ck) (fin : Ck) (w : World) (ht : SlE Ene w (sv s) l) (hb : SlE Enum w vb bal) (lb : bal.length ≤ 1152921504606846976) (hjs : SlE Ecc w (.slice pjs njs cjs) js) (ljs : js.length = njs) :
    Calls Try.prog 7 #[.agg (tr ⟨s⟩), vb, .slice pjs njs cjs, .agg (cc fin)] w fun e w' => e = .returned (.bool true) ∧ Below w.heap.size w w' := by
  obtain ⟨W0, hW0⟩ : ∃ W0, W0 = ((w.alloc (.cells (tr ⟨s⟩) 24)).alloc (.cells (cc fin) 32)) := ⟨_, rfl⟩
  obtain ⟨hB, b0, b1, _⟩ := heap2 w _ _ _ _ W0 hW0
  have Mt : Hid (W0.heap[w.heap.size]? = some (.cells (tr ⟨s⟩) 24 (0, 0))) := b0
  have Mfin : Hid (W0.heap[w.heap.size + 1]? = some (.cells (cc fin) 32 (0, 0))) := b1
  have A0 : Hid (Below w.heap.size w W0) := hB
  have HW := Lib.hid hW0
  have Kt := Lib.hid (slE_keep hB ht)
  have Kb := Lib.hid (slE_keep hB hb)
  have Lb := Lib.hid lb
  have Kjs := Lib.hid (slE_keep hB hjs)
  have Ljs := Lib.hid ljs
  have HAw := Lib.hid (fun W => awake_any16 H W)
  have HH := Lib.hid H
  clear H hW0 hB b0 b1 ht hb lb hjs ljs
  go_enter Try.func7, Try.ntmps7
  go_upto_region 1 with fail
  rw [← HW.out]
  go_wp2_with fail
  refine (HAw.out _).mono ?_
  rintro e w1 ⟨rfl, g⟩
  replace Mt := Lib.hid (blk_keep g Mt.out)
  replace Mfin := Lib.hid (blk_keep g Mfin.out)
  replace A0 := Lib.hid (belowT A0.out g)
  replace Kt := Lib.hid (slE_keep g Kt.out)
  replace Kb := Lib.hid (slE_keep g Kb.out)
  replace Kjs := Lib.hid (slE_keep g Kjs.out)
  clear g
  have zt := (tr_cells Mt.out).2.1
  go_wp2_with fail
  refine (few16 s none pjs 0 0 njs cjs l ([] : List Lk) js _ Kt.out rfl Ljs.out).mono ?_
  rintro e w2 ⟨rfl, g⟩
  replace Mt := Lib.hid (blk_keep g Mt.out)
  replace Mfin := Lib.hid (blk_keep g Mfin.out)
  replace A0 := Lib.hid (belowT A0.out g)
  replace Kt := Lib.hid (slE_keep g Kt.out)
  replace Kb := Lib.hid (slE_keep g Kb.out)
  replace Kjs := Lib.hid (slE_keep g Kjs.out)
  clear g
  obtain ⟨f, hf⟩ : ∃ f, f = (decide (l.length ≤ 20) && (decide (([] : List Lk).length ≤ 20) && decide (js.length ≤ 20))) := ⟨_, rfl⟩
  rw [← hf]
  have HSm : Hid (f = true → l.length ≤ 20 ∧ ([] : List Lk).length ≤ 20 ∧ js.length ≤ 20) := fun e => by rw [e] at hf; have := hf.symm; rw [Bool.and_eq_true, Bool.and_eq_true, decide_eq_true_iff, decide_eq_true_iff, decide_eq_true_iff] at this; exact this
  clear hf zt
  cases f
  · skip
    go_wp2_with fail
    go_ret
    exact ⟨rfl, A0.out⟩
  · obtain ⟨s1, _, s2⟩ := HSm.out rfl
    obtain ⟨n1, n2, n3⟩ := law_noneF (l := l) (bal := bal) (js := js) (fin := fin)
    have HMo := Lib.hid (fun W h h1 h2 h3 => HH.out.more s (.slice none 0 0) vb (.slice pjs njs cjs) l [] bal js W h h1 h2 h3 (by omega) Lb.out (by simp; omega))
    have HFi := Lib.hid (fun W h h1 h2 h3 => HH.out.finals s (.slice none 0 0) vb (.slice pjs njs cjs) l [] bal js W h h1 h2 h3 (by omega) Lb.out (by decide) (by omega))
    have HNe := Lib.hid (fun W h h1 h2 h3 => HH.out.next s (.slice none 0 0) vb (.slice pjs njs cjs) l [] bal js fin W h h1 h2 h3 (by omega) Lb.out (by decide) (by omega))
    rw [n1] at HMo
    rw [n2] at HFi
    rw [n3] at HNe
    have HSa := Lib.hid (fun u W h h3 => ref16Same u (.slice pjs njs cjs) js js W h h3 (by omega))
    rw [decide_eq_true rfl] at HSa
    clear n1 n2 n3 s1 s2 HH
    have zt := (tr_cells Mt.out).2.1
    go_wp2_with fail
    refine (HMo.out _ Kt.out (slE_nil _ _ _ _) Kb.out Kjs.out).mono ?_
    rintro e w3 ⟨vm, rfl, hm, g⟩
    replace Mt := Lib.hid (blk_keep g Mt.out)
    replace Mfin := Lib.hid (blk_keep g Mfin.out)
    replace A0 := Lib.hid (belowT A0.out g)
    replace Kt := Lib.hid (slE_keep g Kt.out)
    replace Kb := Lib.hid (slE_keep g Kb.out)
    replace Kjs := Lib.hid (slE_keep g Kjs.out)
    have Vm := Lib.hid hm
    clear g hm zt
    go_wp2_with fail
    refine (HSa.out vm _ Vm.out Kjs.out).mono ?_
    rintro e w4 ⟨rfl, g⟩
    replace Mt := Lib.hid (blk_keep g Mt.out)
    replace Mfin := Lib.hid (blk_keep g Mfin.out)
    replace A0 := Lib.hid (belowT A0.out g)
    replace Kt := Lib.hid (slE_keep g Kt.out)
    replace Kb := Lib.hid (slE_keep g Kb.out)
    replace Kjs := Lib.hid (slE_keep g Kjs.out)
    clear Vm
    clear g
    obtain ⟨_, zt, _⟩ := tr_cells Mt.out
    have yf := (ck_v Mfin.out).a
    go_wp2_with fail
    have L0 := fun p : Wd w4.drew => wd_ld zt (by decide) p
    have L1 := fun p : Wd w4.drew => wd_ld yf (by decide) p
    clear zt yf
    refine wp_region_lex [5, 9, 14] (by kernel_rfl) (by kernel_rfl) (by kernel_rfl) ?_
    repeat (first | (refine wpXL_quiet rfl rfl _ cls_begin ?_; (first | go_big_quiet_step (fail) | quiet_step (fail)); refine wpQuiet_nil ?_) | refine wpXL_skip rfl ?_)
    refine wpXL_call rfl rfl rfl enters_finalFinals16 #[.agg (tr ⟨s⟩), .slice none 0 0, vb, .slice pjs njs cjs] rfl ?_
    refine (HFi.out _ (slE_keep (belowD (Below.refl _ _) 1) Kt.out) (slE_nil _ _ _ _) (slE_keep (belowD (Below.refl _ _) 1) Kb.out) (slE_keep (belowD (Below.refl _ _) 1) Kjs.out)).mono ?_
    rintro e u ⟨vf, rfl, hf, g⟩
    refine ⟨_, rfl, g, ?_⟩
    simp only [Act.put, List.setIfInBounds_toArray, List.set_cons_zero, List.set_cons_succ]
    have G : Hid (Below w4.heap.size w4 u) := belowT (belowD (Below.refl _ _) 1) g
    obtain ⟨pf, cf, rfl⟩ := slE_len hf (n := 0) rfl
    clear hf
    clear g
    repeat (first | (refine wpXL_quiet rfl rfl _ cls_begin ?_; (first | go_big_quiet_step (fail) | quiet_step (fail)); refine wpQuiet_nil ?_) | refine wpXL_skip rfl ?_)
    refine wpXL_eff rfl rfl (.bool true) _ rfl (Below.refl _ _) ?_
    simp only [Act.put, List.setIfInBounds_toArray, List.set_cons_zero, List.set_cons_succ]
    repeat (first | (refine wpXL_quiet rfl rfl _ cls_begin ?_; (first | go_big_quiet_step (fail) | quiet_step (fail)); refine wpQuiet_nil ?_) | refine wpXL_skip rfl ?_)
    refine wpXL_call rfl rfl rfl enters_finalNext16 #[.agg (tr ⟨s⟩), .slice none 0 0, vb, .slice pjs njs cjs, .agg (cc fin)] rfl ?_
    refine (HNe.out _ (slE_keep G.out Kt.out) (slE_nil _ _ _ _) (slE_keep G.out Kb.out) (slE_keep G.out Kjs.out)).mono ?_
    rintro e u ⟨rfl, g⟩
    refine ⟨_, rfl, g, ?_⟩
    simp only [Act.put, List.setIfInBounds_toArray, List.set_cons_zero, List.set_cons_succ]
    replace G : Hid (Below w4.heap.size w4 u) := belowT G.out g
    clear g
    repeat (first | (refine wpXL_quiet rfl rfl _ cls_begin ?_; (first | go_big_quiet_step (fail) | quiet_step (fail)); refine wpQuiet_nil ?_) | refine wpXL_skip rfl ?_)
    refine wpXL_nil ?_
    clear L0 L1
    replace Mt := Lib.hid (blk_keep G.out Mt.out)
    replace Mfin := Lib.hid (blk_keep G.out Mfin.out)
    replace A0 := Lib.hid (belowT A0.out G.out)
    replace Kt := Lib.hid (slE_keep G.out Kt.out)
    replace Kb := Lib.hid (slE_keep G.out Kb.out)
    replace Kjs := Lib.hid (slE_keep G.out Kjs.out)
    clear G
    obtain ⟨w5, rfl⟩ : ∃ W : World, W = u := ⟨_, rfl⟩
    go_wp2_with fail
    go_ret
    exact ⟨rfl, A0.out⟩
/-- The law. -/
theorem finalNoneL (H : FinalC)  (s : SlV) (l : List Nd) (vb : Value) (bal : List UInt64) (vjs : Value) (js : List Ck) (fin : Ck) (w : World) (ht : SlE Ene w (sv s) l) (hb : SlE Enum w vb bal) (lb : bal.length ≤ 1152921504606846976) (hjs : SlE Ecc w vjs js) :
    Calls Try.prog 7 #[.agg (tr ⟨s⟩), vb, vjs, .agg (cc fin)] w fun e w' => e = .returned (.bool true) ∧ Below w.heap.size w w' := by
  have kjs := hjs
  obtain ⟨pjs, cjs, rfl, _⟩ := slE_shape hjs
  exact finalNone_n H  s l vb bal pjs _ cjs js fin w ht hb lb kjs rfl
end Go.Proofs.Ytlhnjaeocoafnaa
