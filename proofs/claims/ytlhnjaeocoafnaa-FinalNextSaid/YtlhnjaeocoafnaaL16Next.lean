/-
  The law FinalNext, walked. (written by wip/gen/law16.py)
-/
import Derived.Test.YtlhnjaeocoafnaaQ28
import Derived.Deep.Cut
import Derived.Deep.CutRange
import Derived.Deep.RegionLaw
import Derived.Test.YtlhnjaeocoafnaaL16Safe
import Derived.Test.YtlhnjaeocoafnaaQ29
namespace Go.Proofs.Ytlhnjaeocoafnaa
open Go.RowKit
set_option maxRecDepth 100000

set_option maxRecDepth 100000 in
set_option maxHeartbeats 16000000 in
theorem finalNext_n (H : FinalC) (HP : Beside16) (s : SlV) (l : List Nd) (pls : Option Addr) (nls cls : Nat) (ls : List Lk) (vb : Value) (bal : List UInt64) (pjs : Option Addr) (njs cjs : Nat) (js : List Ck) (fin : Ck) (w : World) (ht : SlE Ene w (sv s) l) (hls : SlE Elk w (.slice pls nls cls) ls) (lls : ls.length = nls) (hb : SlE Enum w vb bal) (lb : bal.length ≤ 1152921504606846976) (hjs : SlE Ecc w (.slice pjs njs cjs) js) (ljs : js.length = njs) :
    Calls Try.prog 5 #[.agg (tr ⟨s⟩), .slice pls nls cls, vb, .slice pjs njs cjs, .agg (cc fin)] w fun e w' => e = .returned (.bool true) ∧ Below w.heap.size w w' := by
  obtain ⟨W0, hW0⟩ : ∃ W0, W0 = ((w.alloc (.cells (tr ⟨s⟩) 24)).alloc (.cells (cc fin) 32)) := ⟨_, rfl⟩
  obtain ⟨hB, b0, b1, _⟩ := heap2 w _ _ _ _ W0 hW0
  have Mt : Hid (W0.heap[w.heap.size]? = some (.cells (tr ⟨s⟩) 24 (0, 0))) := b0
  have Mfin : Hid (W0.heap[w.heap.size + 1]? = some (.cells (cc fin) 32 (0, 0))) := b1
  have A0 : Hid (Below w.heap.size w W0) := hB
  have HW := Lib.hid hW0
  have Kt := Lib.hid (slE_keep hB ht)
  have Kls := Lib.hid (slE_keep hB hls)
  have Lls := Lib.hid lls
  have Kb := Lib.hid (slE_keep hB hb)
  have Lb := Lib.hid lb
  have Kjs := Lib.hid (slE_keep hB hjs)
  have Ljs := Lib.hid ljs
  have HAw := Lib.hid (fun W => awake_any16 H W)
  have HH := Lib.hid H
  clear H hW0 hB b0 b1 ht hls lls hb lb hjs ljs
  go_enter Try.func5, Try.ntmps5
  go_upto_region 1 with fail
  rw [← HW.out]
  go_wp2_with fail
  refine (HAw.out _).mono ?_
  rintro e w1 ⟨rfl, g⟩
  replace Mt := Lib.hid (blk_keep g Mt.out)
  replace Mfin := Lib.hid (blk_keep g Mfin.out)
  replace A0 := Lib.hid (belowT A0.out g)
  replace Kt := Lib.hid (slE_keep g Kt.out)
  replace Kls := Lib.hid (slE_keep g Kls.out)
  replace Kb := Lib.hid (slE_keep g Kb.out)
  replace Kjs := Lib.hid (slE_keep g Kjs.out)
  clear g
  have zt := (tr_cells Mt.out).2.1
  go_wp2_with fail
  refine (few16 s pls pjs nls cls njs cjs l ls js _ Kt.out Lls.out Ljs.out).mono ?_
  rintro e w2 ⟨rfl, g⟩
  replace Mt := Lib.hid (blk_keep g Mt.out)
  replace Mfin := Lib.hid (blk_keep g Mfin.out)
  replace A0 := Lib.hid (belowT A0.out g)
  replace Kt := Lib.hid (slE_keep g Kt.out)
  replace Kls := Lib.hid (slE_keep g Kls.out)
  replace Kb := Lib.hid (slE_keep g Kb.out)
  replace Kjs := Lib.hid (slE_keep g Kjs.out)
  clear g
  obtain ⟨f, hf⟩ : ∃ f, f = (decide (l.length ≤ 20) && (decide (ls.length ≤ 20) && decide (js.length ≤ 20))) := ⟨_, rfl⟩
  rw [← hf]
  have HSm : Hid (f = true → l.length ≤ 20 ∧ ls.length ≤ 20 ∧ js.length ≤ 20) := fun e => by rw [e] at hf; have := hf.symm; rw [Bool.and_eq_true, Bool.and_eq_true, decide_eq_true_iff, decide_eq_true_iff, decide_eq_true_iff] at this; exact this
  clear hf zt
  cases f
  · skip
    go_wp2_with fail
    go_ret
    exact ⟨rfl, A0.out⟩
  obtain ⟨s1, s2, s3⟩ := HSm.out rfl
  have HFi := Lib.hid (fun W h h1 h2 h3 => HH.out.finals s (.slice pls nls cls) vb (.slice pjs njs cjs) l ls bal js W h h1 h2 h3 (by omega) Lb.out (by omega) (by omega))
  have HNe := Lib.hid (fun W h h1 h2 h3 => HH.out.next s (.slice pls nls cls) vb (.slice pjs njs cjs) l ls bal js fin W h h1 h2 h3 (by omega) Lb.out (by omega) (by omega))
  have q2 : (finalsL l ls bal js).length ≤ 1000 := Nat.le_trans finals_len (by omega)
  have HLaw := Lib.hid (law_next (l := l) (ls := ls) (bal := bal) (js := js) (fin := fin))
  generalize nextC l ls bal js fin = N at *
  generalize finalsL l ls bal js = Y at *
  have HCh := Lib.hid (fun (v : Value) W h h3 => HH.out.chain s v l [fin, N] W h h3 (by omega) (by simp))
  have HHas := Lib.hid (fun (v : Value) W h => ref16Has v Y N W h q2)
  have P1 := Lib.hid (HP.find s l fin.root)
  have P2 := Lib.hid (HP.find s l N.root)
  have P3 := Lib.hid (HP.above s l (findT l fin.root) (findT l N.root))
  have HBd : Hid (behindB l N fin = aboveZ l (findT l fin.root) (findT l N.root)) := rfl
  have HCt : Hid (behindB l N fin = true → chainT l [fin, N] = true) := chain_two
  clear q2 s1 s2 s3 HH HP
  obtain ⟨_, zt, _⟩ := tr_cells Mt.out
  have yf := (ck_v Mfin.out).a
  go_wp2_with fail
  refine (HNe.out _ Kt.out Kls.out Kb.out Kjs.out).mono ?_
  rintro e w3 ⟨rfl, g⟩
  replace Mt := Lib.hid (blk_keep g Mt.out)
  replace Mfin := Lib.hid (blk_keep g Mfin.out)
  replace A0 := Lib.hid (belowT A0.out g)
  replace Kt := Lib.hid (slE_keep g Kt.out)
  replace Kls := Lib.hid (slE_keep g Kls.out)
  replace Kb := Lib.hid (slE_keep g Kb.out)
  replace Kjs := Lib.hid (slE_keep g Kjs.out)
  clear g zt yf
  go_upto_region 6 with fail
  obtain ⟨W4, hW4⟩ : ∃ W, W = w3.alloc (.cells (cc N) 32) := ⟨_, rfl⟩
  have g : Below w3.heap.size w3 W4 := by rw [hW4]; exact below1
  have MN : Hid (W4.heap[w3.heap.size]? = some (.cells (cc N) 32 (0, 0))) := by show _ = _; rw [hW4]; exact heap_alloc_last _ _
  rw [← hW4]
  replace Mt := Lib.hid (blk_keep g Mt.out)
  replace Mfin := Lib.hid (blk_keep g Mfin.out)
  replace A0 := Lib.hid (belowT A0.out g)
  replace Kt := Lib.hid (slE_keep g Kt.out)
  replace Kls := Lib.hid (slE_keep g Kls.out)
  replace Kb := Lib.hid (slE_keep g Kb.out)
  replace Kjs := Lib.hid (slE_keep g Kjs.out)
  generalize w3.heap.size = R at *
  clear g hW4
  have yN := (ck_v MN.out).a
  have yf := (ck_v Mfin.out).a
  obtain ⟨E, hE⟩ : ∃ E, E = decide (N = fin) := ⟨_, rfl⟩
  have HE := Lib.hid hE
  replace hE := hE.symm
  cases E
  case true =>
    go_wp2_with fail
    go_ret
    exact ⟨rfl, A0.out⟩
  obtain ⟨hm, hbd, hlt⟩ := HLaw.out.resolve_left (of_decide_eq_false hE)
  have HC1 := HCt.out hbd
  rw [HBd.out] at hbd
  rw [hbd] at P3
  rw [HC1] at HCh
  rw [decide_eq_true hm] at HHas
  have HLt := Lib.hid hlt
  go_upto_region 9 with fail
  obtain ⟨W5, hW5⟩ : ∃ W, W = W4.alloc (.cells (cc fin ++ cc N) 32) := ⟨_, rfl⟩
  have g : Below W4.heap.size W4 W5 := by rw [hW5]; exact below1
  have V2 : Hid (SlE Ecc W5 (.slice (some ⟨W4.heap.size, 0, none⟩) 2 2) [fin, N]) := by show SlE _ _ _ _; rw [hW5]; exact cc_lit2 _ _ _ _ rfl
  rw [← hW5]
  replace Mt := Lib.hid (blk_keep g Mt.out)
  replace Mfin := Lib.hid (blk_keep g Mfin.out)
  replace A0 := Lib.hid (belowT A0.out g)
  replace Kt := Lib.hid (slE_keep g Kt.out)
  replace Kls := Lib.hid (slE_keep g Kls.out)
  replace Kb := Lib.hid (slE_keep g Kb.out)
  replace Kjs := Lib.hid (slE_keep g Kjs.out)
  replace MN := Lib.hid (blk_keep g MN.out)
  generalize W4.heap.size = R2 at *
  clear hW5 g hm hbd hlt HC1 HLaw HBd HCt HE hE yN yf
  obtain ⟨_, zt, _⟩ := tr_cells Mt.out
  go_wp2_with fail
  refine (HFi.out _ Kt.out Kls.out Kb.out Kjs.out).mono ?_
  rintro e wf ⟨vf, rfl, hf, g⟩
  replace Mt := Lib.hid (blk_keep g Mt.out)
  replace Mfin := Lib.hid (blk_keep g Mfin.out)
  replace A0 := Lib.hid (belowT A0.out g)
  replace Kt := Lib.hid (slE_keep g Kt.out)
  replace Kls := Lib.hid (slE_keep g Kls.out)
  replace Kb := Lib.hid (slE_keep g Kb.out)
  replace Kjs := Lib.hid (slE_keep g Kjs.out)
  replace MN := Lib.hid (blk_keep g MN.out)
  replace V2 := Lib.hid (slE_keep g V2.out)
  have Vf := Lib.hid hf
  clear g hf zt
  have yN := (ck_v MN.out).a
  go_wp2_with fail
  refine (HHas.out vf _ Vf.out).mono ?_
  rintro e w4 ⟨rfl, g⟩
  replace Mt := Lib.hid (blk_keep g Mt.out)
  replace Mfin := Lib.hid (blk_keep g Mfin.out)
  replace A0 := Lib.hid (belowT A0.out g)
  replace Kt := Lib.hid (slE_keep g Kt.out)
  replace Kls := Lib.hid (slE_keep g Kls.out)
  replace Kb := Lib.hid (slE_keep g Kb.out)
  replace Kjs := Lib.hid (slE_keep g Kjs.out)
  replace MN := Lib.hid (blk_keep g MN.out)
  replace V2 := Lib.hid (slE_keep g V2.out)
  clear g yN Vf
  obtain ⟨_, zt, _⟩ := tr_cells Mt.out
  have y1 := cc_rd0_root Mfin.out
  have y2 := cc_rd0_root MN.out
  go_wp2_with fail
  have L0 := fun p : Wd w4.drew => wd_ld zt (by decide) p
  have L1 := fun p : Wd w4.drew => wd_ld y1 (by decide) p
  have L2 := fun p : Wd w4.drew => wd_ld y2 (by decide) p
  clear zt y1 y2
  refine wp_region_lex [4, 8, 9] (by kernel_rfl) (by kernel_rfl) (by kernel_rfl) ?_
  repeat (first | (refine wpXL_quiet rfl rfl _ cls_begin ?_; (first | go_big_quiet_step (fail) | quiet_step (fail)); refine wpQuiet_nil ?_) | refine wpXL_skip rfl ?_)
  generalize hz1 : findT l fin.root = z1 at *
  generalize hz2 : findT l N.root = z2 at *
  refine wpXL_call rfl rfl rfl enters_treeFind16 #[.agg (tr ⟨s⟩), .agg (rc fin.root)] rfl ?_
  refine (P1.out _ (slE_keep (belowD (Below.refl _ _) 1) Kt.out)).mono ?_
  rintro e u ⟨rfl, g⟩
  refine ⟨_, rfl, g, ?_⟩
  simp only [Act.put, List.setIfInBounds_toArray, List.set_cons_zero, List.set_cons_succ]
  have G : Hid (Below w4.heap.size w4 u) := belowT (belowD (Below.refl _ _) 1) g
  clear g
  repeat (first | (refine wpXL_quiet rfl rfl _ cls_begin ?_; (first | go_big_quiet_step (fail) | quiet_step (fail)); refine wpQuiet_nil ?_) | refine wpXL_skip rfl ?_)
  refine wpXL_call rfl rfl rfl enters_treeFind16 #[.agg (tr ⟨s⟩), .agg (rc N.root)] rfl ?_
  refine (P2.out _ (slE_keep G.out Kt.out)).mono ?_
  rintro e u ⟨rfl, g⟩
  refine ⟨_, rfl, g, ?_⟩
  simp only [Act.put, List.setIfInBounds_toArray, List.set_cons_zero, List.set_cons_succ]
  replace G : Hid (Below w4.heap.size w4 u) := belowT G.out g
  clear g
  repeat (first | (refine wpXL_quiet rfl rfl _ cls_begin ?_; (first | go_big_quiet_step (fail) | quiet_step (fail)); refine wpQuiet_nil ?_) | refine wpXL_skip rfl ?_)
  refine wpXL_call rfl rfl rfl enters_treeAbove16 #[.agg (tr ⟨s⟩), .int .i64 z1, .int .i64 z2] rfl ?_
  refine (P3.out _ (slE_keep G.out Kt.out)).mono ?_
  rintro e u ⟨rfl, g⟩
  refine ⟨_, rfl, g, ?_⟩
  simp only [Act.put, List.setIfInBounds_toArray, List.set_cons_zero, List.set_cons_succ]
  replace G : Hid (Below w4.heap.size w4 u) := belowT G.out g
  clear g
  repeat (first | (refine wpXL_quiet rfl rfl _ cls_begin ?_; (first | go_big_quiet_step (fail) | quiet_step (fail)); refine wpQuiet_nil ?_) | refine wpXL_skip rfl ?_)
  refine wpXL_nil ?_
  clear L0 L1 L2
  replace Mt := Lib.hid (blk_keep G.out Mt.out)
  replace Mfin := Lib.hid (blk_keep G.out Mfin.out)
  replace A0 := Lib.hid (belowT A0.out G.out)
  replace Kt := Lib.hid (slE_keep G.out Kt.out)
  replace Kls := Lib.hid (slE_keep G.out Kls.out)
  replace Kb := Lib.hid (slE_keep G.out Kb.out)
  replace Kjs := Lib.hid (slE_keep G.out Kjs.out)
  replace MN := Lib.hid (blk_keep G.out MN.out)
  replace V2 := Lib.hid (slE_keep G.out V2.out)
  clear G
  obtain ⟨w5, rfl⟩ : ∃ W : World, W = u := ⟨_, rfl⟩
  obtain ⟨_, zt, _⟩ := tr_cells Mt.out
  have y1 := (ck_v Mfin.out).e
  have y2 := (ck_v MN.out).e
  have hlt := HLt.out
  clear HLt hz1 hz2
  generalize fin.epoch.toNat = Fe at *
  generalize N.epoch.toNat = Ne at *
  have t1 : decide ((Fe : Int) < (Ne : Int)) = true := decide_eq_true (by omega)
  have t1' : decide (Fe < Ne) = true := decide_eq_true hlt
  clear hlt
  go_wp2_with fail
  refine (HCh.out _ _ Kt.out V2.out).mono ?_
  rintro e w6 ⟨rfl, g⟩
  replace Mt := Lib.hid (blk_keep g Mt.out)
  replace Mfin := Lib.hid (blk_keep g Mfin.out)
  replace A0 := Lib.hid (belowT A0.out g)
  replace Kt := Lib.hid (slE_keep g Kt.out)
  replace Kls := Lib.hid (slE_keep g Kls.out)
  replace Kb := Lib.hid (slE_keep g Kb.out)
  replace Kjs := Lib.hid (slE_keep g Kjs.out)
  replace MN := Lib.hid (blk_keep g MN.out)
  replace V2 := Lib.hid (slE_keep g V2.out)
  clear g
  go_wp2_with fail
  go_ret
  exact ⟨rfl, A0.out⟩
/-- The law. -/
theorem finalNextL (H : FinalC) (HP : Beside16) (s : SlV) (l : List Nd) (vls : Value) (ls : List Lk) (vb : Value) (bal : List UInt64) (vjs : Value) (js : List Ck) (fin : Ck) (w : World) (ht : SlE Ene w (sv s) l) (hls : SlE Elk w vls ls) (hb : SlE Enum w vb bal) (lb : bal.length ≤ 1152921504606846976) (hjs : SlE Ecc w vjs js) :
    Calls Try.prog 5 #[.agg (tr ⟨s⟩), vls, vb, vjs, .agg (cc fin)] w fun e w' => e = .returned (.bool true) ∧ Below w.heap.size w w' := by
  have kls := hls
  obtain ⟨pls, cls, rfl, _⟩ := slE_shape hls
  have kjs := hjs
  obtain ⟨pjs, cjs, rfl, _⟩ := slE_shape hjs
  exact finalNext_n H HP s l pls _ cls ls vb bal pjs _ cjs js fin w ht kls rfl hb lb kjs rfl
end Go.Proofs.Ytlhnjaeocoafnaa
