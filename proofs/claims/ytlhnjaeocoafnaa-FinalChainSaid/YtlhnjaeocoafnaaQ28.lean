/-
  The laws' own example of layer 16, walked. (written by wip/gen/ref16.py)
-/
import Derived.Test.YtlhnjaeocoafnaaQ27
import Derived.Test.YtlhnjaeocoafnaaQ18
namespace Go.Proofs.Ytlhnjaeocoafnaa
open Go.RowKit
set_option maxRecDepth 100000

def four : List UInt64 := [1, 1, 1, 1]
theorem nums_lit4 (w : World) (x y z q : Nat) (hx : x < 18446744073709551616) (hy : y < 18446744073709551616) (hz : z < 18446744073709551616) (hq : q < 18446744073709551616) (b : Nat) (hb : b = w.heap.size) :
    SlE Enum (w.alloc (.cells #[.int .u64 (x : Int), .int .u64 (y : Int), .int .u64 (z : Int), .int .u64 (q : Int)] 28)) (.slice (some ⟨b, 0, none⟩) 4 4) [UInt64.ofNat x, UInt64.ofNat y, UInt64.ofNat z, UInt64.ofNat q] :=
  slE_lit w _ 4 _ _ b rfl hb (by simp [cellsE, Enum, num_nat hx, num_nat hy, num_nat hz, num_nat hq])
theorem final_ex : moreL threeL twoL four [ka] = [ka, kb, kc] ∧ finalsL threeL twoL four [ka, kb, kc] = [ka, kb] ∧ nextC threeL twoL four [ka, kb, kc] ka = kb ∧ bestJ threeL [ka, kb, kc] kb = kc ∧ chainT threeL [ka, kb] = true := by decide +kernel
def CutJ (W : World) (v : Value) (wx : World) : Prop := SlE Ecc wx v [ka, kb, kc] ∧ Below W.heap.size W wx
def CutN (W : World) (t : Value) (wx : World) : Prop := ∃ T, t = .pointer (some ⟨T, 0, none⟩) ∧ wx.heap[T]? = some (.cells (cc kb) 32 (0, 0)) ∧ Below W.heap.size W wx
@[local go_sem] theorem put_e1a (x : Ck) : putSeg (cc x) 0 #[.int .u64 1] = cc { x with epoch := 1 } := cc_put_epoch x 1
@[local go_sem] theorem mk_kaa : ({ epoch := zcc.epoch, root := r1 } : Ck) = ka := rfl
@[local go_sem] theorem kc_ea : kc.epoch.toNat = 2 := rfl
@[local go_sem] theorem kb_ea : kb.epoch.toNat = 1 := rfl
set_option maxRecDepth 100000 in
set_option maxHeartbeats 8000000 in
theorem awake_any16 (H : FinalC) (w : World) : Calls Try.prog 9 #[] w fun e w' => e = .returned (.bool true) ∧ Below w.heap.size w w' := by
  obtain ⟨e1, e2, e3, e4, e5⟩ := final_ex
  have HM := Lib.hid (fun (s : SlV) (u vb vj : Value) W h1 h2 h3 h4 => H.more s u vb vj threeL twoL four [ka] W h1 h2 h3 h4 (by decide) (by decide) (by decide))
  have HF := Lib.hid (fun (s : SlV) (u vb vj : Value) W h1 h2 h3 h4 => H.finals s u vb vj threeL twoL four [ka, kb, kc] W h1 h2 h3 h4 (by decide) (by decide) (by decide) (by decide))
  have HN := Lib.hid (fun (s : SlV) (u vb vj : Value) W h1 h2 h3 h4 => H.next s u vb vj threeL twoL four [ka, kb, kc] ka W h1 h2 h3 h4 (by decide) (by decide) (by decide) (by decide))
  have HB := Lib.hid (fun (s : SlV) (v : Value) W h1 h2 => H.best s v threeL [ka, kb, kc] kb W h1 h2 (by decide) (by decide))
  have HC := Lib.hid (fun (s : SlV) (v : Value) W h1 h2 => H.chain s v threeL [ka, kb] W h1 h2 (by decide) (by decide))
  rw [e1] at HM
  rw [e2] at HF
  rw [e3] at HN
  rw [e4] at HB
  rw [e5] at HC
  clear e1 e2 e3 e4 e5 H
  go_enter Try.func9, Try.ntmps9
  go_wp2_with fail
  refine (three _).mono ?_
  rintro e w1 ⟨s, rfl, hs, g1⟩
  go_upto_region 3 with fail
  obtain ⟨W2, hW2⟩ : ∃ W2, W2 = (w1.alloc (.cells (tr ⟨s⟩) 24)).alloc (.cells #[.int .u64 1, .int .u64 1, .int .u64 1, .int .u64 1] 28) := ⟨_, rfl⟩
  have A0 : Hid (Below w.heap.size w W2) := by show Below _ _ _; rw [hW2]; exact belowT (belowT g1 below1) below1
  have S : Hid (SlE Ene W2 (sv s) threeL) := by show SlE _ _ _ _; rw [hW2]; exact slE_keep (belowT below1 below1) hs
  have M : Hid (W2.heap[w1.heap.size]? = some (.cells (tr ⟨s⟩) 24 (0, 0))) := by show _ = _; rw [hW2]; exact blk_keep below1 (heap_alloc_last w1 _)
  have Bl : Hid (SlE Enum W2 (.slice (some ⟨w1.heap.size + 1, 0, none⟩) 4 4) four) := by show SlE _ _ _ _; rw [hW2]; exact nums_lit4 _ 1 1 1 1 (by decide) (by decide) (by decide) (by decide) _ (by simp)
  rw [← hW2]
  replace HM := Lib.hid (HM.out s)
  replace HF := Lib.hid (HF.out s)
  replace HN := Lib.hid (HN.out s)
  replace HB := Lib.hid (HB.out s)
  replace HC := Lib.hid (HC.out s)
  clear hW2 hs g1
  obtain ⟨_, z0, hlt⟩ := tr_cells M.out
  go_cut [3] from 8 to 14 (fun v wx => ∃ W : World, W = wx ∧ CutJ W2 v W)
  case first =>
    have hwB : W2.heap.size ≤ W2.drew.heap.size := Nat.le_refl _
    have Q0 := wdB_ld (B := W2.heap.size) z0 hlt
    clear z0 hlt
    refine wp_region_G W2.heap.size [] [1, 5, 6] (by kernel_rfl) ?_
    refine GX.take2 0 rfl rfl rfl (by kernel_rfl) (by kernel_rfl) (by kernel_rfl) rfl hwB ?_
    (first | go_big_quiet_step (fail) | quiet_step (fail)); refine wpQuiet_nil ?_
    refine GX.take2 2 rfl rfl rfl (by kernel_rfl) (by kernel_rfl) (by kernel_rfl) rfl hwB ?_
    (first | go_big_quiet_step (fail) | quiet_step (fail)); refine wpQuiet_nil ?_
    refine GX.take2 3 rfl rfl rfl (by kernel_rfl) (by kernel_rfl) (by kernel_rfl) rfl hwB ?_
    (first | go_big_quiet_step (fail) | quiet_step (fail)); refine wpQuiet_nil ?_
    refine GX.take2 4 rfl rfl rfl (by kernel_rfl) (by kernel_rfl) (by kernel_rfl) rfl hwB ?_
    (first | go_big_quiet_step (fail) | quiet_step (fail)); refine wpQuiet_nil ?_
    refine GX.branch2 1 5 (by kernel_rfl) ?_ ?_
    · skip
      refine xOp_call rfl rfl rfl rfl enters_two16 #[] rfl ?_
      refine (two16 _).mono ?_
      rintro e u ⟨⟨v, rfl, hv⟩, g⟩
      refine ⟨_, rfl, g, ?_⟩
      simp only [Act.put, List.setIfInBounds_toArray, List.set_cons_zero, List.set_cons_succ]
      have B1 : Below W2.heap.size W2 u := belowT (belowD (Below.refl _ _) 1) g
      refine GX.branch1 5 (by kernel_rfl) ?_
      refine xOp_eff rfl rfl rfl (.slice (some ⟨u.heap.size, 0, none⟩) 1 1) (u.alloc (.cells (cc ka) 32)) (by go_simp) (relE_lq below1) ?_
      simp only [Act.put, List.setIfInBounds_toArray, List.set_cons_zero, List.set_cons_succ]
      have F := cc_lit1 u ka _ rfl
      have V := slE_keep (below1 (o := .cells (cc ka) 32)) hv
      have B2 := belowT B1 (below1 (o := .cells (cc ka) 32))
      clear g hv B1
      refine GX.branch1 6 (by kernel_rfl) ?_
      refine xOp_call rfl rfl rfl rfl enters_finalMore16 #[.agg (tr ⟨s⟩), v, .slice (some ⟨w1.heap.size + 1, 0, none⟩) 4 4, .slice (some ⟨u.heap.size, 0, none⟩) 1 1] rfl ?_
      refine (HM.out _ _ _ _ (slE_keep B2 S.out) V (slE_keep B2 Bl.out) F).mono ?_
      rintro e u2 ⟨vj, rfl, hj, g⟩
      refine ⟨_, rfl, g, ?_⟩
      simp only [Act.put, List.setIfInBounds_toArray, List.set_cons_zero, List.set_cons_succ]
      have HR : Hid (CutJ W2 vj u2) := ⟨hj, belowT B2 g⟩
      clear F V B2 g hj
      refine GX.take2 7 rfl rfl rfl (by kernel_rfl) (by kernel_rfl) (by kernel_rfl) rfl hwB ?_
      (first | go_big_quiet_step (fail) | quiet_step (fail)); refine wpQuiet_nil ?_
      refine GX.nil (by kernel_rfl) ?_
      clear Q0 hwB
      go_wp2_with fail
      go_meet
      exact ⟨_, rfl, HR.out⟩
    · skip
      refine xOp_eff rfl rfl rfl (.slice (some ⟨W2.heap.size, 0, none⟩) 1 1) (W2.drew.alloc (.cells (cc ka) 32)) (by go_simp) (relE_lq below1) ?_
      simp only [Act.put, List.setIfInBounds_toArray, List.set_cons_zero, List.set_cons_succ]
      have F := cc_lit1 W2.drew ka _ rfl
      have B1 : Below W2.heap.size W2 (W2.drew.alloc (.cells (cc ka) 32)) := belowT (belowD (Below.refl _ _) 1) below1
      refine GX.branch1 1 (by kernel_rfl) ?_
      refine xOp_call rfl rfl rfl rfl enters_two16 #[] rfl ?_
      refine (two16 _).mono ?_
      rintro e u ⟨⟨v, rfl, hv⟩, g⟩
      refine ⟨_, rfl, g, ?_⟩
      simp only [Act.put, List.setIfInBounds_toArray, List.set_cons_zero, List.set_cons_succ]
      have B2 := belowT B1 g
      replace F := slE_keep g F
      clear g B1
      refine GX.branch1 6 (by kernel_rfl) ?_
      refine xOp_call rfl rfl rfl rfl enters_finalMore16 #[.agg (tr ⟨s⟩), v, .slice (some ⟨w1.heap.size + 1, 0, none⟩) 4 4, .slice (some ⟨W2.heap.size, 0, none⟩) 1 1] rfl ?_
      refine (HM.out _ _ _ _ (slE_keep B2 S.out) hv (slE_keep B2 Bl.out) F).mono ?_
      rintro e u2 ⟨vj, rfl, hj, g⟩
      refine ⟨_, rfl, g, ?_⟩
      simp only [Act.put, List.setIfInBounds_toArray, List.set_cons_zero, List.set_cons_succ]
      have HR : Hid (CutJ W2 vj u2) := ⟨hj, belowT B2 g⟩
      clear F hv B2 g hj
      refine GX.take2 7 rfl rfl rfl (by kernel_rfl) (by kernel_rfl) (by kernel_rfl) rfl hwB ?_
      (first | go_big_quiet_step (fail) | quiet_step (fail)); refine wpQuiet_nil ?_
      refine GX.nil (by kernel_rfl) ?_
      clear Q0 hwB
      go_wp2_with fail
      go_meet
      exact ⟨_, rfl, HR.out⟩
  case rest =>
    obtain ⟨w3, rfl, hj, hb⟩ := hcut
    obtain ⟨p3, c3, rfl⟩ := slE_len hj (n := 3) rfl
    obtain ⟨b3, o3, rfl, hlt3, x3⟩ := ccs_ptr hj (by decide)
    replace A0 := Lib.hid (belowT A0.out hb)
    replace S := Lib.hid (slE_keep hb S.out)
    replace M := Lib.hid (blk_keep hb M.out)
    replace Bl := Lib.hid (slE_keep hb Bl.out)
    have J := Lib.hid hj
    have X3 := Lib.hid x3
    clear hj hb z0 hlt x3 hlt3 HM
    have z0 := (tr_cells M.out).2.1
    go_wp2_with fail
    have L0 := fun p : Wd w3.drew => wd_ld z0 (by decide) p
    clear z0
    refine wp_region_lex [1, 4] (by kernel_rfl) (by kernel_rfl) (by kernel_rfl) ?_
    repeat (first | (refine wpXL_quiet rfl rfl _ cls_begin ?_; (first | go_big_quiet_step (fail) | quiet_step (fail)); refine wpQuiet_nil ?_) | refine wpXL_skip rfl ?_)
    refine wpXL_call rfl rfl rfl enters_two16 #[] rfl ?_
    refine (two16 _).mono ?_
    rintro e u ⟨⟨v, rfl, hv⟩, g⟩
    refine ⟨_, rfl, g, ?_⟩
    simp only [Act.put, List.setIfInBounds_toArray, List.set_cons_zero, List.set_cons_succ]
    have G : Hid (Below w3.heap.size w3 u) := belowT (belowD (Below.refl _ _) 1) g
    have V := Lib.hid hv
    clear g hv
    repeat (first | (refine wpXL_quiet rfl rfl _ cls_begin ?_; (first | go_big_quiet_step (fail) | quiet_step (fail)); refine wpQuiet_nil ?_) | refine wpXL_skip rfl ?_)
    refine wpXL_call rfl rfl rfl enters_finalFinals16 #[.agg (tr ⟨s⟩), v, .slice (some ⟨w1.heap.size + 1, 0, none⟩) 4 4, .slice (some ⟨b3, o3, none⟩) 3 c3] rfl ?_
    refine (HF.out _ _ _ _ (slE_keep G.out S.out) V.out (slE_keep G.out Bl.out) (slE_keep G.out J.out)).mono ?_
    rintro e w4 ⟨vf, rfl, hf, g⟩
    refine ⟨_, rfl, g, ?_⟩
    simp only [Act.put, List.setIfInBounds_toArray, List.set_cons_zero, List.set_cons_succ]
    replace G : Hid (Below w3.heap.size w3 w4) := belowT G.out g
    have Fv := Lib.hid hf
    clear g hf V
    repeat (first | (refine wpXL_quiet rfl rfl _ cls_begin ?_; (first | go_big_quiet_step (fail) | quiet_step (fail)); refine wpQuiet_nil ?_) | refine wpXL_skip rfl ?_)
    refine wpXL_nil ?_
    clear L0
    replace A0 := Lib.hid (belowT A0.out G.out)
    replace S := Lib.hid (slE_keep G.out S.out)
    replace M := Lib.hid (blk_keep G.out M.out)
    replace Bl := Lib.hid (slE_keep G.out Bl.out)
    replace J := Lib.hid (slE_keep G.out J.out)
    replace X3 := Lib.hid (keepR G.out X3.out)
    clear G HF
    obtain ⟨pf, cf, hvf⟩ := slE_len Fv.out (n := 2) rfl
    subst hvf
    obtain ⟨_, z0, hlt⟩ := tr_cells M.out
    have yj : ldA w4 (.pointer (some ⟨b3, o3, none⟩)) 33 = some (cc ka) := ccs_ld (i := 0) X3.out (by decide)
    have hlt3 : b3 < w4.heap.size := by
      obtain ⟨b, o, e, q, _⟩ := ccs_ptr J.out (by decide)
      injection e with e
      injection e with e1 e2
      rw [e1]; exact q
    go_wp2_with fail
    go_upto_region 7 with fail
    go_cut [5] from 23 to 30 (fun t wx => CutN w4 t wx)
    case first =>
      have hwB : w4.heap.size ≤ w4.drew.heap.size := Nat.le_refl _
      have Q0 := wdB_ld (B := w4.heap.size) z0 hlt
      have Q1 := wdB_ld (B := w4.heap.size) yj hlt3
      clear z0 hlt yj hlt3
      refine wp_region_G w4.heap.size [] [1, 7, 8, 9] (by kernel_rfl) ?_
      refine GX.take2 0 rfl rfl rfl (by kernel_rfl) (by kernel_rfl) (by kernel_rfl) rfl hwB ?_
      (first | go_big_quiet_step (fail) | quiet_step (fail)); refine wpQuiet_nil ?_
      refine GX.take2 2 rfl rfl rfl (by kernel_rfl) (by kernel_rfl) (by kernel_rfl) rfl hwB ?_
      (first | go_big_quiet_step (fail) | quiet_step (fail)); refine wpQuiet_nil ?_
      refine GX.take2 3 rfl rfl rfl (by kernel_rfl) (by kernel_rfl) (by kernel_rfl) rfl hwB ?_
      (first | go_big_quiet_step (fail) | quiet_step (fail)); refine wpQuiet_nil ?_
      refine GX.take2 4 rfl rfl rfl (by kernel_rfl) (by kernel_rfl) (by kernel_rfl) rfl hwB ?_
      (first | go_big_quiet_step (fail) | quiet_step (fail)); refine wpQuiet_nil ?_
      refine GX.take2 5 rfl rfl rfl (by kernel_rfl) (by kernel_rfl) (by kernel_rfl) rfl hwB ?_
      (first | go_big_quiet_step (fail) | quiet_step (fail)); refine wpQuiet_nil ?_
      refine GX.take2 6 rfl rfl rfl (by kernel_rfl) (by kernel_rfl) (by kernel_rfl) rfl hwB ?_
      (first | go_big_quiet_step (fail) | quiet_step (fail)); refine wpQuiet_nil ?_
      refine GX.branch2 1 8 (by kernel_rfl) ?_ ?_
      · skip
        refine xOp_call rfl rfl rfl rfl enters_two16 #[] rfl ?_
        refine (two16 _).mono ?_
        rintro e u ⟨⟨v, rfl, hv⟩, g⟩
        refine ⟨_, rfl, g, ?_⟩
        simp only [Act.put, List.setIfInBounds_toArray, List.set_cons_zero, List.set_cons_succ]
        have B1 : Below w4.heap.size w4 u := belowT (belowD (Below.refl _ _) 1) g
        clear g
        refine GX.branch2 7 8 (by kernel_rfl) ?_ ?_
        · skip
          refine xOp_call rfl rfl rfl rfl enters_finalNext16 #[.agg (tr ⟨s⟩), v, .slice (some ⟨w1.heap.size + 1, 0, none⟩) 4 4, .slice (some ⟨b3, o3, none⟩) 3 c3, .agg (cc ka)] rfl ?_
          refine (HN.out _ _ _ _ (slE_keep B1 S.out) hv (slE_keep B1 Bl.out) (slE_keep B1 J.out)).mono ?_
          rintro e u2 ⟨rfl, g⟩
          refine ⟨_, rfl, g, ?_⟩
          simp only [Act.put, List.setIfInBounds_toArray, List.set_cons_zero, List.set_cons_succ]
          have B2 := belowT B1 g
          clear g
          refine GX.branch1 8 (by kernel_rfl) ?_
          refine xOp_eff rfl rfl rfl (.pointer (some ⟨u2.heap.size, 0, none⟩)) (u2.alloc (.cells (cc zcc) 32)) (by go_simp) (relE_lq below1) ?_
          simp only [Act.put, List.setIfInBounds_toArray, List.set_cons_zero, List.set_cons_succ]
          obtain ⟨u3, hu3⟩ : ∃ W, W = u2.alloc (.cells (cc zcc) 32) := ⟨_, rfl⟩
          have hn : u3.heap[u2.heap.size]? = some (.cells (cc zcc) 32 (0, 0)) := by rw [hu3]; exact heap_alloc_last _ _
          have B3 : Below w4.heap.size w4 u3 := by rw [hu3]; exact belowT B2 below1
          rw [← hu3]
          clear hu3
          have yw := wrA_block hn (cc_size _)
          refine GX.branch1 9 (by kernel_rfl) ?_
          refine xOp_store rfl rfl rfl (stA u3 (.pointer (some ⟨u2.heap.size, 0, none⟩)) (.agg (cc kb))) (by go_simp) (relE_tail (by kernel_rfl) (below_stA (Below.refl _ _) B2.size)) ?_
          simp only [Act.put]
          have HR : Hid (CutN w4 (.pointer (some ⟨u2.heap.size, 0, none⟩)) (stA u3 (.pointer (some ⟨u2.heap.size, 0, none⟩)) (.agg (cc kb)))) := ⟨_, rfl, heap_putC hn, below_stA B3 B2.size⟩
          clear yw
          refine GX.nil (by kernel_rfl) ?_
          clear Q0 Q1 hwB
          go_wp2_with fail
          go_meet
          exact HR.out
        · skip
          refine xOp_eff rfl rfl rfl (.pointer (some ⟨u.heap.size, 0, none⟩)) (u.alloc (.cells (cc zcc) 32)) (by go_simp) (relE_lq below1) ?_
          simp only [Act.put, List.setIfInBounds_toArray, List.set_cons_zero, List.set_cons_succ]
          obtain ⟨u3, hu3⟩ : ∃ W, W = u.alloc (.cells (cc zcc) 32) := ⟨_, rfl⟩
          have hn : u3.heap[u.heap.size]? = some (.cells (cc zcc) 32 (0, 0)) := by rw [hu3]; exact heap_alloc_last _ _
          have B3 : Below w4.heap.size w4 u3 := by rw [hu3]; exact belowT B1 below1
          have hv3 : SlE Elk u3 v twoL := by rw [hu3]; exact slE_keep below1 hv
          replace hv := hv3
          rw [← hu3]
          clear hu3
          refine GX.branch1 7 (by kernel_rfl) ?_
          refine xOp_call rfl rfl rfl rfl enters_finalNext16 #[.agg (tr ⟨s⟩), v, .slice (some ⟨w1.heap.size + 1, 0, none⟩) 4 4, .slice (some ⟨b3, o3, none⟩) 3 c3, .agg (cc ka)] rfl ?_
          refine (HN.out _ _ _ _ (slE_keep B3 S.out) hv (slE_keep B3 Bl.out) (slE_keep B3 J.out)).mono ?_
          rintro e u2 ⟨rfl, g⟩
          refine ⟨_, rfl, g, ?_⟩
          simp only [Act.put, List.setIfInBounds_toArray, List.set_cons_zero, List.set_cons_succ]
          have hn2 := blk_keep g hn
          have B4 := belowT B3 g
          clear g
          have yw := wrA_block hn2 (cc_size _)
          refine GX.branch1 9 (by kernel_rfl) ?_
          refine xOp_store rfl rfl rfl (stA u2 (.pointer (some ⟨u.heap.size, 0, none⟩)) (.agg (cc kb))) (by go_simp) (relE_tail (by kernel_rfl) (below_stA (Below.refl _ _) B1.size)) ?_
          simp only [Act.put]
          have HR : Hid (CutN w4 (.pointer (some ⟨u.heap.size, 0, none⟩)) (stA u2 (.pointer (some ⟨u.heap.size, 0, none⟩)) (.agg (cc kb)))) := ⟨_, rfl, heap_putC hn2, below_stA B4 B1.size⟩
          clear yw
          refine GX.nil (by kernel_rfl) ?_
          clear Q0 Q1 hwB
          go_wp2_with fail
          go_meet
          exact HR.out
      · skip
        refine xOp_eff rfl rfl rfl (.pointer (some ⟨w4.heap.size, 0, none⟩)) (w4.drew.alloc (.cells (cc zcc) 32)) (by go_simp) (relE_lq below1) ?_
        simp only [Act.put, List.setIfInBounds_toArray, List.set_cons_zero, List.set_cons_succ]
        obtain ⟨u3, hu3⟩ : ∃ W, W = w4.drew.alloc (.cells (cc zcc) 32) := ⟨_, rfl⟩
        have hn : u3.heap[w4.heap.size]? = some (.cells (cc zcc) 32 (0, 0)) := by rw [hu3]; exact heap_alloc_last w4.drew _
        have B1 : Below w4.heap.size w4 u3 := by rw [hu3]; exact belowT (belowD (Below.refl _ _) 1) below1
        rw [← hu3]
        clear hu3
        refine GX.branch1 1 (by kernel_rfl) ?_
        refine xOp_call rfl rfl rfl rfl enters_two16 #[] rfl ?_
        refine (two16 _).mono ?_
        rintro e u ⟨⟨v, rfl, hv⟩, g⟩
        refine ⟨_, rfl, g, ?_⟩
        simp only [Act.put, List.setIfInBounds_toArray, List.set_cons_zero, List.set_cons_succ]
        have B2 := belowT B1 g
        have hn1 := blk_keep g hn
        clear g
        refine GX.branch1 7 (by kernel_rfl) ?_
        refine xOp_call rfl rfl rfl rfl enters_finalNext16 #[.agg (tr ⟨s⟩), v, .slice (some ⟨w1.heap.size + 1, 0, none⟩) 4 4, .slice (some ⟨b3, o3, none⟩) 3 c3, .agg (cc ka)] rfl ?_
        refine (HN.out _ _ _ _ (slE_keep B2 S.out) hv (slE_keep B2 Bl.out) (slE_keep B2 J.out)).mono ?_
        rintro e u2 ⟨rfl, g⟩
        refine ⟨_, rfl, g, ?_⟩
        simp only [Act.put, List.setIfInBounds_toArray, List.set_cons_zero, List.set_cons_succ]
        have hn2 := blk_keep g hn1
        have B4 := belowT B2 g
        clear g
        have yw := wrA_block hn2 (cc_size _)
        refine GX.branch1 9 (by kernel_rfl) ?_
        refine xOp_store rfl rfl rfl (stA u2 (.pointer (some ⟨w4.heap.size, 0, none⟩)) (.agg (cc kb))) (by go_simp) (relE_tail (by kernel_rfl) (below_stA (Below.refl _ _) (Nat.le_refl _))) ?_
        simp only [Act.put]
        have HR : Hid (CutN w4 (.pointer (some ⟨w4.heap.size, 0, none⟩)) (stA u2 (.pointer (some ⟨w4.heap.size, 0, none⟩)) (.agg (cc kb)))) := ⟨_, rfl, heap_putC hn2, below_stA B4 (Nat.le_refl _)⟩
        clear yw
        refine GX.nil (by kernel_rfl) ?_
        clear Q0 Q1 hwB
        go_wp2_with fail
        go_meet
        exact HR.out
    case rest =>
      obtain ⟨T, rfl, hT, hb⟩ := hcut
      replace A0 := Lib.hid (belowT A0.out hb)
      replace S := Lib.hid (slE_keep hb S.out)
      replace M := Lib.hid (blk_keep hb M.out)
      replace J := Lib.hid (slE_keep hb J.out)
      replace Fv := Lib.hid (slE_keep hb Fv.out)
      clear z0 hlt yj hlt3 hb HN
      have z0 := (tr_cells M.out).2.1
      have y0 := (ck_v hT).a
      have y1 := (ck_v hT).e
      go_wp2_with fail
      refine (HB.out _ _ S.out J.out).mono ?_
      rintro e w6 ⟨rfl, g⟩
      replace A0 := Lib.hid (belowT A0.out g)
      replace S := Lib.hid (slE_keep g S.out)
      replace M := Lib.hid (blk_keep g M.out)
      replace Fv := Lib.hid (slE_keep g Fv.out)
      clear g z0 y0 y1 hT
      have z0 := (tr_cells M.out).2.1
      have hfd : ∀ w : World, (Instr.field 32 (.agg (cc kc)) 0).run Try.prog w = .ok (.int .u64 2) w := fun _ => by kernel_rfl
      go_wp2_with fail
      refine (HC.out _ _ S.out Fv.out).mono ?_
      rintro e w7 ⟨rfl, g⟩
      replace A0 := Lib.hid (belowT A0.out g)
      clear g z0
      go_wp2_with fail
      go_ret
      exact ⟨rfl, A0.out⟩
end Go.Proofs.Ytlhnjaeocoafnaa
