/-
  The law FinalChain, walked. (written by wip/gen/law16.py)
-/
import Derived.Test.YtlhnjaeocoafnaaQ28
import Derived.Deep.Cut
import Derived.Deep.CutRange
import Derived.Deep.RegionLaw
import Derived.Test.YtlhnjaeocoafnaaL16Safe
import Derived.Test.YtlhnjaeocoafnaaQ29
namespace Go.Proofs.Ytlhnjaeocoafnaa
open Go.RowKit
set_option maxRecDepth 100000

@[go_sem ↓] theorem slice_to_cc (ρ : Operand → Value) (dst : Option Tmp) (x hi : Operand) (ty : TypeId) (pos : String) (after : Array Edge) (guard : Option (Nat × Bool)) (w : World) :
    (execOp ρ { dst, op := .slice 27 x none (some hi) none, type := ty, pos, after, guard }).run Try.prog w = vOutE (cutTE 33 (ρ x) (ρ hi)) w (opRest Try.prog ρ { dst, op := .slice 27 x none (some hi) none, type := ty, pos, after, guard } w) :=
  slice_to_E Try.underlying27 Try.sizeOf32 ρ dst x hi ty pos after guard w
theorem ccs_root {w : World} {b off : Nat} {l : List Ck} {i : Nat} (h : w.rangeAt b off (cellsE Ecc l)) (hi : i < l.length) : ldA w (.pointer (some ⟨b, off + i * 33 + 1, none⟩)) 32 = some (rc (ckAt l i).root) := cc_rd_root (ccs_rg h hi)
def CutM (W : World) (l : List Ck) (v : Value) (wx : World) : Prop := SlE Ecc wx v l ∧ Below W.heap.size W wx
theorem allOr_step (l : List Nd) (cs : List Ck) (c : Ck) (j : Nat) : allOr l cs c (j + 1) = (allOr l cs c j && (aboveZ l (findT l (ckAt cs j).root) (findT l c.root) || aboveZ l (findT l c.root) (findT l (ckAt cs j).root))) := by
  show (allOr l cs c j && orB l (ckAt cs j) c) = _
  unfold orB behindB
  rw [Bool.or_comm (aboveZ l (findT l c.root) _)]

set_option maxRecDepth 100000 in
set_option maxHeartbeats 16000000 in
theorem finalChain_n (H : FinalC) (HP : Beside16) (s : SlV) (l : List Nd) (pcs : Option Addr) (ncs ccs : Nat) (cs : List Ck) (m : Int) (c : Ck) (w : World) (ht : SlE Ene w (sv s) l) (hcs : SlE Ecc w (.slice pcs ncs ccs) cs) (lcs : cs.length = ncs) :
    Calls Try.prog 8 #[.agg (tr ⟨s⟩), .slice pcs ncs ccs, .int .i64 m, .agg (cc c)] w fun e w' => e = .returned (.bool true) ∧ Below w.heap.size w w' := by
  obtain ⟨W0, hW0⟩ : ∃ W0, W0 = ((w.alloc (.cells (tr ⟨s⟩) 24)).alloc (.cells (cc c) 32)) := ⟨_, rfl⟩
  obtain ⟨hB, b0, b1, _⟩ := heap2 w _ _ _ _ W0 hW0
  have Mt : Hid (W0.heap[w.heap.size]? = some (.cells (tr ⟨s⟩) 24 (0, 0))) := b0
  have Mc : Hid (W0.heap[w.heap.size + 1]? = some (.cells (cc c) 32 (0, 0))) := b1
  have A0 : Hid (Below w.heap.size w W0) := hB
  have HW := Lib.hid hW0
  have Kt := Lib.hid (slE_keep hB ht)
  have Kcs := Lib.hid (slE_keep hB hcs)
  have Lcs := Lib.hid lcs
  have HAw := Lib.hid (fun W => awake_any16 H W)
  have HH := Lib.hid H
  clear H hW0 hB b0 b1 ht hcs lcs
  go_enter Try.func8, Try.ntmps8
  go_upto_region 1 with fail
  rw [← HW.out]
  go_wp2_with fail
  refine (HAw.out _).mono ?_
  rintro e w1 ⟨rfl, g⟩
  replace Mt := Lib.hid (blk_keep g Mt.out)
  replace Mc := Lib.hid (blk_keep g Mc.out)
  replace A0 := Lib.hid (belowT A0.out g)
  replace Kt := Lib.hid (slE_keep g Kt.out)
  replace Kcs := Lib.hid (slE_keep g Kcs.out)
  clear g
  have zt := (tr_cells Mt.out).2.1
  go_wp2_with fail
  refine (few16 s none pcs 0 0 ncs ccs l ([] : List Lk) cs _ Kt.out rfl Lcs.out).mono ?_
  rintro e w2 ⟨rfl, g⟩
  replace Mt := Lib.hid (blk_keep g Mt.out)
  replace Mc := Lib.hid (blk_keep g Mc.out)
  replace A0 := Lib.hid (belowT A0.out g)
  replace Kt := Lib.hid (slE_keep g Kt.out)
  replace Kcs := Lib.hid (slE_keep g Kcs.out)
  clear g
  obtain ⟨f, hf⟩ : ∃ f, f = (decide (l.length ≤ 20) && (decide (([] : List Lk).length ≤ 20) && decide (cs.length ≤ 20))) := ⟨_, rfl⟩
  rw [← hf]
  have HSm : Hid (f = true → l.length ≤ 20 ∧ ([] : List Lk).length ≤ 20 ∧ cs.length ≤ 20) := fun e => by rw [e] at hf; have := hf.symm; rw [Bool.and_eq_true, Bool.and_eq_true, decide_eq_true_iff, decide_eq_true_iff, decide_eq_true_iff] at this; exact this
  clear hf zt
  cases f
  · skip
    go_wp2_with fail
    go_ret
    exact ⟨rfl, A0.out⟩
  obtain ⟨s1, _, s3⟩ := HSm.out rfl
  have P1 := Lib.hid (HP.tmay s l)
  have HLaw := Lib.hid (fun hm : decide (MayT l) = true => law_chain (l := l) (of_decide_eq_true hm) (cs := cs) (c := c))
  generalize decide (MayT l) = a1 at *
  obtain ⟨_, zt, _⟩ := tr_cells Mt.out
  go_wp2_with fail
  refine (P1.out _ Kt.out).mono ?_
  rintro e w3 ⟨rfl, g⟩
  replace Mt := Lib.hid (blk_keep g Mt.out)
  replace Mc := Lib.hid (blk_keep g Mc.out)
  replace A0 := Lib.hid (belowT A0.out g)
  replace Kt := Lib.hid (slE_keep g Kt.out)
  replace Kcs := Lib.hid (slE_keep g Kcs.out)
  clear g zt
  cases a1
  · skip
    go_wp2_with fail
    go_ret
    exact ⟨rfl, A0.out⟩
  obtain ⟨d, hd⟩ : ∃ d, d = decide (m < 0) := ⟨_, rfl⟩
  have hd1 := hd.symm
  clear hd
  cases d
  case true =>
    go_wp2_with fail
    go_ret
    exact ⟨rfl, A0.out⟩
  obtain ⟨d, hd⟩ : ∃ d, d = decide ((ncs : Int) < m) := ⟨_, rfl⟩
  have hd2 := hd.symm
  clear hd
  cases d
  case true =>
    go_wp2_with fail
    go_ret
    exact ⟨rfl, A0.out⟩
  obtain ⟨k, rfl⟩ : ∃ k : Nat, m = (k : Int) := ⟨m.toNat, by have := of_decide_eq_false hd1; omega⟩
  have HK : Hid (k ≤ ncs) := by show k ≤ ncs; have := of_decide_eq_false hd2; omega
  obtain ⟨w1a, w1b, w1c⟩ := HLaw.out rfl
  have hd2' : decide (ncs < k) = false := decide_eq_false (by have := HK.out; omega)
  have HCa := Lib.hid (fun W h h3 => HH.out.chain s (.slice pcs ncs ccs) l cs W h h3 (by omega) (by omega))
  have HCb := Lib.hid (fun v W h h3 => HH.out.chain s v l (cs.take k) W h h3 (by omega) (by rw [List.length_take]; omega))
  have HCc := Lib.hid (fun v W h h3 => HH.out.chain s v l (cs ++ [c]) W h h3 (by omega) (by rw [List.length_append, List.length_singleton]; omega))
  have HCd := Lib.hid (fun v W h h3 => HH.out.chain s v l [c] W h h3 (by omega) (by simp))
  rw [w1b] at HCc
  rw [w1c] at HCd
  have HTk := Lib.hid (w1a k)
  have P2 := Lib.hid (HP.find s l c.root)
  have P3 := Lib.hid (fun j => HP.find s l (ckAt cs j).root)
  have P4 := Lib.hid (HP.above s l)
  have HSt := Lib.hid (allOr_step l cs c)
  have HN : Hid (ncs ≤ 20) := by show ncs ≤ 20; have := Lcs.out; omega
  generalize chainT l cs = K at *
  generalize chainT l (cs.take k) = K2 at *
  generalize findT l c.root = z at *
  clear w1a w1b w1c s1 s3 HLaw P1 HH HP HSm
  obtain ⟨_, zt, _⟩ := tr_cells Mt.out
  go_wp2_with fail
  refine (HCa.out _ Kt.out Kcs.out).mono ?_
  rintro e w4 ⟨rfl, g⟩
  replace Mt := Lib.hid (blk_keep g Mt.out)
  replace Mc := Lib.hid (blk_keep g Mc.out)
  replace A0 := Lib.hid (belowT A0.out g)
  replace Kt := Lib.hid (slE_keep g Kt.out)
  replace Kcs := Lib.hid (slE_keep g Kcs.out)
  clear g zt hd1 hd2 hd2' HCa
  obtain ⟨_, zt, _⟩ := tr_cells Mt.out
  have yr := cc_rd0_root Mc.out
  go_wp2_with fail
  refine (P2.out _ Kt.out).mono ?_
  rintro e w5 ⟨rfl, g⟩
  replace Mt := Lib.hid (blk_keep g Mt.out)
  replace Mc := Lib.hid (blk_keep g Mc.out)
  replace A0 := Lib.hid (belowT A0.out g)
  replace Kt := Lib.hid (slE_keep g Kt.out)
  replace Kcs := Lib.hid (slE_keep g Kcs.out)
  clear g zt yr
  go_wp2_with fail
  go_loopw [12, 14] (fun a i wr => ∃ j : Nat, j ≤ ncs ∧ i = .int .i64 (j : Int) ∧ a = .bool (K && allOr l cs c j) ∧ Below w5.heap.size w5 wr) (fun _ i _ => ncs - (intOf i).toNat)
  case atStart => exact ⟨0, Nat.zero_le _, rfl, by cases K <;> rfl, Below.refl _ _⟩
  case round =>
    obtain ⟨j, hj, rfl, rfl, g⟩ := hrel
    replace Mt := Lib.hid (blk_keep g Mt.out)
    replace Mc := Lib.hid (blk_keep g Mc.out)
    replace A0 := Lib.hid (belowT A0.out g)
    replace Kt := Lib.hid (slE_keep g Kt.out)
    replace Kcs := Lib.hid (slE_keep g Kcs.out)
    have HG := Lib.hid g
    clear g
    by_cases hlt : j < ncs
    · have i0 : (0 : Int) ≤ (j : Int) := by omega
      have i1 : (j : Int) < (ncs : Int) := by omega
      have u1 : (j : Int) + 1 < 10000 := by have := HN.out; omega
      have d0 : decide ((j : Int) < (ncs : Int)) = true := decide_eq_true i1
      have d0' : decide (j < ncs) = true := decide_eq_true hlt
      have HLT := Lib.hid hlt
      obtain ⟨b1, o1, rfl, _, x1⟩ := ccs_ptr Kcs.out (by have := Lcs.out; omega)
      have yr := ccs_root x1 (i := j) (by have := Lcs.out; omega)
      have HS1 := Lib.hid (HSt.out j)
      have P5 := Lib.hid (P3.out j)
      generalize (ckAt cs j).root = rj at *
      generalize findT l rj = y at *
      have P6 := Lib.hid (P4.out y z)
      have P7 := Lib.hid (P4.out z y)
      generalize aboveZ l y z = a2 at *
      generalize aboveZ l z y = a3 at *
      obtain ⟨b, hb⟩ : ∃ b, b = (K && allOr l cs c j) := ⟨_, rfl⟩
      have HS2 : Hid ((K && allOr l cs c (j + 1)) = (b && (a2 || a3))) := by show _ = _; rw [HS1.out, hb, Bool.and_assoc]
      rw [← hb]
      clear hb HS1 x1 hlt
      obtain ⟨_, zt, _⟩ := tr_cells Mt.out
      go_wp2_with fail
      have L0 := fun p : Wd wr.drew => wd_ld zt (by decide) p
      have L1 := fun p : Wd wr.drew => wd_ld yr (by decide) p
      clear zt yr
      refine wp_region_lex [6] (by kernel_rfl) (by kernel_rfl) (by kernel_rfl) ?_
      repeat (first | (refine wpXL_quiet rfl rfl _ cls_begin ?_; (first | go_big_quiet_step (fail) | quiet_step (fail)); refine wpQuiet_nil ?_) | refine wpXL_skip rfl ?_)
      refine wpXL_call rfl rfl rfl enters_treeFind16 #[.agg (tr ⟨s⟩), .agg (rc rj)] rfl ?_
      refine (P5.out _ (slE_keep (belowD (Below.refl _ _) 1) Kt.out)).mono ?_
      rintro e u ⟨rfl, g⟩
      refine ⟨_, rfl, g, ?_⟩
      simp only [Act.put, List.setIfInBounds_toArray, List.set_cons_zero, List.set_cons_succ]
      have G : Hid (Below wr.heap.size wr u) := belowT (belowD (Below.refl _ _) 1) g
      clear g
      repeat (first | (refine wpXL_quiet rfl rfl _ cls_begin ?_; (first | go_big_quiet_step (fail) | quiet_step (fail)); refine wpQuiet_nil ?_) | refine wpXL_skip rfl ?_)
      refine wpXL_nil ?_
      clear L0 L1
      replace Kt := Lib.hid (slE_keep G.out Kt.out)
      replace Mt := Lib.hid (blk_keep G.out Mt.out)
      replace HG := Lib.hid (belowT HG.out G.out)
      clear G
      obtain ⟨_, zt, _⟩ := tr_cells Mt.out
      cases b
      · go_wp2_with fail
        go_roundw
        case rel => exact ⟨j + 1, HLT.out, by go_num, by rw [HS2.out]; rfl, HG.out⟩
        case measure => simp [intOf]; have := HLT.out; omega
      · go_wp2_with fail
        refine (P6.out _ Kt.out).mono ?_
        rintro e u6 ⟨rfl, g⟩
        replace Kt := Lib.hid (slE_keep g Kt.out)
        replace Mt := Lib.hid (blk_keep g Mt.out)
        replace HG := Lib.hid (belowT HG.out g)
        clear g zt
        obtain ⟨_, zt, _⟩ := tr_cells Mt.out
        cases a2
        · go_wp2_with fail
          refine (P7.out _ Kt.out).mono ?_
          rintro e u7 ⟨rfl, g⟩
          replace HG := Lib.hid (belowT HG.out g)
          clear g zt
          cases a3 <;> (
            go_wp2_with fail
            go_roundw
            case rel => exact ⟨j + 1, HLT.out, by go_num, by rw [HS2.out]; rfl, HG.out⟩
            case measure => simp [intOf]; have := HLT.out; omega)
        · go_wp2_with fail
          go_roundw
          case rel => exact ⟨j + 1, HLT.out, by go_num, by rw [HS2.out]; rfl, HG.out⟩
          case measure => simp [intOf]; have := HLT.out; omega
    · obtain rfl : j = ncs := by omega
      have d0 : decide ((j : Int) < (j : Int)) = false := decide_eq_false (Int.lt_irrefl _)
      have d0' : decide (j < j) = false := decide_eq_false (Nat.lt_irrefl _)
      have HAll : Hid (allOr l cs c cs.length = allOr l cs c j) := by show _ = _; rw [Lcs.out]
      rw [HAll.out] at HCc
      generalize hb : (K && allOr l cs c j) = b at *
      clear hlt hb HSt P2 P3 P4 HG HAll
      go_wp2_with fail
      clear d0 d0'
      go_cut [16] from 78 to 82 (fun v wx => ∃ (W : World) (u : Value), W = wx ∧ u = v ∧ CutM wr (cs ++ [c]) u W)
      case first =>
        have hwB : wr.heap.size ≤ wr.drew.heap.size := Nat.le_refl _
        have Q0 := wdB_ld (B := wr.heap.size) (ck_v Mc.out).a (ck_v Mc.out).g
        have hlen : cs.length ≤ 40 := by have := Lcs.out; have := HN.out; omega
        refine wp_region_G wr.heap.size [] [1, 3, 4] (by kernel_rfl) ?_
        refine GX.take2 0 rfl rfl rfl (by kernel_rfl) (by kernel_rfl) (by kernel_rfl) rfl hwB ?_
        (first | go_big_quiet_step (fail) | quiet_step (fail)); refine wpQuiet_nil ?_
        refine GX.take2 2 rfl rfl rfl (by kernel_rfl) (by kernel_rfl) (by kernel_rfl) rfl hwB ?_
        (first | go_big_quiet_step (fail) | quiet_step (fail)); refine wpQuiet_nil ?_
        refine GX.branch2 1 3 (by kernel_rfl) ?_ ?_
        · skip
          refine xOp_append KccB rfl rfl rfl (.const (.slice none 0 0)) (.tmp 78) rfl wr.heap.size _ [] rfl (ownE_nil _ _ _) _ cs rfl (slE_keep (belowD (Below.refl _ _) 1) Kcs.out) (by simp [maxLen]; omega) (by simp; omega) (Nat.le_refl _) (fun w' hb => relE_lq hb) ?_
          intro v5 w5 o5 g5
          simp only [Act.put, List.setIfInBounds_toArray, List.set_cons_zero, List.set_cons_succ]
          have D5 : Below wr.heap.size wr w5 := (belowD (Below.refl _ _) 1).trans g5.nil
          refine GX.branch1 3 (by kernel_rfl) ?_
          refine xOp_eff rfl rfl rfl (.slice (some ⟨w5.heap.size, 0, none⟩) 1 1) (w5.alloc (.cells (cc c) 32)) (by go_simp) (relE_lq below1) ?_
          simp only [Act.put, List.setIfInBounds_toArray, List.set_cons_zero, List.set_cons_succ]
          have E6 := ownE_alloc (o := .cells (cc c) 32) o5
          have F6 := cc_lit1 w5 c _ rfl
          have D6 : Below wr.heap.size wr (w5.alloc (.cells (cc c) 32)) := belowT D5 below1
          refine GX.branch1 4 (by kernel_rfl) ?_
          refine xOp_append KccB rfl rfl rfl (.tmp 79) (.tmp 81) rfl wr.heap.size _ cs rfl E6 _ [c] rfl F6 (by simp [maxLen]; omega) (by simp; omega) D6.size (fun w' hb => relE_tail (by kernel_rfl) (hb.mono hwB)) ?_
          intro v7 w7 o7 g7
          simp only [Act.put, List.setIfInBounds_toArray, List.set_cons_zero, List.set_cons_succ]
          have HR : Hid (CutM wr (cs ++ [c]) v7 w7) := ⟨ownE_slE o7, D6.trans (g7.own E6 D6.size)⟩
          refine GX.take2 5 rfl rfl rfl (by kernel_rfl) (by kernel_rfl) (by kernel_rfl) rfl hwB ?_
          (first | go_big_quiet_step (fail) | quiet_step (fail)); refine wpQuiet_nil ?_
          refine GX.nil (by kernel_rfl) ?_
          clear Q0 hwB hlen o7 g7
          go_wp2_with fail
          go_meet
          exact ⟨_, _, rfl, rfl, HR.out⟩
        · skip
          refine xOp_eff rfl rfl rfl (.slice (some ⟨wr.heap.size, 0, none⟩) 1 1) (wr.drew.alloc (.cells (cc c) 32)) (by go_simp) (relE_lq below1) ?_
          simp only [Act.put, List.setIfInBounds_toArray, List.set_cons_zero, List.set_cons_succ]
          have F5 := cc_lit1 wr.drew c _ rfl
          have D4 : Below wr.heap.size wr (wr.drew.alloc (.cells (cc c) 32)) := belowT (belowD (Below.refl _ _) 1) below1
          refine GX.branch1 1 (by kernel_rfl) ?_
          refine xOp_append KccB rfl rfl rfl (.const (.slice none 0 0)) (.tmp 78) rfl (wr.drew.alloc (.cells (cc c) 32)).heap.size _ [] rfl (ownE_nil _ _ _) _ cs rfl (slE_keep D4 Kcs.out) (by simp [maxLen]; omega) (by simp; omega) (Nat.le_refl _) (fun w' hb => relE_lq hb) ?_
          intro v5 w5 o5' g5
          have o5 := ownE_base o5' D4.size
          simp only [Act.put, List.setIfInBounds_toArray, List.set_cons_zero, List.set_cons_succ]
          have F6 := slE_keep g5.nil F5
          have D6 : Below wr.heap.size wr w5 := belowT D4 g5.nil
          refine GX.branch1 4 (by kernel_rfl) ?_
          refine xOp_append KccB rfl rfl rfl (.tmp 79) (.tmp 81) rfl wr.heap.size _ cs rfl o5 _ [c] rfl F6 (by simp [maxLen]; omega) (by simp; omega) D6.size (fun w' hb => relE_tail (by kernel_rfl) (hb.mono hwB)) ?_
          intro v7 w7 o7 g7
          simp only [Act.put, List.setIfInBounds_toArray, List.set_cons_zero, List.set_cons_succ]
          have HR : Hid (CutM wr (cs ++ [c]) v7 w7) := ⟨ownE_slE o7, D6.trans (g7.own o5 D6.size)⟩
          refine GX.take2 5 rfl rfl rfl (by kernel_rfl) (by kernel_rfl) (by kernel_rfl) rfl hwB ?_
          (first | go_big_quiet_step (fail) | quiet_step (fail)); refine wpQuiet_nil ?_
          refine GX.nil (by kernel_rfl) ?_
          clear Q0 hwB hlen o7 g7
          go_wp2_with fail
          go_meet
          exact ⟨_, _, rfl, rfl, HR.out⟩
      case rest =>
        obtain ⟨wn, v, rfl, rfl, hv, g⟩ := hcut
        replace Mt := Lib.hid (blk_keep g Mt.out)
        replace Mc := Lib.hid (blk_keep g Mc.out)
        replace A0 := Lib.hid (belowT A0.out g)
        replace Kt := Lib.hid (slE_keep g Kt.out)
        replace Kcs := Lib.hid (slE_keep g Kcs.out)
        have V := Lib.hid hv
        clear hv g
        have yc := (ck_v Mc.out).a
        go_upto_region 15 with fail
        obtain ⟨W5, hW5⟩ : ∃ W, W = wn.alloc (.cells (cc c) 32) := ⟨_, rfl⟩
        have g : Below wn.heap.size wn W5 := by rw [hW5]; exact below1
        have V1 : Hid (SlE Ecc W5 (.slice (some ⟨wn.heap.size, 0, none⟩) 1 1) [c]) := by show SlE _ _ _ _; rw [hW5]; exact cc_lit1 _ _ _ rfl
        rw [← hW5]
        replace Mt := Lib.hid (blk_keep g Mt.out)
        replace Mc := Lib.hid (blk_keep g Mc.out)
        replace A0 := Lib.hid (belowT A0.out g)
        replace Kt := Lib.hid (slE_keep g Kt.out)
        replace Kcs := Lib.hid (slE_keep g Kcs.out)
        replace V := Lib.hid (slE_keep g V.out)
        generalize wn.heap.size = R at *
        clear g hW5 yc
        obtain ⟨vr, hc1, hc2⟩ := cut_toE (E := Ecc) pcs ccs cs k (by rw [Lcs.out]; exact HK.out) (by obtain ⟨_, _, e, hh⟩ := slE_shape Kcs.out; injection e with _ _ e3; omega)
        rw [Lcs.out] at hc1 hc2
        have V3 := Lib.hid (hc2 _ Kcs.out)
        have hc1' : cutTE 33 (.slice pcs j ccs) (.int .i64 (k : Int)) = some vr := hc1
        clear hc1 hc2
        obtain ⟨_, zt, _⟩ := tr_cells Mt.out
        cases K
        case false =>
          go_wp2_with fail
          have L0 := fun p : Wd W5.drew => wd_ld zt (by decide) p
          clear zt
          refine wp_region_lex [7, 9, 12, 16, 19] (by kernel_rfl) (by kernel_rfl) (by kernel_rfl) ?_
          repeat (first | (refine wpXL_quiet rfl rfl _ cls_begin ?_; (first | go_big_quiet_step (fail) | quiet_step (fail)); refine wpQuiet_nil ?_) | refine wpXL_skip rfl ?_)
          refine wpXL_eff rfl rfl (.bool true) _ rfl (Below.refl _ _) ?_
          simp only [Act.put, List.setIfInBounds_toArray, List.set_cons_zero, List.set_cons_succ]
          repeat (first | (refine wpXL_quiet rfl rfl _ cls_begin ?_; (first | go_big_quiet_step (fail) | quiet_step (fail)); refine wpQuiet_nil ?_) | refine wpXL_skip rfl ?_)
          refine wpXL_call rfl rfl rfl enters_finalChain16 #[.agg (tr ⟨s⟩), v] rfl ?_
          refine (HCc.out _ _ (slE_keep (belowD (Below.refl _ _) 1) Kt.out) (slE_keep (belowD (Below.refl _ _) 1) V.out)).mono ?_
          rintro e u ⟨rfl, g⟩
          refine ⟨_, rfl, g, ?_⟩
          simp only [Act.put, List.setIfInBounds_toArray, List.set_cons_zero, List.set_cons_succ]
          have G : Hid (Below W5.heap.size W5 u) := belowT (belowD (Below.refl _ _) 1) g
          clear g
          repeat (first | (refine wpXL_quiet rfl rfl _ cls_begin ?_; (first | go_big_quiet_step (fail) | quiet_step (fail)); refine wpQuiet_nil ?_) | refine wpXL_skip rfl ?_)
          refine wpXL_eff rfl rfl (.bool true) _ rfl (Below.refl _ _) ?_
          simp only [Act.put, List.setIfInBounds_toArray, List.set_cons_zero, List.set_cons_succ]
          repeat (first | (refine wpXL_quiet rfl rfl _ cls_begin ?_; (first | go_big_quiet_step (fail) | quiet_step (fail)); refine wpQuiet_nil ?_) | refine wpXL_skip rfl ?_)
          refine wpXL_call rfl rfl rfl enters_finalChain16 #[.agg (tr ⟨s⟩), .slice (some ⟨R, 0, none⟩) 1 1] rfl ?_
          refine (HCd.out _ _ (slE_keep G.out Kt.out) (slE_keep G.out V1.out)).mono ?_
          rintro e u ⟨rfl, g⟩
          refine ⟨_, rfl, g, ?_⟩
          simp only [Act.put, List.setIfInBounds_toArray, List.set_cons_zero, List.set_cons_succ]
          replace G : Hid (Below W5.heap.size W5 u) := belowT G.out g
          clear g
          repeat (first | (refine wpXL_quiet rfl rfl _ cls_begin ?_; (first | go_big_quiet_step (fail) | quiet_step (fail)); refine wpQuiet_nil ?_) | refine wpXL_skip rfl ?_)
          refine wpXL_nil ?_
          clear L0
          replace Mt := Lib.hid (blk_keep G.out Mt.out)
          replace Mc := Lib.hid (blk_keep G.out Mc.out)
          replace A0 := Lib.hid (belowT A0.out G.out)
          replace Kt := Lib.hid (slE_keep G.out Kt.out)
          replace Kcs := Lib.hid (slE_keep G.out Kcs.out)
          replace V := Lib.hid (slE_keep G.out V.out)
          replace V1 := Lib.hid (slE_keep G.out V1.out)
          replace V3 := Lib.hid (slE_keep G.out V3.out)
          clear G
          obtain ⟨w6, rfl⟩ : ∃ W : World, W = u := ⟨_, rfl⟩
          go_wp2_with fail
          go_ret
          exact ⟨rfl, A0.out⟩
        case true =>
          have hk2 : K2 = true := HTk.out rfl
          subst hk2
          go_wp2_with fail
          have L0 := fun p : Wd W5.drew => wd_ld zt (by decide) p
          clear zt
          refine wp_region_lex [7, 9, 12, 16, 19] (by kernel_rfl) (by kernel_rfl) (by kernel_rfl) ?_
          repeat (first | (refine wpXL_quiet rfl rfl _ cls_begin ?_; (first | go_big_quiet_step (fail) | quiet_step (fail)); refine wpQuiet_nil ?_) | refine wpXL_skip rfl ?_)
          refine wpXL_call rfl rfl rfl enters_finalChain16 #[.agg (tr ⟨s⟩), vr] rfl ?_
          refine (HCb.out _ _ (slE_keep (belowD (Below.refl _ _) 1) Kt.out) (slE_keep (belowD (Below.refl _ _) 1) V3.out)).mono ?_
          rintro e u ⟨rfl, g⟩
          refine ⟨_, rfl, g, ?_⟩
          simp only [Act.put, List.setIfInBounds_toArray, List.set_cons_zero, List.set_cons_succ]
          have G : Hid (Below W5.heap.size W5 u) := belowT (belowD (Below.refl _ _) 1) g
          clear g
          repeat (first | (refine wpXL_quiet rfl rfl _ cls_begin ?_; (first | go_big_quiet_step (fail) | quiet_step (fail)); refine wpQuiet_nil ?_) | refine wpXL_skip rfl ?_)
          refine wpXL_eff rfl rfl (.bool true) _ rfl (Below.refl _ _) ?_
          simp only [Act.put, List.setIfInBounds_toArray, List.set_cons_zero, List.set_cons_succ]
          repeat (first | (refine wpXL_quiet rfl rfl _ cls_begin ?_; (first | go_big_quiet_step (fail) | quiet_step (fail)); refine wpQuiet_nil ?_) | refine wpXL_skip rfl ?_)
          refine wpXL_call rfl rfl rfl enters_finalChain16 #[.agg (tr ⟨s⟩), v] rfl ?_
          refine (HCc.out _ _ (slE_keep G.out Kt.out) (slE_keep G.out V.out)).mono ?_
          rintro e u ⟨rfl, g⟩
          refine ⟨_, rfl, g, ?_⟩
          simp only [Act.put, List.setIfInBounds_toArray, List.set_cons_zero, List.set_cons_succ]
          replace G : Hid (Below W5.heap.size W5 u) := belowT G.out g
          clear g
          repeat (first | (refine wpXL_quiet rfl rfl _ cls_begin ?_; (first | go_big_quiet_step (fail) | quiet_step (fail)); refine wpQuiet_nil ?_) | refine wpXL_skip rfl ?_)
          refine wpXL_eff rfl rfl (.bool true) _ rfl (Below.refl _ _) ?_
          simp only [Act.put, List.setIfInBounds_toArray, List.set_cons_zero, List.set_cons_succ]
          repeat (first | (refine wpXL_quiet rfl rfl _ cls_begin ?_; (first | go_big_quiet_step (fail) | quiet_step (fail)); refine wpQuiet_nil ?_) | refine wpXL_skip rfl ?_)
          refine wpXL_call rfl rfl rfl enters_finalChain16 #[.agg (tr ⟨s⟩), .slice (some ⟨R, 0, none⟩) 1 1] rfl ?_
          refine (HCd.out _ _ (slE_keep G.out Kt.out) (slE_keep G.out V1.out)).mono ?_
          rintro e u ⟨rfl, g⟩
          refine ⟨_, rfl, g, ?_⟩
          simp only [Act.put, List.setIfInBounds_toArray, List.set_cons_zero, List.set_cons_succ]
          replace G : Hid (Below W5.heap.size W5 u) := belowT G.out g
          clear g
          repeat (first | (refine wpXL_quiet rfl rfl _ cls_begin ?_; (first | go_big_quiet_step (fail) | quiet_step (fail)); refine wpQuiet_nil ?_) | refine wpXL_skip rfl ?_)
          refine wpXL_nil ?_
          clear L0
          replace Mt := Lib.hid (blk_keep G.out Mt.out)
          replace Mc := Lib.hid (blk_keep G.out Mc.out)
          replace A0 := Lib.hid (belowT A0.out G.out)
          replace Kt := Lib.hid (slE_keep G.out Kt.out)
          replace Kcs := Lib.hid (slE_keep G.out Kcs.out)
          replace V := Lib.hid (slE_keep G.out V.out)
          replace V1 := Lib.hid (slE_keep G.out V1.out)
          replace V3 := Lib.hid (slE_keep G.out V3.out)
          clear G
          obtain ⟨w6, rfl⟩ : ∃ W : World, W = u := ⟨_, rfl⟩
          go_wp2_with fail
          go_ret
          exact ⟨rfl, A0.out⟩
/-- The law. -/
theorem finalChainL (H : FinalC) (HP : Beside16) (s : SlV) (l : List Nd) (vcs : Value) (cs : List Ck) (m : Int) (c : Ck) (w : World) (ht : SlE Ene w (sv s) l) (hcs : SlE Ecc w vcs cs) :
    Calls Try.prog 8 #[.agg (tr ⟨s⟩), vcs, .int .i64 m, .agg (cc c)] w fun e w' => e = .returned (.bool true) ∧ Below w.heap.size w w' := by
  have kcs := hcs
  obtain ⟨pcs, ccs, rfl, _⟩ := slE_shape hcs
  exact finalChain_n H HP s l pcs _ ccs cs m c w ht kcs rfl
end Go.Proofs.Ytlhnjaeocoafnaa
