/-
  The document's leaps: Table, walked.
-/
import Derived.Test.YtnmljjmaejmlfaaR07Up
import Derived.Test.YtnmljjmaejmlfaaQd
import Derived.Test.YtnmljjmaejmlfaaLexE
namespace Go.Proofs.Ytnmljjmaejmlfaa
open Go.RowKit

theorem enters_ref07Up : ∀ args w, (callFunc 14 args).run Try.prog w = .ok (.enter 14 args) w := entersE Try.func14 (by kernel_rfl) (by kernel_rfl)
theorem quadT_up {l : List Nd} (h : MayT l) {j : Nat} (hj : j < l.length) : quadT l j = ⟨upZ l (j : Int) 1, upZ l (j : Int) 2, upZ l (j : Int) 4, upZ l (j : Int) 8⟩ := by
  have e : ∀ n : Nat, upZ l (j : Int) (n : Int) = upT l n j := fun n => upZ_nat h hj n
  rw [show (1 : Int) = ((1 : Nat) : Int) from rfl, show (2 : Int) = ((2 : Nat) : Int) from rfl, show (4 : Int) = ((4 : Nat) : Int) from rfl, show (8 : Int) = ((8 : Nat) : Int) from rfl, e, e, e, e]
  rfl

set_option maxRecDepth 100000 in
set_option maxHeartbeats 8000000 in
theorem ref07Table (s : SlV) (l : List Nd) (w : World) (h : SlE Ene w (sv s) l) (hn : l.length ≤ 1000) :
    Calls Try.prog 12 #[.agg (tr ⟨s⟩)] w fun e w' => ∃ v : Value, e = .returned v ∧ OwnE Eqd w' w.heap.size v (tabT l) ∧ Below w.heap.size w w' := by
  have HM := Lib.hid (fun W (g : Below w.heap.size w W) => refMayT s l W (slE_keep g h) hn)
  have HU := Lib.hid (fun W (g : SlE Ene W (sv s) l) (i m : Int) (hm : m ≤ 100) => ref07Up s l i m W g hn (by omega))
  have HL := Lib.hid (sv_lenN h)
  obtain ⟨p, n, cp⟩ := s
  dsimp only at HL HU
  obtain ⟨a, ha⟩ : ∃ a, a = decide (MayT l) := ⟨_, rfl⟩
  rw [← ha] at HM
  obtain ⟨W0, hW0⟩ : ∃ W0, W0 = w.alloc (.cells (tr ⟨⟨p, n, cp⟩⟩) 24) := ⟨_, rfl⟩
  have HB : Hid (Below w.heap.size w W0) := by rw [hW0]; exact below1
  have M0 : Hid (W0.heap[w.heap.size]? = some (.cells (tr ⟨⟨p, n, cp⟩⟩) 24 (0, 0))) := by rw [hW0]; exact heap_alloc_last w _
  have HS := Lib.hid h
  have HW := Lib.hid hW0
  have HA := Lib.hid ha
  clear hW0 h ha
  cases a
  · have HE : Hid (tabT l = []) := by show tabT l = []; unfold tabT; rw [if_neg (of_decide_eq_false HA.out.symm)]
    have HN : Hid (n ≤ 1000) := by show n ≤ 1000; have := HL.out; omega
    clear hn
    go_enter Try.func12, Try.ntmps12
    go_wp2_with fail
    rw [← HW.out]
    refine (HM.out W0 HB.out).mono ?_
    rintro e w1 ⟨rfl, g1⟩
    have G1 := Lib.hid (belowT HB.out g1)
    have M1 := Lib.hid (blk_keep g1 M0.out)
    clear g1
    go_wp2_with fail
    go_loopw [3, 5] (fun v i wr => v = .slice none 0 0 ∧ i = .int .i64 0 ∧ wr = w1) (fun _ _ _ => 1)
    case atStart => exact ⟨rfl, rfl, rfl⟩
    case round =>
      obtain ⟨rfl, rfl, rfl⟩ := hrel
      obtain ⟨z0, z1, zl⟩ := tr_cells M1.out
      dsimp only at z0
      rw [sv_mk] at z0
      obtain ⟨r, hr⟩ : ∃ r, r = decide (0 < n) := ⟨_, rfl⟩
      cases r
      · have t0 : decide (0 < n) = false := hr.symm
        have t0' : decide ((0 : Int) < (n : Int)) = false := by rw [decide_eq_false_iff_not]; have := of_decide_eq_false hr.symm; omega
        clear hr
        go_wp2_with fail
        go_ret
        exact ⟨_, rfl, by rw [HE.out]; exact ownE_nil _ _ _, G1.out⟩
      · have t0 : decide (0 < n) = true := hr.symm
        have t0' : decide ((0 : Int) < (n : Int)) = true := by rw [decide_eq_true_iff]; have := of_decide_eq_true hr.symm; omega
        clear hr
        go_wp2_with fail
        go_ret
        exact ⟨_, rfl, by rw [HE.out]; exact ownE_nil _ _ _, G1.out⟩
  · have hm : MayT l := of_decide_eq_true HA.out.symm
    have HE : Hid (tabT l = tabUp l n) := by show tabT l = tabUp l n; unfold tabT; rw [if_pos hm, HL.out]
    have HN : Hid (n ≤ 12) := by show n ≤ 12; have := hm.le; have := HL.out; omega
    have HMm := Lib.hid hm
    clear HA hm hn
    go_enter Try.func12, Try.ntmps12
    go_wp2_with fail
    rw [← HW.out]
    refine (HM.out W0 HB.out).mono ?_
    rintro e w1 ⟨rfl, g1⟩
    have G1 := Lib.hid (belowT HB.out g1)
    have M1 := Lib.hid (blk_keep g1 M0.out)
    clear g1
    go_wp2_with fail
    go_loopw [3, 5] (fun v i wr => ∃ j : Nat, j ≤ n ∧ i = .int .i64 (j : Int) ∧ OwnE Eqd wr w1.heap.size v (tabUp l j) ∧ Below w1.heap.size w1 wr) (fun _ i _ => n - (intOf i).toNat)
    case atStart => exact ⟨0, Nat.zero_le _, rfl, ownE_nil _ _ _, Below.refl _ _⟩
    case round =>
      obtain ⟨j, hj, rfl, hown, hb⟩ := hrel
      have HO := Lib.hid hown
      have HBB := Lib.hid hb
      have hbox := blk_keep hb M1.out
      obtain ⟨z0, z1, zl⟩ := tr_cells hbox
      dsimp only at z0
      rw [sv_mk] at z0
      obtain ⟨pv, cv, rfl⟩ := ownE_len hown (tabUp_len l j)
      have HZ : Hid (w.heap.size < w1.heap.size) := (tr_cells M1.out).2.2
      clear hown hb
      by_cases hlt : j < n
      · have t0 : decide (j < n) = true := decide_eq_true hlt
        have t0' : decide ((j : Int) < (n : Int)) = true := by rw [decide_eq_true_iff]; omega
        have u1 : (j : Int) + 1 < 10000 := by have := HN.out; omega
        have L0 := fun q : WdB w1.heap.size wr.drew => ldA_wdB' (show ldA wr.drew (.pointer (some ⟨w.heap.size, 0, none⟩)) 1 = some (tr ⟨⟨p, n, cp⟩⟩) by rw [ldA_drew]; exact z1) HZ.out q
        have HT : Hid (tabUp l (j + 1) = tabUp l j ++ [⟨upZ l (j : Int) 1, upZ l (j : Int) 2, upZ l (j : Int) 4, upZ l (j : Int) 8⟩]) := by show _ = _; rw [tabUp_succ, quadT_up HMm.out (by have := HL.out; omega)]
        have HLn := Lib.hid (tabUp_len l j)
        have HLT := Lib.hid hlt
        have HSr : Hid (SlE Ene wr (.slice p n cp) l) := slE_keep (belowT G1.out HBB.out) HS.out
        clear hlt hbox
        go_wp2_with fail
        clear z0 z1 zl t0 t0'
        refine wp_region_lexB w1.heap.size [3, 6, 9, 12, 13, 14, 15] (by kernel_rfl) (by kernel_rfl) (by kernel_rfl) ?_
        repeat (refine wpXL_quietB rfl rfl ?_; (first | go_big_quiet_step (fail) | quiet_step (fail)); refine wpQuiet_nil ?_)
        refine wpXL_call rfl rfl rfl enters_ref07Up #[.agg (tr ⟨⟨p, n, cp⟩⟩), .int .i64 (j : Int), .int .i64 1] rfl ?_
        refine (HU.out _ (slE_keep (belowD (Below.refl _ _) 1) HSr.out) (j : Int) 1 (by decide)).mono ?_
        rintro e v1 ⟨rfl, g⟩
        have T1 : Hid (Below wr.heap.size wr v1) := belowT (belowD (Below.refl _ _) 1) g
        have B1 : Hid (w1.heap.size ≤ wr.drew.heap.size) := HBB.out.size
        refine ⟨_, rfl, g.mono B1.out, ?_⟩
        simp only [Act.put, List.setIfInBounds_toArray, List.set_cons_zero, List.set_cons_succ]
        clear g
        repeat (refine wpXL_quietB rfl rfl ?_; (first | go_big_quiet_step (fail) | quiet_step (fail)); refine wpQuiet_nil ?_)
        refine wpXL_call rfl rfl rfl enters_ref07Up #[.agg (tr ⟨⟨p, n, cp⟩⟩), .int .i64 (j : Int), .int .i64 2] rfl ?_
        refine (HU.out _ (slE_keep T1.out HSr.out) (j : Int) 2 (by decide)).mono ?_
        rintro e v2 ⟨rfl, g⟩
        have T2 : Hid (Below wr.heap.size wr v2) := belowT T1.out g
        have B2 : Hid (w1.heap.size ≤ v1.heap.size) := Nat.le_trans HBB.out.size T1.out.size
        refine ⟨_, rfl, g.mono B2.out, ?_⟩
        simp only [Act.put, List.setIfInBounds_toArray, List.set_cons_zero, List.set_cons_succ]
        clear g
        repeat (refine wpXL_quietB rfl rfl ?_; (first | go_big_quiet_step (fail) | quiet_step (fail)); refine wpQuiet_nil ?_)
        refine wpXL_call rfl rfl rfl enters_ref07Up #[.agg (tr ⟨⟨p, n, cp⟩⟩), .int .i64 (j : Int), .int .i64 4] rfl ?_
        refine (HU.out _ (slE_keep T2.out HSr.out) (j : Int) 4 (by decide)).mono ?_
        rintro e v3 ⟨rfl, g⟩
        have T3 : Hid (Below wr.heap.size wr v3) := belowT T2.out g
        have B3 : Hid (w1.heap.size ≤ v2.heap.size) := Nat.le_trans HBB.out.size T2.out.size
        refine ⟨_, rfl, g.mono B3.out, ?_⟩
        simp only [Act.put, List.setIfInBounds_toArray, List.set_cons_zero, List.set_cons_succ]
        clear g
        repeat (refine wpXL_quietB rfl rfl ?_; (first | go_big_quiet_step (fail) | quiet_step (fail)); refine wpQuiet_nil ?_)
        refine wpXL_call rfl rfl rfl enters_ref07Up #[.agg (tr ⟨⟨p, n, cp⟩⟩), .int .i64 (j : Int), .int .i64 8] rfl ?_
        refine (HU.out _ (slE_keep T3.out HSr.out) (j : Int) 8 (by decide)).mono ?_
        rintro e v4 ⟨rfl, g⟩
        have T4 : Hid (Below wr.heap.size wr v4) := belowT T3.out g
        have B4 : Hid (w1.heap.size ≤ v3.heap.size) := Nat.le_trans HBB.out.size T3.out.size
        refine ⟨_, rfl, g.mono B4.out, ?_⟩
        simp only [Act.put, List.setIfInBounds_toArray, List.set_cons_zero, List.set_cons_succ]
        clear g
        repeat (refine wpXL_quietB rfl rfl ?_; (first | go_big_quiet_step (fail) | quiet_step (fail)); refine wpQuiet_nil ?_)
        have BZ : Hid (w1.heap.size ≤ v4.heap.size) := Nat.le_trans HBB.out.size T4.out.size
        have O4 : Hid (OwnE Eqd v4 w1.heap.size (.slice pv j cv) (tabUp l j)) := ownE_keep T4.out HO.out
        generalize upZ l (j : Int) 1 = x1 at *
        generalize upZ l (j : Int) 2 = x2 at *
        generalize upZ l (j : Int) 4 = x4 at *
        generalize upZ l (j : Int) 8 = x8 at *
        refine wpXL_eff rfl rfl (.agg (qd ⟨x1, x2, x4, x8⟩)) v4 (by go_simp) (Below.refl _ _) ?_
        simp only [Act.put, List.setIfInBounds_toArray, List.set_cons_zero, List.set_cons_succ]
        repeat (refine wpXL_quietB rfl rfl ?_; (first | go_big_quiet_step (fail) | quiet_step (fail)); refine wpQuiet_nil ?_)
        refine wpXL_eff rfl rfl (.slice (some ⟨v4.heap.size, 0, none⟩) 1 1) (v4.alloc (.cells (qd ⟨x1, x2, x4, x8⟩) 42)) (by go_simp) ((Below.refl _ _).alloc BZ.out _) ?_
        simp only [Act.put, List.setIfInBounds_toArray, List.set_cons_zero, List.set_cons_succ]
        repeat (refine wpXL_quietB rfl rfl ?_; (first | go_big_quiet_step (fail) | quiet_step (fail)); refine wpQuiet_nil ?_)
        have O5 : Hid (OwnE Eqd (v4.alloc (.cells (qd ⟨x1, x2, x4, x8⟩) 42)) w1.heap.size (.slice pv j cv) (tabUp l j)) := ownE_alloc O4.out _
        have B5 : Hid (w1.heap.size ≤ (v4.alloc (.cells (qd ⟨x1, x2, x4, x8⟩) 42)).heap.size) := by show _ ≤ _; have := BZ.out; simp; omega
        refine wpXL_appendE Kqd rfl rfl (.tmp 18) (.tmp 32) rfl w1.heap.size _ (tabUp l j) rfl O5.out _ [(⟨x1, x2, x4, x8⟩ : Quad)] rfl (slE_lit _ [(⟨x1, x2, x4, x8⟩ : Quad)] 1 _ _ _ rfl (by simp) (by simp [cellsE, Eqd, qd_list])) (by have := HLn.out; have := HN.out; simp; omega) B5.out (fun v' w' g => g.own O5.out B5.out) ?_
        intro v5 w5 ho5 hg5
        have G5 : Hid (Below w1.heap.size w1 w5) := (HBB.out.trans ((T4.out.mono HBB.out.size).trans (below1.mono BZ.out))).trans (hg5.own O5.out B5.out)
        have HO5 : Hid (OwnE Eqd w5 w1.heap.size v5 (tabUp l (j + 1))) := by show OwnE _ _ _ _ _; rw [HT.out]; exact ho5
        simp only [Act.put, List.setIfInBounds_toArray, List.set_cons_zero, List.set_cons_succ]
        clear ho5 hg5
        repeat (refine wpXL_quietB rfl rfl ?_; (first | go_big_quiet_step (fail) | quiet_step (fail)); refine wpQuiet_nil ?_)
        refine wpXL_nil ?_
        go_wp2_with fail
        go_roundw
        case rel => exact ⟨j + 1, HLT.out, by go_num, HO5.out, G5.out⟩
        case measure => simp [intOf]; have := HLT.out; omega
      · obtain rfl : j = n := by omega
        have t0 : decide (j < j) = false := decide_eq_false (Nat.lt_irrefl _)
        have t0' : decide ((j : Int) < (j : Int)) = false := decide_eq_false (Int.lt_irrefl _)
        clear hlt hbox
        go_wp2_with fail
        go_ret
        exact ⟨_, rfl, by rw [HE.out]; exact ownE_base HO.out G1.out.size, belowT G1.out HBB.out⟩
theorem enters_ref07Table : ∀ args w, (callFunc 12 args).run Try.prog w = .ok (.enter 12 args) w := entersE Try.func12 (by kernel_rfl) (by kernel_rfl)
end Go.Proofs.Ytnmljjmaejmlfaa
