/-
  The law LatePut, walked. (written by wip/gen/law13.py)
-/
import Derived.Test.YtljehgohcchocaaW13
namespace Go.Proofs.Ytljehgohcchocaa
open Go.RowKit
set_option maxRecDepth 100000

set_option maxRecDepth 100000 in
set_option maxHeartbeats 8000000 in
theorem latePut_n (H : LateC) (q : Option Addr) (n c : Nat) (l : List Aa) (x : Aa) (w : World) (h : SlE Eaa w (.slice q n c) l) (hl : l.length = n) :
    Calls Try.prog 5 #[.slice q n c, .agg (aa x)] w fun e w' => e = .returned (.bool true) ∧ Below w.heap.size w w' := by
  obtain ⟨W0, hW0⟩ : ∃ W0, W0 = w.alloc (.cells (aa x) 29) := ⟨_, rfl⟩
  have A : Hid (Aw w W0 (.slice q n c) l) := by rw [hW0]; exact ⟨slE_keep below1 h, below1⟩
  have M : Hid (W0.heap[w.heap.size]? = some (.cells (aa x) 29 (0, 0))) := by rw [hW0]; exact heap_alloc_last w _
  have HW := Lib.hid hW0
  clear hW0
  have HL := Lib.hid hl
  have HAw := Lib.hid (fun W => awake_any13 H W)
  have HH := Lib.hid H
  clear H h hl
  have HMy := Lib.hid (fun W (g : SlE Eaa W (.slice q n c) l) => HH.out.may _ l W g)
  go_enter Try.func5, Try.ntmps5
  go_wp2_with fail
  rw [← HW.out]
  refine (HAw.out _).mono ?_
  rintro e w1 ⟨rfl, g⟩
  replace A := Lib.hid (A.out.keep g)
  replace M := Lib.hid (blk_keep g M.out)
  clear g
  go_wp2_with fail
  refine (HMy.out _ A.out.s).mono ?_
  rintro e w2 ⟨rfl, g⟩
  replace A := Lib.hid (A.out.keep g)
  replace M := Lib.hid (blk_keep g M.out)
  clear g
  obtain ⟨y, hy⟩ : ∃ y, y = x.slot.toNat := ⟨_, rfl⟩
  have hy64 : y < 18446744073709551616 := by rw [hy]; exact x.slot.toNat_lt
  have HY := Lib.hid hy
  have zy := aa_rd0_slot M.out
  unfold num at zy
  rw [← hy] at zy
  have HY64 := Lib.hid hy64
  clear hy hy64
  by_cases hm : mayA l = true
  case neg =>
    have hm' : mayA l = false := by simpa using hm
    rw [hm']
    clear hm hm'
    go_wp2_with fail
    go_ret
    exact ⟨rfl, A.out.g⟩
  rw [hm]
  have Hm := Lib.hid hm
  clear hm
  by_cases h1 : 1099511627776 < y
  · have h1i : decide ((1099511627776 : Int) < (y : Int)) = true := decide_eq_true (by omega)
    have h1i' : decide (1099511627776 < y) = true := decide_eq_true (by omega)
    clear h1
    go_wp2_with fail
    go_ret
    exact ⟨rfl, A.out.g⟩
  have h1i : decide ((1099511627776 : Int) < (y : Int)) = false := decide_eq_false (by omega)
  have h1i' : decide (1099511627776 < y) = false := decide_eq_false (by omega)
  have hn6 := (mayA_iff.1 Hm.out).1
  have hn : l.length ≤ 1000 := by omega
  have HP := Lib.hid (fun W (g : SlE Eaa W (.slice q n c) l) => HH.out.put _ l x W g hn)
  have zx := ldA_block M.out (aa_size x)
  by_cases h6 : 6 ≤ n
  · obtain ⟨e1, e2⟩ := put_full (l := l) (a := x) Hm.out (by rw [← HY.out]; omega) (by have := HL.out; omega)
    rw [e1, e2] at HP
    have d1 : decide ((6 : Int) ≤ (n : Int)) = true := decide_eq_true (by omega)
    have d1' : decide (6 ≤ n) = true := decide_eq_true h6
    have HS := Lib.hid (fun v W (g1 : SlE Eaa W v l) (g : SlE Eaa W (.slice q n c) l) => HH.out.same v _ l l W g1 g hn)
    rw [decide_eq_true rfl] at HS
    clear e1 e2 h6 hn6 hn h1
    go_wp2_with fail
    refine (HP.out _ A.out.s).mono ?_
    rintro e w3 ⟨va, rfl, ha, g⟩
    replace A := Lib.hid (A.out.keep g)
    replace M := Lib.hid (blk_keep g M.out)
    have Sa := Lib.hid ha
    clear ha
    clear g
    go_wp2_with fail
    refine (HS.out _ _ Sa.out A.out.s).mono ?_
    rintro e w4 ⟨rfl, g⟩
    replace A := Lib.hid (A.out.keep g)
    replace M := Lib.hid (blk_keep g M.out)
    replace Sa := Lib.hid (slE_keep g Sa.out)
    clear g
    go_wp2_with fail
    go_ret
    exact ⟨rfl, A.out.g⟩
  · obtain ⟨e1, e2, e3⟩ := put_room (l := l) (a := x) Hm.out (by rw [← HY.out]; omega) (by have := HL.out; omega)
    rw [e1, e2] at HP
    have d1 : decide ((6 : Int) ≤ (n : Int)) = false := decide_eq_false (by omega)
    have d1' : decide (6 ≤ n) = false := decide_eq_false h6
    have hln : (l ++ [x]).length ≤ 1000 := by simp; omega
    have hl1 : (l ++ [x]).length = n + 1 := by rw [List.length_append, HL.out]; rfl
    have HD := Lib.hid (fun v W (g : SlE Eaa W v (l ++ [x])) => HH.out.due v _ y W HY64.out g hln)
    have HE := Lib.hid (fun v W (g : SlE Eaa W v (l ++ [x])) => HH.out.due v _ (y + 1) W (by omega) g hln)
    have HM := Lib.hid (fun v W (g : SlE Eaa W v (l ++ [x])) => HH.out.may v _ W g)
    rw [e3] at HM
    rw [rest_last (by rw [← HY.out]; omega)] at HD
    rw [due_last (by rw [← HY.out]; omega)] at HE
    have hla : att (restL l y ++ [x]) (restL l y).length = x := by unfold att; simp [List.getD_eq_getElem?_getD]
    have hlb : att (dueL l (y + 1) ++ [x]) (dueL l (y + 1)).length = x := by unfold att; simp [List.getD_eq_getElem?_getD]
    have hra : (restL l y ++ [x]).length = (restL l y).length + 1 := by simp
    have hrb : (dueL l (y + 1) ++ [x]).length = (dueL l (y + 1)).length + 1 := by simp
    have hba : (restL l y).length ≤ 1000 := Nat.le_trans rest_le hn
    have hbb : (dueL l (y + 1)).length ≤ 1000 := Nat.le_trans due_le hn
    obtain ⟨ia, hia⟩ : ∃ z, z = (restL l y).length := ⟨_, rfl⟩
    obtain ⟨ib, hib⟩ : ∃ z, z = (dueL l (y + 1)).length := ⟨_, rfl⟩
    rw [← hia] at hla hra hba
    rw [← hib] at hlb hrb hbb
    generalize restL l y ++ [x] = RA at *
    generalize dueL l (y + 1) ++ [x] = DB at *
    generalize restL (l ++ [x]) (y + 1) = RB at *
    generalize dueL (l ++ [x]) y = DA at *
    generalize l ++ [x] = LX at *
    obtain ⟨ja, hja⟩ : ∃ z, z = ia + 1 := ⟨_, rfl⟩
    obtain ⟨jb, hjb⟩ : ∃ z, z = ib + 1 := ⟨_, rfl⟩
    obtain ⟨m, hmm⟩ : ∃ z, z = n + 1 := ⟨_, rfl⟩
    rw [← hja] at hra
    rw [← hjb] at hrb
    rw [← hmm] at hl1
    have Lla := Lib.hid hla
    have Llb := Lib.hid hlb
    have Lra := Lib.hid hra
    have Lrb := Lib.hid hrb
    have Ll1 := Lib.hid hl1
    have Lja : Hid (ia < ja) := by show ia < ja; omega
    have Ljb : Hid (ib < jb) := by show ib < jb; omega
    have a0 : (ja : Int) - 1 = (ia : Int) := by omega
    have a1 : (0 : Int) ≤ (ia : Int) := by omega
    have a2 : (ia : Int) < (ja : Int) := by omega
    have a3 : decide ((0 : Int) < (ja : Int)) = true := decide_eq_true (by omega)
    have a3' : decide (0 < ja) = true := decide_eq_true (by omega)
    have b0 : (jb : Int) - 1 = (ib : Int) := by omega
    have b1 : (0 : Int) ≤ (ib : Int) := by omega
    have b2 : (ib : Int) < (jb : Int) := by omega
    have b3 : decide ((0 : Int) < (jb : Int)) = true := decide_eq_true (by omega)
    have b3' : decide (0 < jb) = true := decide_eq_true (by omega)
    have c0 : ((m : Int) == (n : Int) + 1) = true := by rw [beq_iff_eq]; omega
    have C0 := Lib.hid c0
    have n1 : (n : Int) + 1 < 10000 := by omega
    have y1 : (y : Int) + 1 < 18446744073709551616 := by omega
    have Y1 : Unit → (y : Int) + 1 < 18446744073709551616 := fun _ => y1
    have N1 : Unit → (n : Int) + 1 < 10000 := fun _ => n1
    have A0 : Hid (IntKind.i64.wrap ((ja : Int) - 1) = (ia : Int)) := by show _ = _; rw [a0, IntKind.wrap_i64]; omega
    have B0 : Hid (IntKind.i64.wrap ((jb : Int) - 1) = (ib : Int)) := by show _ = _; rw [b0, IntKind.wrap_i64]; omega
    have N0 : Hid (IntKind.i64.wrap ((n : Int) + 1) = (m : Int)) := by show _ = _; rw [IntKind.wrap_i64]; omega
    clear e1 e2 e3 h6 hn6 hn h1 hln hl1 hla hlb hra hrb hba hbb hia hib hja hjb hmm c0 n1 y1 a0 b0
    go_wp2_with fail
    refine (HP.out _ A.out.s).mono ?_
    rintro e w3 ⟨va, rfl, ha, g⟩
    replace A := Lib.hid (A.out.keep g)
    replace M := Lib.hid (blk_keep g M.out)
    have Sa := Lib.hid ha
    clear ha
    clear g
    clear zy
    obtain ⟨pa, ca, rfl⟩ := slE_len Sa.out Ll1.out
    have zy := aa_rd0_slot M.out
    unfold num at zy
    rw [← HY.out] at zy
    go_wp2_with fail
    refine (HD.out _ _ Sa.out).mono ?_
    rintro e w4 ⟨vb, vc, rfl, hb, hc, g⟩
    replace A := Lib.hid (A.out.keep g)
    replace M := Lib.hid (blk_keep g M.out)
    replace Sa := Lib.hid (slE_keep g Sa.out)
    have Sb := Lib.hid hb
    have Sc := Lib.hid hc
    clear hb hc
    clear g
    obtain ⟨pc, cc, rfl⟩ := slE_len Sc.out Lra.out
    replace zy := aa_rd0_slot M.out
    unfold num at zy
    rw [← HY.out] at zy
    have y1 := Y1 ()
    go_wp2_with fail
    rw [show (y : Int) + 1 = ((y + 1 : Nat) : Int) from by omega]
    clear y1 zy zx
    refine (HE.out _ _ Sa.out).mono ?_
    rintro e w5 ⟨vd, ve, rfl, hd, he, g⟩
    replace A := Lib.hid (A.out.keep g)
    replace M := Lib.hid (blk_keep g M.out)
    replace Sa := Lib.hid (slE_keep g Sa.out)
    replace Sb := Lib.hid (slE_keep g Sb.out)
    replace Sc := Lib.hid (slE_keep g Sc.out)
    have Sd := Lib.hid hd
    clear hd he g
    obtain ⟨pd, cd, rfl⟩ := slE_len Sd.out Lrb.out
    obtain ⟨bb1, oo1, rfl, _, xx1⟩ := atts_ptr Sc.out (by rw [Lra.out]; have := Lja.out; omega)
    obtain ⟨bb2, oo2, rfl, _, xx2⟩ := atts_ptr Sd.out (by rw [Lrb.out]; have := Ljb.out; omega)
    have yy1 := atts_ld xx1 (i := ia) (by rw [Lra.out]; exact Lja.out)
    have yy2 := atts_ld xx2 (i := ib) (by rw [Lrb.out]; exact Ljb.out)
    rw [Lla.out] at yy1
    rw [Llb.out] at yy2
    clear xx1 xx2
    have zx := ldA_block M.out (aa_size x)
    go_wp2_with fail
    have a0 := A0.out
    have b0 := B0.out
    have n0 := N0.out
    have L0 := fun p : Wd w5.drew => wd_ld yy1 (by decide) p
    have L1 := fun p : Wd w5.drew => wd_ld yy2 (by decide) p
    have L2 := fun p : Wd w5.drew => wd_ld zx (by decide) p
    refine wp_region_lex [4] (by kernel_rfl) (by kernel_rfl) (by kernel_rfl) ?_
    repeat (first | (refine wpXL_quiet rfl rfl _ cls_begin ?_; (first | go_big_quiet_step (fail) | quiet_step (fail)); refine wpQuiet_nil ?_) | refine wpXL_skip rfl ?_)
    refine wpXL_call rfl rfl rfl enters_lateMay #[.slice pa m ca] rfl ?_
    refine (HM.out _ _ (slE_keep (belowD (Below.refl _ _) 1) Sa.out)).mono ?_
    rintro e u ⟨rfl, g⟩
    refine ⟨_, rfl, g, ?_⟩
    simp only [Act.put, List.setIfInBounds_toArray, List.set_cons_zero, List.set_cons_succ]
    have G := Lib.hid (belowT A.out.g (belowT (belowD (Below.refl _ _) 1) g))
    clear g
    repeat (first | (refine wpXL_quiet rfl rfl _ cls_begin ?_; (first | go_big_quiet_step (fail) | quiet_step (fail)); refine wpQuiet_nil ?_) | refine wpXL_skip rfl ?_)
    refine wpXL_nil ?_
    clear L0 L1 L2
    go_wp2_with fail
    go_ret
    exact ⟨rfl, G.out⟩
/-- The law. -/
theorem latePutL (H : LateC) (v1 : Value) (l : List Aa) (x : Aa) (w : World) (h : SlE Eaa w v1 l) :
    Calls Try.prog 5 #[v1, .agg (aa x)] w fun e w' => e = .returned (.bool true) ∧ Below w.heap.size w w' := by
  have k1 := h
  obtain ⟨q, c, rfl, _⟩ := slE_shape h
  exact latePut_n H q _ c l x w k1 rfl
end Go.Proofs.Ytljehgohcchocaa
