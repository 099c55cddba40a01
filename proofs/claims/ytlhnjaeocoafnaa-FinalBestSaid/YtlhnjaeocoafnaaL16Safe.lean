/-
  The law FinalSafe, walked. (written by wip/gen/law16.py)
-/
import Derived.Test.YtlhnjaeocoafnaaL16Tells
import Derived.Test.YtlhnjaeocoafnaaQ29
import Derived.Test.YtlhnjaeocoafnaaQ28
import Derived.Deep.Cut
import Derived.Deep.CutRange
import Derived.Deep.RegionLaw
import Derived.Test.YtlhnjaeocoafnaaQ26
namespace Go.Proofs.Ytlhnjaeocoafnaa
open Go.RowKit
set_option maxRecDepth 100000

theorem enters_treeFind16 : ∀ args w, (callFunc 25 args).run Try.prog w = .ok (.enter 25 args) w := entersE Try.func25 (by kernel_rfl) (by kernel_rfl)
theorem enters_treeAbove16 : ∀ args w, (callFunc 29 args).run Try.prog w = .ok (.enter 29 args) w := entersE Try.func29 (by kernel_rfl) (by kernel_rfl)
theorem KccB : KnownB Try.prog Ecc 27 40 := ⟨Try.underlying27, .agg (cc zcc), info_cc, by show ((cc zcc)).size = _; exact cc_size _⟩
theorem cc_own1 (w : World) (x : Ck) (b : Nat) (hb : b = w.heap.size) : OwnE Ecc (w.alloc (.cells (cc x) 32)) b (.slice (some ⟨b, 0, none⟩) 1 1) [x] := ownE_lit w [x] 1 rfl (by simp [maxLen]) (cc x) (by simp [cellsE, Ecc, cc_list]) b hb

set_option maxRecDepth 100000 in
set_option maxHeartbeats 16000000 in
theorem finalSafe_n (H : FinalC) (HP : Beside16) (s : SlV) (l : List Nd) (pls : Option Addr) (nls cls : Nat) (ls : List Lk) (vb : Value) (bal : List UInt64) (base : Ck) (w : World) (ht : SlE Ene w (sv s) l) (hls : SlE Elk w (.slice pls nls cls) ls) (lls : ls.length = nls) (hb : SlE Enum w vb bal) (lb : bal.length ≤ 1152921504606846976) :
    Calls Try.prog 4 #[.agg (tr ⟨s⟩), .slice pls nls cls, vb, .agg (cc base)] w fun e w' => e = .returned (.bool true) ∧ Below w.heap.size w w' := by
  obtain ⟨W0, hW0⟩ : ∃ W0, W0 = ((w.alloc (.cells (tr ⟨s⟩) 24)).alloc (.cells (cc base) 32)) := ⟨_, rfl⟩
  obtain ⟨hB, b0, b1, _⟩ := heap2 w _ _ _ _ W0 hW0
  have Mt : Hid (W0.heap[w.heap.size]? = some (.cells (tr ⟨s⟩) 24 (0, 0))) := b0
  have Mbase : Hid (W0.heap[w.heap.size + 1]? = some (.cells (cc base) 32 (0, 0))) := b1
  have A0 : Hid (Below w.heap.size w W0) := hB
  have HW := Lib.hid hW0
  have Kt := Lib.hid (slE_keep hB ht)
  have Kls := Lib.hid (slE_keep hB hls)
  have Lls := Lib.hid lls
  have Kb := Lib.hid (slE_keep hB hb)
  have Lb := Lib.hid lb
  have HAw := Lib.hid (fun W => awake_any16 H W)
  have HH := Lib.hid H
  clear H hW0 hB b0 b1 ht hls lls hb lb
  go_enter Try.func4, Try.ntmps4
  go_upto_region 1 with fail
  rw [← HW.out]
  go_wp2_with fail
  refine (HAw.out _).mono ?_
  rintro e w1 ⟨rfl, g⟩
  replace Mt := Lib.hid (blk_keep g Mt.out)
  replace Mbase := Lib.hid (blk_keep g Mbase.out)
  replace A0 := Lib.hid (belowT A0.out g)
  replace Kt := Lib.hid (slE_keep g Kt.out)
  replace Kls := Lib.hid (slE_keep g Kls.out)
  replace Kb := Lib.hid (slE_keep g Kb.out)
  clear g
  have zt := (tr_cells Mt.out).2.1
  go_wp2_with fail
  refine (few16 s pls none nls cls 0 0 l ls ([] : List Ck) _ Kt.out Lls.out rfl).mono ?_
  rintro e w2 ⟨rfl, g⟩
  replace Mt := Lib.hid (blk_keep g Mt.out)
  replace Mbase := Lib.hid (blk_keep g Mbase.out)
  replace A0 := Lib.hid (belowT A0.out g)
  replace Kt := Lib.hid (slE_keep g Kt.out)
  replace Kls := Lib.hid (slE_keep g Kls.out)
  replace Kb := Lib.hid (slE_keep g Kb.out)
  clear g
  obtain ⟨f, hf⟩ : ∃ f, f = (decide (l.length ≤ 20) && (decide (ls.length ≤ 20) && decide (([] : List Ck).length ≤ 20))) := ⟨_, rfl⟩
  rw [← hf]
  have HSm : Hid (f = true → l.length ≤ 20 ∧ ls.length ≤ 20 ∧ ([] : List Ck).length ≤ 20) := fun e => by rw [e] at hf; have := hf.symm; rw [Bool.and_eq_true, Bool.and_eq_true, decide_eq_true_iff, decide_eq_true_iff, decide_eq_true_iff] at this; exact this
  clear hf zt
  cases f
  · skip
    go_wp2_with fail
    go_ret
    exact ⟨rfl, A0.out⟩
  obtain ⟨s1, s2, _⟩ := HSm.out rfl
  have HL := Lib.hid (law_fsafe (l := l) (ls := ls) (bal := bal) (b := base))
  have HTo : Hid (toldF l ls bal = (decide (MayT l) && (mayL ls && mayB bal))) := rfl
  have HMo := Lib.hid (fun vj W h h1 h2 h3 => HH.out.more s (.slice pls nls cls) vb vj l ls bal [base] W h h1 h2 h3 (by omega) Lb.out (by simp; omega))
  have q1 : (moreL l ls bal [base]).length ≤ 100 := Nat.le_trans moreL_max (by simp; omega)
  have HFi := Lib.hid (fun vj W h h1 h2 h3 => HH.out.finals s (.slice pls nls cls) vb vj l ls bal (moreL l ls bal [base]) W h h1 h2 h3 (by omega) Lb.out (by omega) (by omega))
  have q2 := Lib.hid (Nat.le_trans (finals_len (l := l) (ls := ls) (bal := bal)) q1)
  generalize moreL l ls bal [base] = X at *
  have HCh := Lib.hid (fun v W h h3 => HH.out.chain s v l (base :: finalsL l ls bal X) W h h3 (by omega) (by have := q2.out; simp; omega))
  have P1 := Lib.hid (HP.tmay s l)
  have P2 := Lib.hid (HP.lmay (.slice pls nls cls) ls)
  have P3 := Lib.hid (HP.smay vb bal)
  have P4 := Lib.hid (HP.find s l base.root)
  have P5 := Lib.hid (fun W h => HP.guilty (.slice pls nls cls) ls W h (by omega))
  have P6 := Lib.hid (HP.some vb bal (guiltT ls))
  generalize decide (MayT l) = a1 at *
  generalize mayL ls = a2 at *
  generalize mayB bal = a3 at *
  generalize findT l base.root = z at *
  generalize guiltT ls = gm at *
  generalize someS bal gm = sm at *
  generalize finalsL l ls bal X = Y at *
  generalize toldF l ls bal = tld at *
  clear q1 HH HP s1 s2
  obtain ⟨_, zt, _⟩ := tr_cells Mt.out
  go_wp2_with fail
  refine (P1.out _ Kt.out).mono ?_
  rintro e w3 ⟨rfl, g⟩
  replace Mt := Lib.hid (blk_keep g Mt.out)
  replace Mbase := Lib.hid (blk_keep g Mbase.out)
  replace A0 := Lib.hid (belowT A0.out g)
  replace Kt := Lib.hid (slE_keep g Kt.out)
  replace Kls := Lib.hid (slE_keep g Kls.out)
  replace Kb := Lib.hid (slE_keep g Kb.out)
  clear g zt
  cases a1
  · skip
    go_wp2_with fail
    go_ret
    exact ⟨rfl, A0.out⟩
  go_wp2_with fail
  refine (P2.out _ Kls.out).mono ?_
  rintro e w4 ⟨rfl, g⟩
  replace Mt := Lib.hid (blk_keep g Mt.out)
  replace Mbase := Lib.hid (blk_keep g Mbase.out)
  replace A0 := Lib.hid (belowT A0.out g)
  replace Kt := Lib.hid (slE_keep g Kt.out)
  replace Kls := Lib.hid (slE_keep g Kls.out)
  replace Kb := Lib.hid (slE_keep g Kb.out)
  clear g
  cases a2
  · skip
    go_wp2_with fail
    go_ret
    exact ⟨rfl, A0.out⟩
  go_wp2_with fail
  refine (P3.out _ Kb.out).mono ?_
  rintro e w5 ⟨rfl, g⟩
  replace Mt := Lib.hid (blk_keep g Mt.out)
  replace Mbase := Lib.hid (blk_keep g Mbase.out)
  replace A0 := Lib.hid (belowT A0.out g)
  replace Kt := Lib.hid (slE_keep g Kt.out)
  replace Kls := Lib.hid (slE_keep g Kls.out)
  replace Kb := Lib.hid (slE_keep g Kb.out)
  clear g
  cases a3
  · skip
    go_wp2_with fail
    go_ret
    exact ⟨rfl, A0.out⟩
  have hto : tld = true := HTo.out
  subst hto
  obtain ⟨_, zt, _⟩ := tr_cells Mt.out
  have yr := cc_rd0_root Mbase.out
  go_wp2_with fail
  refine (P4.out _ Kt.out).mono ?_
  rintro e w6 ⟨rfl, g⟩
  replace Mt := Lib.hid (blk_keep g Mt.out)
  replace Mbase := Lib.hid (blk_keep g Mbase.out)
  replace A0 := Lib.hid (belowT A0.out g)
  replace Kt := Lib.hid (slE_keep g Kt.out)
  replace Kls := Lib.hid (slE_keep g Kls.out)
  replace Kb := Lib.hid (slE_keep g Kb.out)
  clear g zt yr
  obtain ⟨d, hd⟩ : ∃ d, d = decide (z < 0) := ⟨_, rfl⟩
  have HD := Lib.hid hd
  have hd1 := hd.symm
  clear hd
  cases d
  case true =>
    go_wp2_with fail
    go_ret
    exact ⟨rfl, A0.out⟩
  have hz : 0 ≤ z := by have := of_decide_eq_false hd1; omega
  go_wp2_with fail
  refine (P5.out _ Kls.out).mono ?_
  rintro e w7 ⟨rfl, g⟩
  replace Mt := Lib.hid (blk_keep g Mt.out)
  replace Mbase := Lib.hid (blk_keep g Mbase.out)
  replace A0 := Lib.hid (belowT A0.out g)
  replace Kt := Lib.hid (slE_keep g Kt.out)
  replace Kls := Lib.hid (slE_keep g Kls.out)
  replace Kb := Lib.hid (slE_keep g Kb.out)
  clear g hd1
  go_wp2_with fail
  refine (P6.out _ Kb.out).mono ?_
  rintro e w8 ⟨rfl, g⟩
  replace Mt := Lib.hid (blk_keep g Mt.out)
  replace Mbase := Lib.hid (blk_keep g Mbase.out)
  replace A0 := Lib.hid (belowT A0.out g)
  replace Kt := Lib.hid (slE_keep g Kt.out)
  replace Kls := Lib.hid (slE_keep g Kls.out)
  replace Kb := Lib.hid (slE_keep g Kb.out)
  clear g
  cases sm
  case true =>
    go_wp2_with fail
    go_ret
    exact ⟨rfl, A0.out⟩
  have HLaw := Lib.hid (HL.out (by first | rfl | trivial) (by first | rfl | trivial) hz)
  rw [HLaw.out] at HCh
  clear hz HL HTo HLaw HD P1 P2 P3 P4 P5 P6
  obtain ⟨_, zt, _⟩ := tr_cells Mt.out
  have yb := (ck_v Mbase.out).a
  go_wp2_with fail
  have g0 := below1 (w := w8) (o := .cells (cc base) 32)
  refine (HMo.out _ _ (slE_keep g0 Kt.out) (slE_keep g0 Kls.out) (slE_keep g0 Kb.out) (cc_lit1 w8 base _ rfl)).mono ?_
  rintro e wm ⟨vm, rfl, hm, g⟩
  replace g := belowT g0 g
  replace Mt := Lib.hid (blk_keep g Mt.out)
  replace Mbase := Lib.hid (blk_keep g Mbase.out)
  replace A0 := Lib.hid (belowT A0.out g)
  replace Kt := Lib.hid (slE_keep g Kt.out)
  replace Kls := Lib.hid (slE_keep g Kls.out)
  replace Kb := Lib.hid (slE_keep g Kb.out)
  have Vm := Lib.hid hm
  clear g g0 hm zt yb HMo
  obtain ⟨_, zt, _⟩ := tr_cells Mt.out
  go_wp2_with fail
  refine (HFi.out vm _ Kt.out Kls.out Kb.out Vm.out).mono ?_
  rintro e wf ⟨vf, rfl, hf, g⟩
  replace Mt := Lib.hid (blk_keep g Mt.out)
  replace Mbase := Lib.hid (blk_keep g Mbase.out)
  replace A0 := Lib.hid (belowT A0.out g)
  replace Kt := Lib.hid (slE_keep g Kt.out)
  replace Kls := Lib.hid (slE_keep g Kls.out)
  replace Kb := Lib.hid (slE_keep g Kb.out)
  have Vf := Lib.hid hf
  clear g hf zt Vm HFi
  obtain ⟨_, zt, hlt⟩ := tr_cells Mt.out
  have yb := (ck_v Mbase.out).a
  have hlt2 := (ck_v Mbase.out).g
  go_wp2_with fail
  have hwB : wf.heap.size ≤ wf.drew.heap.size := Nat.le_refl _
  have Q0 := wdB_ld (B := wf.heap.size) zt hlt
  have Q1 := wdB_ld (B := wf.heap.size) yb hlt2
  clear zt hlt yb hlt2
  refine wp_region_G wf.heap.size [] [2, 4, 5] (by kernel_rfl) ?_
  refine GX.take2 0 rfl rfl rfl (by kernel_rfl) (by kernel_rfl) (by kernel_rfl) rfl hwB ?_
  (first | go_big_quiet_step (fail) | quiet_step (fail)); refine wpQuiet_nil ?_
  refine GX.take2 1 rfl rfl rfl (by kernel_rfl) (by kernel_rfl) (by kernel_rfl) rfl hwB ?_
  (first | go_big_quiet_step (fail) | quiet_step (fail)); refine wpQuiet_nil ?_
  refine GX.take2 3 rfl rfl rfl (by kernel_rfl) (by kernel_rfl) (by kernel_rfl) rfl hwB ?_
  (first | go_big_quiet_step (fail) | quiet_step (fail)); refine wpQuiet_nil ?_
  refine GX.branch1 2 (by kernel_rfl) ?_
  refine xOp_eff rfl rfl rfl (.slice (some ⟨wf.heap.size, 0, none⟩) 1 1) (wf.drew.alloc (.cells (cc base) 32)) (by go_simp) (relE_lq below1) ?_
  simp only [Act.put, List.setIfInBounds_toArray, List.set_cons_zero, List.set_cons_succ]
  have D1 : Below wf.heap.size wf (wf.drew.alloc (.cells (cc base) 32)) := belowT (belowD (Below.refl _ _) 1) below1
  have O1 : OwnE Ecc (wf.drew.alloc (.cells (cc base) 32)) wf.heap.size (.slice (some ⟨wf.heap.size, 0, none⟩) 1 1) [base] := cc_own1 wf.drew base wf.heap.size rfl
  refine GX.branch1 4 (by kernel_rfl) ?_
  refine xOp_append KccB rfl rfl rfl (.tmp 65) (.tmp 66) rfl wf.heap.size _ [base] rfl O1 _ Y rfl (slE_keep D1 Vf.out) (by have := q2.out; simp [maxLen]; omega) (by have := q2.out; simp; omega) D1.size (fun w' hb => relE_tail (by kernel_rfl) (hb.mono hwB)) ?_
  intro v7 w7 o7 g7
  simp only [Act.put, List.setIfInBounds_toArray, List.set_cons_zero, List.set_cons_succ]
  have D7 : Below wf.heap.size wf w7 := D1.trans (g7.own O1 D1.size)
  clear O1 D1 g7
  refine GX.branch1 5 (by kernel_rfl) ?_
  refine xOp_call rfl rfl rfl rfl enters_finalChain16 #[.agg (tr ⟨s⟩), v7] rfl ?_
  refine (HCh.out v7 w7 (slE_keep D7 Kt.out) (ownE_slE o7)).mono ?_
  rintro e w9 ⟨rfl, g9⟩
  refine ⟨_, rfl, g9, ?_⟩
  simp only [Act.put, List.setIfInBounds_toArray, List.set_cons_zero, List.set_cons_succ]
  have A9 := Lib.hid (belowT A0.out (belowT D7 g9))
  refine GX.take2 6 rfl rfl rfl (by kernel_rfl) (by kernel_rfl) (by kernel_rfl) rfl hwB ?_
  (first | go_big_quiet_step (fail) | quiet_step (fail)); refine wpQuiet_nil ?_
  refine GX.nil (by kernel_rfl) ?_
  clear Q0 Q1 hwB o7 D7 g9
  go_wp2_with fail
  go_ret
  exact ⟨rfl, A9.out⟩
/-- The law. -/
theorem finalSafeL (H : FinalC) (HP : Beside16) (s : SlV) (l : List Nd) (vls : Value) (ls : List Lk) (vb : Value) (bal : List UInt64) (base : Ck) (w : World) (ht : SlE Ene w (sv s) l) (hls : SlE Elk w vls ls) (hb : SlE Enum w vb bal) (lb : bal.length ≤ 1152921504606846976) :
    Calls Try.prog 4 #[.agg (tr ⟨s⟩), vls, vb, .agg (cc base)] w fun e w' => e = .returned (.bool true) ∧ Below w.heap.size w w' := by
  have kls := hls
  obtain ⟨pls, cls, rfl, _⟩ := slE_shape hls
  exact finalSafe_n H HP s l pls _ cls ls vb bal base w ht kls rfl hb lb
end Go.Proofs.Ytlhnjaeocoafnaa
