/-
  The law SkipTells, walked. (written by wip/gen/law07.py)
-/
import Derived.Test.YtnmljjmaejmlfaaLaw07
import Derived.Test.YtnmljjmaejmlfaaR07Table
import Derived.Test.YtnmljjmaejmlfaaR07Deep
import Derived.Test.YtnmljjmaejmlfaaR07Meet
import Derived.Test.YtnmljjmaejmlfaaR07Same
import Derived.Test.YtnmljjmaejmlfaaR06At
namespace Go.Proofs.Ytnmljjmaejmlfaa
open Go.RowKit

theorem wf_le {n : Int} (h : (Lit.int .i64 n).wf = true) : n ≤ 9223372036854775807 := by
  have h2 := h
  simp [Lit.wf] at h2
  omega
theorem enters_ref07Deep : ∀ args w, (callFunc 16 args).run Try.prog w = .ok (.enter 16 args) w := entersE Try.func16 (by kernel_rfl) (by kernel_rfl)
theorem enters_ref07Meet : ∀ args w, (callFunc 20 args).run Try.prog w = .ok (.enter 20 args) w := entersE Try.func20 (by kernel_rfl) (by kernel_rfl)
theorem enters_refAt07 : ∀ args w, (callFunc 18 args).run Try.prog w = .ok (.enter 18 args) w := entersE Try.func18 (by kernel_rfl) (by kernel_rfl)
theorem tabT_len (l : List Nd) : (tabT l).length ≤ 12 := by
  unfold tabT
  split
  · rename_i h; rw [tabUp_len]; exact h.le
  · simp
set_option maxRecDepth 100000 in
set_option maxHeartbeats 8000000 in
theorem skipTells_many (p : Option Addr) (n cp : Nat) (l : List Nd) (i k m : Int) (q : UInt64) (w : World) (h : SlE Ene w (.slice p n cp) l) (hl : l.length = n) (hb : 20 < n) :
    Calls Try.prog 3 #[.agg (tr ⟨⟨p, n, cp⟩⟩), .int .i64 i, .int .i64 k, .int .i64 m, .int .u64 (q.toNat : Int)] w fun e w' => e = .returned (.bool true) ∧ Below w.heap.size w w' := by
  have V : Hid (Tw w (w.alloc (.cells (tr ⟨⟨p, n, cp⟩⟩) 24)) w.heap.size ⟨p, n, cp⟩ l) := tw_one h
  obtain ⟨W0, hW0⟩ : ∃ W0, W0 = w.alloc (.cells (tr ⟨⟨p, n, cp⟩⟩) 24) := ⟨_, rfl⟩
  rw [← hW0] at V
  have A := V
  have HW := Lib.hid hW0
  have HL := Lib.hid hl
  clear V hW0 h hl
  have t0 : decide ((20 : Int) < (n : Int)) = true := decide_eq_true (by omega)
  have t0' : decide (20 < n) = true := decide_eq_true hb
  clear hb
  go_enter Try.func3, Try.ntmps3
  go_wp2_with fail
  rw [← HW.out]
  refine (awake_any _).mono ?_
  rintro e w1 ⟨rfl, g⟩
  replace A := Lib.hid (A.out.keep g)
  clear g
  have z1 := A.out.z1
  have z0 := A.out.z0
  rw [sv_mk] at z0
  go_wp2_with fail
  go_ret
  exact ⟨rfl, A.out.g⟩
set_option maxRecDepth 100000 in
set_option maxHeartbeats 8000000 in
theorem skipTells_few (p : Option Addr) (n cp : Nat) (l : List Nd) (i k m : Int) (q : UInt64) (w : World) (h : SlE Ene w (.slice p n cp) l) (hl : l.length = n) (hb : n ≤ 20) (hm : m ≤ 9223372036854775807) :
    Calls Try.prog 3 #[.agg (tr ⟨⟨p, n, cp⟩⟩), .int .i64 i, .int .i64 k, .int .i64 m, .int .u64 (q.toNat : Int)] w fun e w' => e = .returned (.bool true) ∧ Below w.heap.size w w' := by
  have HTb := Lib.hid (fun W (g : SlE Ene W (.slice p n cp) l) => skipTable ⟨p, n, cp⟩ l  W g)
  have HRTb := Lib.hid (fun W (g : SlE Ene W (.slice p n cp) l) => ref07Table ⟨p, n, cp⟩ l W g (by omega))
  have HU := Lib.hid (fun W (g : SlE Ene W (.slice p n cp) l) => skipUp ⟨p, n, cp⟩ l i m W g)
  have HRU := Lib.hid (fun W (g : SlE Ene W (.slice p n cp) l) => ref07Up ⟨p, n, cp⟩ l i m W g (by omega) hm)
  have HD := Lib.hid (fun W (g : SlE Ene W (.slice p n cp) l) => skipDeep ⟨p, n, cp⟩ l i W g)
  have HRD := Lib.hid (fun W (g : SlE Ene W (.slice p n cp) l) => ref07Deep ⟨p, n, cp⟩ l i W g (by omega))
  have HA := Lib.hid (fun W (g : SlE Ene W (.slice p n cp) l) => skipAt ⟨p, n, cp⟩ l i q W g)
  have HRA := Lib.hid (fun W (g : SlE Ene W (.slice p n cp) l) => refAt ⟨p, n, cp⟩ l i q W g (by omega))
  have HM := Lib.hid (fun W (g : SlE Ene W (.slice p n cp) l) => skipMeet ⟨p, n, cp⟩ l i k W g)
  have HRM := Lib.hid (fun W (g : SlE Ene W (.slice p n cp) l) => ref07Meet ⟨p, n, cp⟩ l i k W g (by omega))
  have KT : Hid ((tabT l).length ≤ 1000) := by show _ ≤ _; have := tabT_len l; omega
  unfold TabIs at HTb
  generalize tabT l = LT at *
  generalize upZ l i m = ru at *
  generalize deepZ l i = rd at *
  generalize atZ l i q.toNat = ra at *
  generalize meetZ l i k = rm at *
  have V : Hid (Tw w (w.alloc (.cells (tr ⟨⟨p, n, cp⟩⟩) 24)) w.heap.size ⟨p, n, cp⟩ l) := tw_one h
  obtain ⟨W0, hW0⟩ : ∃ W0, W0 = w.alloc (.cells (tr ⟨⟨p, n, cp⟩⟩) 24) := ⟨_, rfl⟩
  rw [← hW0] at V
  have A := V
  have HW := Lib.hid hW0
  have HL := Lib.hid hl
  clear V hW0 h hl
  have t0 : decide ((20 : Int) < (n : Int)) = false := decide_eq_false (by omega)
  have t0' : decide (20 < n) = false := decide_eq_false (by omega)
  clear hb hm
  go_enter Try.func3, Try.ntmps3
  go_wp2_with fail
  rw [← HW.out]
  refine (awake_any _).mono ?_
  rintro e w1 ⟨rfl, g⟩
  replace A := Lib.hid (A.out.keep g)
  clear g
  have z1 := A.out.z1
  have z0 := A.out.z0
  rw [sv_mk] at z0
  go_wp2_with fail
  have L0 := fun p : Wd w1.drew => wd_tr A.out.box p
  refine wp_region_lex [1, 3, 4] (by kernel_rfl) (by kernel_rfl) (by kernel_rfl) ?_
  repeat (first | (refine wpXL_quiet rfl rfl _ cls_begin ?_; (first | go_big_quiet_step (fail) | quiet_step (fail)); refine wpQuiet_nil ?_) | refine wpXL_skip rfl ?_)
  refine wpXL_call rfl rfl rfl enters_skipTable #[.agg (tr ⟨⟨p, n, cp⟩⟩)] rfl ?_
  refine (HTb.out _ (slE_keep (belowD (Below.refl _ _) 1) A.out.s)).mono ?_
  rintro e u ⟨vc, rfl, hs, g⟩
  refine ⟨_, rfl, g, ?_⟩
  simp only [Act.put, List.setIfInBounds_toArray, List.set_cons_zero, List.set_cons_succ]
  have G : Hid (Below w1.heap.size w1 u) := belowT (belowD (Below.refl _ _) 1) g
  have SC := Lib.hid (ownE_slE hs)
  clear hs
  clear g
  repeat (first | (refine wpXL_quiet rfl rfl _ cls_begin ?_; (first | go_big_quiet_step (fail) | quiet_step (fail)); refine wpQuiet_nil ?_) | refine wpXL_skip rfl ?_)
  refine wpXL_call rfl rfl rfl enters_ref07Table #[.agg (tr ⟨⟨p, n, cp⟩⟩)] rfl ?_
  refine (HRTb.out _ (slE_keep G.out A.out.s)).mono ?_
  rintro e u ⟨vd, rfl, hs, g⟩
  refine ⟨_, rfl, g, ?_⟩
  simp only [Act.put, List.setIfInBounds_toArray, List.set_cons_zero, List.set_cons_succ]
  replace G : Hid (Below w1.heap.size w1 u) := belowT G.out g
  have SD := Lib.hid (ownE_slE hs)
  replace SC := Lib.hid (slE_keep g SC.out)
  clear hs
  clear g
  repeat (first | (refine wpXL_quiet rfl rfl _ cls_begin ?_; (first | go_big_quiet_step (fail) | quiet_step (fail)); refine wpQuiet_nil ?_) | refine wpXL_skip rfl ?_)
  have hsm := ref07Same vc vd LT LT _ SC.out SD.out KT.out
  rw [decide_eq_true rfl] at hsm
  refine wpXL_call rfl rfl rfl enters_ref07Same #[vc, vd] rfl ?_
  refine (hsm).mono ?_
  rintro e u ⟨rfl, g⟩
  refine ⟨_, rfl, g, ?_⟩
  simp only [Act.put, List.setIfInBounds_toArray, List.set_cons_zero, List.set_cons_succ]
  replace G : Hid (Below w1.heap.size w1 u) := belowT G.out g
  clear hsm
  clear g
  repeat (first | (refine wpXL_quiet rfl rfl _ cls_begin ?_; (first | go_big_quiet_step (fail) | quiet_step (fail)); refine wpQuiet_nil ?_) | refine wpXL_skip rfl ?_)
  clear SC SD
  refine wpXL_nil ?_
  clear L0
  replace A := Lib.hid (A.out.keep G.out)
  clear G
  obtain ⟨w2, rfl⟩ : ∃ W : World, W = u := ⟨_, rfl⟩
  replace z1 := A.out.z1
  replace z0 := A.out.z0
  rw [sv_mk] at z0
  go_wp2_with fail
  have L0 := fun p : Wd w2.drew => wd_tr A.out.box p
  refine wp_region_lex [5, 9, 12, 15, 18, 21, 25, 29, 32, 36, 40] (by kernel_rfl) (by kernel_rfl) (by kernel_rfl) ?_
  repeat (first | (refine wpXL_quiet rfl rfl _ cls_begin ?_; (first | go_big_quiet_step (fail) | quiet_step (fail)); refine wpQuiet_nil ?_) | refine wpXL_skip rfl ?_)
  refine wpXL_call rfl rfl rfl enters_skipUp #[.agg (tr ⟨⟨p, n, cp⟩⟩), .int .i64 i, .int .i64 m] rfl ?_
  refine (HU.out _ (slE_keep (belowD (Below.refl _ _) 1) A.out.s)).mono ?_
  rintro e u ⟨rfl, g⟩
  refine ⟨_, rfl, g, ?_⟩
  simp only [Act.put, List.setIfInBounds_toArray, List.set_cons_zero, List.set_cons_succ]
  have G : Hid (Below w2.heap.size w2 u) := belowT (belowD (Below.refl _ _) 1) g
  clear g
  repeat (first | (refine wpXL_quiet rfl rfl _ cls_begin ?_; (first | go_big_quiet_step (fail) | quiet_step (fail)); refine wpQuiet_nil ?_) | refine wpXL_skip rfl ?_)
  refine wpXL_call rfl rfl rfl enters_ref07Up #[.agg (tr ⟨⟨p, n, cp⟩⟩), .int .i64 i, .int .i64 m] rfl ?_
  refine (HRU.out _ (slE_keep G.out A.out.s)).mono ?_
  rintro e u ⟨rfl, g⟩
  refine ⟨_, rfl, g, ?_⟩
  simp only [Act.put, List.setIfInBounds_toArray, List.set_cons_zero, List.set_cons_succ]
  replace G : Hid (Below w2.heap.size w2 u) := belowT G.out g
  clear g
  repeat (first | (refine wpXL_quiet rfl rfl _ cls_begin ?_; (first | go_big_quiet_step (fail) | quiet_step (fail)); refine wpQuiet_nil ?_) | refine wpXL_skip rfl ?_)
  refine wpXL_eff rfl rfl (.bool true) _ rfl (Below.refl _ _) ?_
  simp only [Act.put, List.setIfInBounds_toArray, List.set_cons_zero, List.set_cons_succ]
  repeat (first | (refine wpXL_quiet rfl rfl _ cls_begin ?_; (first | go_big_quiet_step (fail) | quiet_step (fail)); refine wpQuiet_nil ?_) | refine wpXL_skip rfl ?_)
  refine wpXL_call rfl rfl rfl enters_skipDeep #[.agg (tr ⟨⟨p, n, cp⟩⟩), .int .i64 i] rfl ?_
  refine (HD.out _ (slE_keep G.out A.out.s)).mono ?_
  rintro e u ⟨rfl, g⟩
  refine ⟨_, rfl, g, ?_⟩
  simp only [Act.put, List.setIfInBounds_toArray, List.set_cons_zero, List.set_cons_succ]
  replace G : Hid (Below w2.heap.size w2 u) := belowT G.out g
  clear g
  repeat (first | (refine wpXL_quiet rfl rfl _ cls_begin ?_; (first | go_big_quiet_step (fail) | quiet_step (fail)); refine wpQuiet_nil ?_) | refine wpXL_skip rfl ?_)
  refine wpXL_call rfl rfl rfl enters_ref07Deep #[.agg (tr ⟨⟨p, n, cp⟩⟩), .int .i64 i] rfl ?_
  refine (HRD.out _ (slE_keep G.out A.out.s)).mono ?_
  rintro e u ⟨rfl, g⟩
  refine ⟨_, rfl, g, ?_⟩
  simp only [Act.put, List.setIfInBounds_toArray, List.set_cons_zero, List.set_cons_succ]
  replace G : Hid (Below w2.heap.size w2 u) := belowT G.out g
  clear g
  repeat (first | (refine wpXL_quiet rfl rfl _ cls_begin ?_; (first | go_big_quiet_step (fail) | quiet_step (fail)); refine wpQuiet_nil ?_) | refine wpXL_skip rfl ?_)
  refine wpXL_eff rfl rfl (.bool true) _ rfl (Below.refl _ _) ?_
  simp only [Act.put, List.setIfInBounds_toArray, List.set_cons_zero, List.set_cons_succ]
  repeat (first | (refine wpXL_quiet rfl rfl _ cls_begin ?_; (first | go_big_quiet_step (fail) | quiet_step (fail)); refine wpQuiet_nil ?_) | refine wpXL_skip rfl ?_)
  refine wpXL_call rfl rfl rfl enters_skipAt #[.agg (tr ⟨⟨p, n, cp⟩⟩), .int .i64 i, .int .u64 (q.toNat : Int)] rfl ?_
  refine (HA.out _ (slE_keep G.out A.out.s)).mono ?_
  rintro e u ⟨rfl, g⟩
  refine ⟨_, rfl, g, ?_⟩
  simp only [Act.put, List.setIfInBounds_toArray, List.set_cons_zero, List.set_cons_succ]
  replace G : Hid (Below w2.heap.size w2 u) := belowT G.out g
  clear g
  repeat (first | (refine wpXL_quiet rfl rfl _ cls_begin ?_; (first | go_big_quiet_step (fail) | quiet_step (fail)); refine wpQuiet_nil ?_) | refine wpXL_skip rfl ?_)
  refine wpXL_call rfl rfl rfl enters_refAt07 #[.agg (tr ⟨⟨p, n, cp⟩⟩), .int .i64 i, .int .u64 (q.toNat : Int)] rfl ?_
  refine (HRA.out _ (slE_keep G.out A.out.s)).mono ?_
  rintro e u ⟨rfl, g⟩
  refine ⟨_, rfl, g, ?_⟩
  simp only [Act.put, List.setIfInBounds_toArray, List.set_cons_zero, List.set_cons_succ]
  replace G : Hid (Below w2.heap.size w2 u) := belowT G.out g
  clear g
  repeat (first | (refine wpXL_quiet rfl rfl _ cls_begin ?_; (first | go_big_quiet_step (fail) | quiet_step (fail)); refine wpQuiet_nil ?_) | refine wpXL_skip rfl ?_)
  refine wpXL_eff rfl rfl (.bool true) _ rfl (Below.refl _ _) ?_
  simp only [Act.put, List.setIfInBounds_toArray, List.set_cons_zero, List.set_cons_succ]
  repeat (first | (refine wpXL_quiet rfl rfl _ cls_begin ?_; (first | go_big_quiet_step (fail) | quiet_step (fail)); refine wpQuiet_nil ?_) | refine wpXL_skip rfl ?_)
  refine wpXL_call rfl rfl rfl enters_skipMeet #[.agg (tr ⟨⟨p, n, cp⟩⟩), .int .i64 i, .int .i64 k] rfl ?_
  refine (HM.out _ (slE_keep G.out A.out.s)).mono ?_
  rintro e u ⟨rfl, g⟩
  refine ⟨_, rfl, g, ?_⟩
  simp only [Act.put, List.setIfInBounds_toArray, List.set_cons_zero, List.set_cons_succ]
  replace G : Hid (Below w2.heap.size w2 u) := belowT G.out g
  clear g
  repeat (first | (refine wpXL_quiet rfl rfl _ cls_begin ?_; (first | go_big_quiet_step (fail) | quiet_step (fail)); refine wpQuiet_nil ?_) | refine wpXL_skip rfl ?_)
  refine wpXL_call rfl rfl rfl enters_ref07Meet #[.agg (tr ⟨⟨p, n, cp⟩⟩), .int .i64 i, .int .i64 k] rfl ?_
  refine (HRM.out _ (slE_keep G.out A.out.s)).mono ?_
  rintro e u ⟨rfl, g⟩
  refine ⟨_, rfl, g, ?_⟩
  simp only [Act.put, List.setIfInBounds_toArray, List.set_cons_zero, List.set_cons_succ]
  replace G : Hid (Below w2.heap.size w2 u) := belowT G.out g
  clear g
  repeat (first | (refine wpXL_quiet rfl rfl _ cls_begin ?_; (first | go_big_quiet_step (fail) | quiet_step (fail)); refine wpQuiet_nil ?_) | refine wpXL_skip rfl ?_)
  refine wpXL_nil ?_
  clear L0
  replace A := Lib.hid (A.out.keep G.out)
  clear G
  obtain ⟨w3, rfl⟩ : ∃ W : World, W = u := ⟨_, rfl⟩
  replace z1 := A.out.z1
  replace z0 := A.out.z0
  rw [sv_mk] at z0
  go_wp2_with fail
  go_ret
  exact ⟨rfl, A.out.g⟩
/-- The law. -/
theorem skipTellsL (s : Tr) (l : List Nd) (i k m : Int) (q : UInt64) (w : World) (h : SlE Ene w (sv s.n) l) (_ : (Lit.int .i64 i).wf = true) (_ : (Lit.int .i64 k).wf = true) (hm : (Lit.int .i64 m).wf = true) :
    Calls Try.prog 3 #[.agg (tr s), .int .i64 i, .int .i64 k, .int .i64 m, .int .u64 (q.toNat : Int)] w fun e w' => e = .returned (.bool true) ∧ Below w.heap.size w w' := by
  obtain ⟨s⟩ := s
  have hn := sv_lenN h
  obtain ⟨p, n, cp⟩ := s
  by_cases hb : 20 < n
  · exact skipTells_many p n cp l i k m q w h hn hb
  · exact skipTells_few p n cp l i k m q w h hn (by omega) (wf_le hm)
end Go.Proofs.Ytnmljjmaejmlfaa
