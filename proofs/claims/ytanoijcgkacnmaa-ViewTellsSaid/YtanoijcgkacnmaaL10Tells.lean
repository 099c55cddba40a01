/-
  The law ViewTells, walked. (written by wip/gen/law10.py)
-/
import Derived.Test.YtanoijcgkacnmaaW10
namespace Go.Proofs.Ytanoijcgkacnmaa
open Go.RowKit

set_option maxRecDepth 100000 in
set_option maxHeartbeats 8000000 in
theorem viewTells_n (HLs : LeadsC) (HLf : LeafC) (HFr : FromC) (p : Option Addr) (n cp : Nat) (l : List Nd) (j : Nat) (f : Int) (i : Int) (r : Rt) (w : World) (h : SlE Ene w (.slice p n cp) l) (hl : l.length = n) (bj : j < 18446744073709551616) :
    Calls Try.prog 3 #[.agg (tr ⟨⟨p, n, cp⟩⟩), .int .u64 (j : Int), .int .i64 f, .int .i64 i, .agg (rc r)] w fun e w' => e = .returned (.bool true) ∧ Below w.heap.size w w' := by
  obtain ⟨W0, hW0⟩ : ∃ W0, W0 = (w.alloc (.cells (tr ⟨⟨p, n, cp⟩⟩) 24)).alloc (.cells (rc r) 27) := ⟨_, rfl⟩
  have A : Hid (Tw w W0 w.heap.size ⟨p, n, cp⟩ l) := by rw [hW0]; exact (tw_one h).keep below1
  have R0 : Hid (ldA W0 (.pointer (some ⟨w.heap.size + 1, 0, none⟩)) 32 = some (rc r)) := by
    rw [hW0]
    have := ldA_block (heap_alloc_last (w.alloc (.cells (tr ⟨⟨p, n, cp⟩⟩) 24)) (.cells (rc r) 27 (0, 0))) (rc_size r)
    show ldA _ _ _ = _
    simpa using this
  have HW := Lib.hid hW0
  have HL := Lib.hid hl
  have HAw := Lib.hid (fun W => awake_any10 HLs HLf HFr W)
  have HLs := Lib.hid HLs
  have HLf := Lib.hid HLf
  have HFr := Lib.hid HFr
  have Bj := Lib.hid bj
  clear bj
  clear hW0 h hl
  go_enter Try.func3, Try.ntmps3
  go_wp2_with fail
  rw [← HW.out]
  refine (HAw.out _).mono ?_
  rintro e w1 ⟨rfl, g⟩
  replace A := Lib.hid (A.out.keep g)
  replace R0 := Lib.hid (keep g R0.out)
  clear g
  have z1 := A.out.z1
  have z0 := A.out.z0
  rw [sv_mk] at z0
  have zr := R0.out
  by_cases h20 : 20 < n
  · have h20i : decide ((20 : Int) < (n : Int)) = true := decide_eq_true (by omega)
    have h20i' : decide (20 < n) = true := decide_eq_true (by omega)
    clear h20
    go_wp2_with fail
    go_ret
    exact ⟨rfl, A.out.g⟩
  have h20i : decide ((20 : Int) < (n : Int)) = false := decide_eq_false (by omega)
  have h20i' : decide (20 < n) = false := decide_eq_false (by omega)
  have hl20 : l.length ≤ 1000 := by have := HL.out; omega
  have HA := Lib.hid (fun W (g : SlE Ene W (.slice p n cp) l) => HLs.out ⟨p, n, cp⟩ l j f W Bj.out g)
  have HB := Lib.hid (fun W (g : SlE Ene W (.slice p n cp) l) => (ref10Leads ⟨p, n, cp⟩ l j f W g hl20).mono fun _ _ h => h.list)
  have HC := Lib.hid (fun W (g : SlE Ene W (.slice p n cp) l) => HLf.out ⟨p, n, cp⟩ l j f i W Bj.out hl20 g)
  have HD := Lib.hid (fun W (g : SlE Ene W (.slice p n cp) l) => ref10Leaf ⟨p, n, cp⟩ l j f i W g hl20)
  have HE := Lib.hid (fun W (g : SlE Ene W (.slice p n cp) l) => HFr.out ⟨p, n, cp⟩ l r f W g)
  have HF := Lib.hid (fun W (g : SlE Ene W (.slice p n cp) l) => ref10From ⟨p, n, cp⟩ l r f W g hl20)
  have K1 : Hid ((leadsT l j f).length ≤ 1000) := by show _ ≤ _; by_cases hm : MayT l; (· rw [leads_yes hm, boosT_len]; exact hl20); (· rw [leads_no hm]; simp)
  generalize leadsT l j f = LL at *
  generalize leafT l j f i = lf at *
  generalize fromT l r f = fr at *
  clear hl20 h20
  go_wp2_with fail
  have L0 := fun p : Wd w1.drew => wd_tr A.out.box p
  refine wp_region_lex [3, 7, 8] (by kernel_rfl) (by kernel_rfl) (by kernel_rfl) ?_
  repeat (first | (refine wpXL_quiet rfl rfl _ cls_begin ?_; (first | go_big_quiet_step (fail) | quiet_step (fail)); refine wpQuiet_nil ?_) | refine wpXL_skip rfl ?_)
  refine wpXL_call rfl rfl rfl enters_viewLeads #[.agg (tr ⟨⟨p, n, cp⟩⟩), .int .u64 (j : Int), .int .i64 f] rfl ?_
  refine (HA.out _ (slE_keep (belowD (Below.refl _ _) 1) A.out.s)).mono ?_
  rintro e u ⟨vc, rfl, hs, g⟩
  refine ⟨_, rfl, g, ?_⟩
  simp only [Act.put, List.setIfInBounds_toArray, List.set_cons_zero, List.set_cons_succ]
  have G : Hid (Below w1.heap.size w1 u) := belowT (belowD (Below.refl _ _) 1) g
  have SC := Lib.hid hs
  clear hs
  clear g
  repeat (first | (refine wpXL_quiet rfl rfl _ cls_begin ?_; (first | go_big_quiet_step (fail) | quiet_step (fail)); refine wpQuiet_nil ?_) | refine wpXL_skip rfl ?_)
  refine wpXL_call rfl rfl rfl enters_ref10Leads #[.agg (tr ⟨⟨p, n, cp⟩⟩), .int .u64 (j : Int), .int .i64 f] rfl ?_
  refine (HB.out _ (slE_keep G.out A.out.s)).mono ?_
  rintro e u ⟨vd, rfl, hs, g⟩
  refine ⟨_, rfl, g, ?_⟩
  simp only [Act.put, List.setIfInBounds_toArray, List.set_cons_zero, List.set_cons_succ]
  replace G : Hid (Below w1.heap.size w1 u) := belowT G.out g
  have SD := Lib.hid hs
  replace SC := Lib.hid (slE_keep g SC.out)
  clear hs
  clear g
  repeat (first | (refine wpXL_quiet rfl rfl _ cls_begin ?_; (first | go_big_quiet_step (fail) | quiet_step (fail)); refine wpQuiet_nil ?_) | refine wpXL_skip rfl ?_)
  have hsm := ref10Bools vc vd LL LL _ SC.out SD.out K1.out
  rw [decide_eq_true rfl] at hsm
  refine wpXL_call rfl rfl rfl enters_ref10Bools #[vc, vd] rfl ?_
  refine (hsm).mono ?_
  rintro e u ⟨rfl, g⟩
  refine ⟨_, rfl, g, ?_⟩
  simp only [Act.put, List.setIfInBounds_toArray, List.set_cons_zero, List.set_cons_succ]
  replace G : Hid (Below w1.heap.size w1 u) := belowT G.out g
  clear hsm
  clear g
  repeat (first | (refine wpXL_quiet rfl rfl _ cls_begin ?_; (first | go_big_quiet_step (fail) | quiet_step (fail)); refine wpQuiet_nil ?_) | refine wpXL_skip rfl ?_)
  clear SC SD
  refine wpXL_nil ?_
  clear L0
  replace A := Lib.hid (A.out.keep G.out)
  replace R0 := Lib.hid (keep G.out R0.out)
  clear G
  obtain ⟨w2, rfl⟩ : ∃ W : World, W = u := ⟨_, rfl⟩
  replace z1 := A.out.z1
  replace z0 := A.out.z0
  rw [sv_mk] at z0
  replace zr := R0.out
  go_wp2_with fail
  refine (HD.out _ A.out.s).mono ?_
  rintro e w3 ⟨rfl, g⟩
  replace A := Lib.hid (A.out.keep g)
  replace R0 := Lib.hid (keep g R0.out)
  clear g
  replace z1 := A.out.z1
  replace z0 := A.out.z0
  rw [sv_mk] at z0
  replace zr := R0.out
  go_wp2_with fail
  have L0 := fun p : Wd w3.drew => wd_tr A.out.box p
  have L1 := fun p : Wd w3.drew => wd_ld zr (by decide) p
  refine wp_region_lex [6, 10, 14, 18] (by kernel_rfl) (by kernel_rfl) (by kernel_rfl) ?_
  repeat (first | (refine wpXL_quiet rfl rfl _ cls_begin ?_; (first | go_big_quiet_step (fail) | quiet_step (fail)); refine wpQuiet_nil ?_) | refine wpXL_skip rfl ?_)
  refine wpXL_call rfl rfl rfl enters_viewLeaf #[.agg (tr ⟨⟨p, n, cp⟩⟩), .int .u64 (j : Int), .int .i64 f, .int .i64 i] rfl ?_
  refine (HC.out _ (slE_keep (belowD (Below.refl _ _) 1) A.out.s)).mono ?_
  rintro e u ⟨rfl, g⟩
  refine ⟨_, rfl, g, ?_⟩
  simp only [Act.put, List.setIfInBounds_toArray, List.set_cons_zero, List.set_cons_succ]
  have G : Hid (Below w3.heap.size w3 u) := belowT (belowD (Below.refl _ _) 1) g
  clear g
  repeat (first | (refine wpXL_quiet rfl rfl _ cls_begin ?_; (first | go_big_quiet_step (fail) | quiet_step (fail)); refine wpQuiet_nil ?_) | refine wpXL_skip rfl ?_)
  refine wpXL_eff rfl rfl (.bool true) _ rfl (Below.refl _ _) ?_
  simp only [Act.put, List.setIfInBounds_toArray, List.set_cons_zero, List.set_cons_succ]
  repeat (first | (refine wpXL_quiet rfl rfl _ cls_begin ?_; (first | go_big_quiet_step (fail) | quiet_step (fail)); refine wpQuiet_nil ?_) | refine wpXL_skip rfl ?_)
  refine wpXL_call rfl rfl rfl enters_viewFrom #[.agg (tr ⟨⟨p, n, cp⟩⟩), .agg (rc r), .int .i64 f] rfl ?_
  refine (HE.out _ (slE_keep G.out A.out.s)).mono ?_
  rintro e u ⟨rfl, g⟩
  refine ⟨_, rfl, g, ?_⟩
  simp only [Act.put, List.setIfInBounds_toArray, List.set_cons_zero, List.set_cons_succ]
  replace G : Hid (Below w3.heap.size w3 u) := belowT G.out g
  clear g
  repeat (first | (refine wpXL_quiet rfl rfl _ cls_begin ?_; (first | go_big_quiet_step (fail) | quiet_step (fail)); refine wpQuiet_nil ?_) | refine wpXL_skip rfl ?_)
  refine wpXL_call rfl rfl rfl enters_ref10From #[.agg (tr ⟨⟨p, n, cp⟩⟩), .agg (rc r), .int .i64 f] rfl ?_
  refine (HF.out _ (slE_keep G.out A.out.s)).mono ?_
  rintro e u ⟨rfl, g⟩
  refine ⟨_, rfl, g, ?_⟩
  simp only [Act.put, List.setIfInBounds_toArray, List.set_cons_zero, List.set_cons_succ]
  replace G : Hid (Below w3.heap.size w3 u) := belowT G.out g
  clear g
  repeat (first | (refine wpXL_quiet rfl rfl _ cls_begin ?_; (first | go_big_quiet_step (fail) | quiet_step (fail)); refine wpQuiet_nil ?_) | refine wpXL_skip rfl ?_)
  refine wpXL_nil ?_
  clear L0 L1
  replace A := Lib.hid (A.out.keep G.out)
  replace R0 := Lib.hid (keep G.out R0.out)
  clear G
  obtain ⟨w4, rfl⟩ : ∃ W : World, W = u := ⟨_, rfl⟩
  replace z1 := A.out.z1
  replace z0 := A.out.z0
  rw [sv_mk] at z0
  go_wp2_with fail
  go_ret
  exact ⟨rfl, A.out.g⟩
/-- The law. -/
theorem viewTellsL (HLs : LeadsC) (HLf : LeafC) (HFr : FromC) (s : Tr) (l : List Nd) (j : UInt64) (f : Int) (i : Int) (r : Rt) (w : World) (h : SlE Ene w (sv s.n) l) :
    Calls Try.prog 3 #[.agg (tr s), .int .u64 (j.toNat : Int), .int .i64 f, .int .i64 i, .agg (rc r)] w fun e w' => e = .returned (.bool true) ∧ Below w.heap.size w w' := by
  obtain ⟨s⟩ := s
  have hn := sv_lenN h
  obtain ⟨p, n, cp⟩ := s
  exact viewTells_n HLs HLf HFr p n cp l j.toNat f i r w h hn j.toNat_lt
end Go.Proofs.Ytanoijcgkacnmaa
