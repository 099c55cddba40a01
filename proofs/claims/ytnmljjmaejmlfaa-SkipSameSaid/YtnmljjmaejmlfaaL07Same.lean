/-
  The law SkipSame, walked. (written by wip/gen/law07.py)
-/
import Derived.Test.YtnmljjmaejmlfaaLaw07
namespace Go.Proofs.Ytnmljjmaejmlfaa
open Go.RowKit

set_option maxRecDepth 100000 in
set_option maxHeartbeats 8000000 in
theorem skipSame_n (p : Option Addr) (n cp : Nat) (l : List Nd) (i : Int) (q : UInt64) (w : World) (h : SlE Ene w (.slice p n cp) l) (hl : l.length = n) :
    Calls Try.prog 4 #[.agg (tr ⟨⟨p, n, cp⟩⟩), .int .i64 i, .int .u64 (q.toNat : Int)] w fun e w' => e = .returned (.bool true) ∧ Below w.heap.size w w' := by
  have HA := Lib.hid (fun W (g : SlE Ene W (.slice p n cp) l) => skipAt ⟨p, n, cp⟩ l i q W g)
  have HT := Lib.hid (fun W (g : SlE Ene W (.slice p n cp) l) => treeAt ⟨p, n, cp⟩ l i q W g)
  generalize atZ l i q.toNat = r at *
  have V : Hid (Tw w (w.alloc (.cells (tr ⟨⟨p, n, cp⟩⟩) 24)) w.heap.size ⟨p, n, cp⟩ l) := tw_one h
  obtain ⟨W0, hW0⟩ : ∃ W0, W0 = w.alloc (.cells (tr ⟨⟨p, n, cp⟩⟩) 24) := ⟨_, rfl⟩
  rw [← hW0] at V
  have A := V
  have HW := Lib.hid hW0
  have HL := Lib.hid hl
  clear V hW0 h hl
  go_enter Try.func4, Try.ntmps4
  go_wp2_with fail
  rw [← HW.out]
  refine (awake_any _).mono ?_
  rintro e w1 ⟨rfl, g⟩
  replace A := Lib.hid (A.out.keep g)
  clear g
  have z1 := A.out.z1
  have z0 := A.out.z0
  rw [sv_mk] at z0
  by_cases h20 : 20 < n
  · have h20i : decide ((20 : Int) < (n : Int)) = true := decide_eq_true (by omega)
    have h20i' : decide (20 < n) = true := decide_eq_true (by omega)
    clear h20
    go_wp2_with fail
    go_ret
    exact ⟨rfl, A.out.g⟩
  have h20i : decide ((20 : Int) < (n : Int)) = false := decide_eq_false (by omega)
  have h20i' : decide (20 < n) = false := decide_eq_false (by omega)
  clear h20
  go_wp2_with fail
  have L0 := fun p : Wd w1.drew => wd_tr A.out.box p
  refine wp_region_lex [3, 7] (by kernel_rfl) (by kernel_rfl) (by kernel_rfl) ?_
  repeat (first | (refine wpXL_quiet rfl rfl _ cls_begin ?_; (first | go_big_quiet_step (fail) | quiet_step (fail)); refine wpQuiet_nil ?_) | refine wpXL_skip rfl ?_)
  refine wpXL_call rfl rfl rfl enters_skipAt #[.agg (tr ⟨⟨p, n, cp⟩⟩), .int .i64 i, .int .u64 (q.toNat : Int)] rfl ?_
  refine (HA.out _ (slE_keep (belowD (Below.refl _ _) 1) A.out.s)).mono ?_
  rintro e u ⟨rfl, g⟩
  refine ⟨_, rfl, g, ?_⟩
  simp only [Act.put, List.setIfInBounds_toArray, List.set_cons_zero, List.set_cons_succ]
  have G : Hid (Below w1.heap.size w1 u) := belowT (belowD (Below.refl _ _) 1) g
  clear g
  repeat (first | (refine wpXL_quiet rfl rfl _ cls_begin ?_; (first | go_big_quiet_step (fail) | quiet_step (fail)); refine wpQuiet_nil ?_) | refine wpXL_skip rfl ?_)
  refine wpXL_call rfl rfl rfl enters_treeAt07 #[.agg (tr ⟨⟨p, n, cp⟩⟩), .int .i64 i, .int .u64 (q.toNat : Int)] rfl ?_
  refine (HT.out _ (slE_keep G.out A.out.s)).mono ?_
  rintro e u ⟨rfl, g⟩
  refine ⟨_, rfl, g, ?_⟩
  simp only [Act.put, List.setIfInBounds_toArray, List.set_cons_zero, List.set_cons_succ]
  replace G : Hid (Below w1.heap.size w1 u) := belowT G.out g
  clear g
  repeat (first | (refine wpXL_quiet rfl rfl _ cls_begin ?_; (first | go_big_quiet_step (fail) | quiet_step (fail)); refine wpQuiet_nil ?_) | refine wpXL_skip rfl ?_)
  refine wpXL_nil ?_
  clear L0
  replace A := Lib.hid (A.out.keep G.out)
  clear G
  obtain ⟨w2, rfl⟩ : ∃ W : World, W = u := ⟨_, rfl⟩
  replace z1 := A.out.z1
  replace z0 := A.out.z0
  rw [sv_mk] at z0
  go_wp2_with fail
  go_ret
  exact ⟨rfl, A.out.g⟩
/-- The law. -/
theorem skipSameL (s : Tr) (l : List Nd) (i : Int) (q : UInt64) (w : World) (h : SlE Ene w (sv s.n) l) :
    Calls Try.prog 4 #[.agg (tr s), .int .i64 i, .int .u64 (q.toNat : Int)] w fun e w' => e = .returned (.bool true) ∧ Below w.heap.size w w' := by
  obtain ⟨s⟩ := s
  have hn := sv_lenN h
  obtain ⟨p, n, cp⟩ := s
  exact skipSame_n p n cp l i q w h hn
end Go.Proofs.Ytnmljjmaejmlfaa
