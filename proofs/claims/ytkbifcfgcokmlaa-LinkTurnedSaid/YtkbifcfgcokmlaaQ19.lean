/-
  What is asked of package link's functions (contracts, by name); the laws' own example. (written by wip/gen/law15.py)
-/
import Derived.Test.YtkbifcfgcokmlaaQ16
import Derived.Test.YtkbifcfgcokmlaaQ17
import Derived.Test.YtkbifcfgcokmlaaQ18
import Derived.Deep.Cut
import Derived.Deep.CutRange
import Derived.Deep.RegionLaw
namespace Go.Proofs.Ytkbifcfgcokmlaa
open Go.RowKit
set_option maxRecDepth 100000

structure LinkC : Prop where
  may : ∀ (v : Value) (l : List Lk) (w : World), SlE Elk w v l → Calls Try.prog 16 #[v] w fun e w' => e = .returned (.bool (mayL l)) ∧ Below w.heap.size w w'
  same : ∀ (u v : Value) (a b : List Lk) (w : World), SlE Elk w u a → SlE Elk w v b → a.length ≤ 1000 → b.length ≤ 1000 → Calls Try.prog 17 #[u, v] w fun e w' => e = .returned (.bool (decide (a = b))) ∧ Below w.heap.size w w'
  put : ∀ (u : Value) (l : List Lk) (s t : Ck) (v : Int) (w : World), SlE Elk w u l → l.length ≤ 1000 → Calls Try.prog 10 #[u, .agg (cc s), .agg (cc t), .int .i64 v] w (LksEr (putK l s t v) (errK l s t v) w)
  who : ∀ (u : Value) (l : List Lk) (s t : Ck) (w : World), SlE Elk w u l → l.length ≤ 1000 → Calls Try.prog 18 #[u, .agg (cc s), .agg (cc t)] w fun e w' => e = .returned (.int .u64 ((whoK l s t).toNat : Int)) ∧ Below w.heap.size w w'
  clash : ∀ (a b : Lk) (w : World), Calls Try.prog 15 #[.agg (lk a), .agg (lk b)] w fun e w' => e = .returned (.bool (clashB a b)) ∧ Below w.heap.size w w'
  guilty : ∀ (u : Value) (l : List Lk) (w : World), SlE Elk w u l → l.length ≤ 1000 → Calls Try.prog 20 #[u] w fun e w' => e = .returned (.int .u64 ((guiltT l).toNat : Int)) ∧ Below w.heap.size w w'

theorem enters_linkMay15 : ∀ args w, (callFunc 16 args).run Try.prog w = .ok (.enter 16 args) w := entersE Try.func16 (by kernel_rfl) (by kernel_rfl)
theorem enters_linkSame15 : ∀ args w, (callFunc 17 args).run Try.prog w = .ok (.enter 17 args) w := entersE Try.func17 (by kernel_rfl) (by kernel_rfl)
theorem enters_linkPut15 : ∀ args w, (callFunc 10 args).run Try.prog w = .ok (.enter 10 args) w := entersE Try.func10 (by kernel_rfl) (by kernel_rfl)
theorem enters_linkWho15 : ∀ args w, (callFunc 18 args).run Try.prog w = .ok (.enter 18 args) w := entersE Try.func18 (by kernel_rfl) (by kernel_rfl)
theorem enters_linkClash15 : ∀ args w, (callFunc 15 args).run Try.prog w = .ok (.enter 15 args) w := entersE Try.func15 (by kernel_rfl) (by kernel_rfl)
theorem enters_linkGuilty15 : ∀ args w, (callFunc 20 args).run Try.prog w = .ok (.enter 20 args) w := entersE Try.func20 (by kernel_rfl) (by kernel_rfl)

def kx1 : Lk := ⟨⟨0, zr⟩, ⟨3, zr⟩, 7⟩
def kx2 : Lk := ⟨⟨1, zr⟩, ⟨2, zr⟩, 6⟩
def kx3 : Lk := ⟨⟨1, zr⟩, ⟨2, zr⟩, 7⟩
theorem link_ex : putK [kx1, kx2] kx2.s kx2.t 0 = [kx1, kx3] ∧ errK [kx1, kx2] kx2.s kx2.t 0 = 0 ∧ clashB kx1 kx2 = true ∧ (guiltT [kx1, kx2]).toNat = 6 ∧ (guiltT [kx1, kx3]).toNat = 7 ∧ mayL [kx1, kx2] = true ∧ (whoK [kx1, kx3] kx2.s kx2.t).toNat = 7 := by decide +kernel
@[local go_sem] theorem put_e15 (x : Ck) (e : UInt64) : putSeg (cc x) 0 #[.int .u64 (e.toNat : Int)] = cc { x with epoch := e } := cc_put_epoch x e

set_option maxRecDepth 100000 in
set_option maxHeartbeats 4000000 in
theorem lawOf (a b m : UInt64) (w : World) : Calls Try.prog 23 #[.int .u64 (a.toNat : Int), .int .u64 (b.toNat : Int), .int .u64 (m.toNat : Int)] w fun e w' => e = .returned (.agg (lk ⟨⟨a, zr⟩, ⟨b, zr⟩, m⟩)) ∧ Below w.heap.size w w' := by
  go_enter Try.func23, Try.ntmps23
  go_wp2_with fail
  exact bodyPost_ret (results_agg1 Try.isAgg36 Try.sizeOf36 _ 6 rfl _ _ _ _ rfl (ldA_block (heap_alloc_last w _) (lk_size _))) rfl ⟨rfl, below1⟩
/-- The example's links, in memory. -/
theorem kx_at {W : World} {b : Nat} {l : List Lk} {y : Lk} (h : SlE Elk W (.slice (some ⟨b, 0, none⟩) 2 2) l) (hl : l = [kx1, y]) : ldA W (.pointer (some ⟨b, 0, none⟩)) 67 = some (lk kx1) ∧ ldA W (.pointer (some ⟨b, 67, none⟩)) 67 = some (lk y) ∧ ldA W (.pointer (some ⟨b, 67, none⟩)) 33 = some (cc y.s) ∧ ldA W (.pointer (some ⟨b, 100, none⟩)) 33 = some (cc y.t) := by
  subst hl
  obtain ⟨b1, o1, e, _, x⟩ := lks_ptr h (show 0 < 2 by decide)
  injection e with e
  injection e with e1 e2
  subst e1 e2
  exact ⟨lks_ld (i := 0) x (show 0 < 2 by decide), lks_ld (i := 1) x (show 1 < 2 by decide), lks_s (i := 1) x (show 1 < 2 by decide), lks_t (i := 1) x (show 1 < 2 by decide)⟩


set_option maxRecDepth 100000 in
set_option maxHeartbeats 16000000 in
theorem awake_any15 (H : LinkC) (w : World) : Calls Try.prog 9 #[] w fun e w' => e = .returned (.bool true) ∧ Below w.heap.size w w' := by
  obtain ⟨e1, e2, e3, e4, e5, e6, e7⟩ := link_ex
  have HO1 : Hid (∀ W, Calls Try.prog 23 #[.int .u64 0, .int .u64 3, .int .u64 7] W fun e w' => e = .returned (.agg (lk kx1)) ∧ Below W.heap.size W w') := fun W => lawOf 0 3 7 W
  have HO2 : Hid (∀ W, Calls Try.prog 23 #[.int .u64 1, .int .u64 2, .int .u64 6] W fun e w' => e = .returned (.agg (lk kx2)) ∧ Below W.heap.size W w') := fun W => lawOf 1 2 6 W
  obtain ⟨X, hX⟩ : ∃ X, X = [kx1, kx2] := ⟨_, rfl⟩
  obtain ⟨Y, hY⟩ : ∃ Y, Y = [kx1, kx3] := ⟨_, rfl⟩
  have HXe := Lib.hid hX
  have HYe := Lib.hid hY
  have HX8 : Hid (X.length ≤ 1000 ∧ Y.length ≤ 1000) := by show _ ∧ _; rw [hX, hY]; decide
  have HP := Lib.hid (fun u W (h : SlE Elk W u X) => H.put u X kx2.s kx2.t 0 W h HX8.out.1)
  have HC := Lib.hid (fun W => H.clash kx1 kx2 W)
  have HG1 := Lib.hid (fun u W (h : SlE Elk W u X) => H.guilty u X W h HX8.out.1)
  have HG2 := Lib.hid (fun u W (h : SlE Elk W u Y) => H.guilty u Y W h HX8.out.2)
  have HM := Lib.hid (fun u W (h : SlE Elk W u X) => H.may u X W h)
  have HW := Lib.hid (fun u W (h : SlE Elk W u Y) => H.who u Y kx2.s kx2.t W h HX8.out.2)
  have HS := Lib.hid (fun u W (h : SlE Elk W u X) => H.same u u X X W h h HX8.out.1 HX8.out.1)
  rw [← hX] at e1 e2 e4 e6
  rw [← hY] at e1 e5 e7
  rw [e1, e2] at HP
  rw [e3] at HC
  rw [e4] at HG1
  rw [e5] at HG2
  rw [e6] at HM
  rw [e7] at HW
  rw [decide_eq_true rfl] at HS
  have A0 : Hid (Below w.heap.size w w) := Below.refl _ _
  clear e1 e2 e3 e4 e5 e6 e7 H hX hY
  go_enter Try.func9, Try.ntmps9
  go_wp2_with fail
  refine (HO1.out _).mono ?_
  rintro e w1 ⟨rfl, g⟩
  replace A0 := Lib.hid (belowT A0.out g)
  clear g
  go_wp2_with fail
  refine (HO2.out _).mono ?_
  rintro e w2 ⟨rfl, g⟩
  replace A0 := Lib.hid (belowT A0.out g)
  clear g
  go_upto_region 2 with fail
  obtain ⟨W3, hW3⟩ : ∃ W, W = w2.alloc (.cells (lk kx1 ++ lk kx2) 36) := ⟨_, rfl⟩
  have K1 : Hid (SlE Elk W3 (.slice (some ⟨w2.heap.size, 0, none⟩) 2 2) X) := by show SlE _ _ _ _; rw [hW3, HXe.out]; exact lk_lit2 _ _ _ _ rfl
  replace A0 : Hid (Below w.heap.size w W3) := by show Below _ _ _; rw [hW3]; exact belowT A0.out below1
  rw [← hW3]
  generalize w2.heap.size = b at *
  clear hW3 HO1 HO2
  obtain ⟨y0, y1, y2, y3⟩ := kx_at K1.out HXe.out
  have L0 := fun p : Wd W3.drew => wd_ld y2 (by decide) p
  have L1 := fun p : Wd W3.drew => wd_ld y3 (by decide) p
  clear y0 y1 y2 y3
  refine wp_region_lex [9] (by kernel_rfl) (by kernel_rfl) (by kernel_rfl) ?_
  repeat (first | (refine wpXL_quiet rfl rfl _ cls_begin ?_; (first | go_big_quiet_step (fail) | quiet_step (fail)); refine wpQuiet_nil ?_) | refine wpXL_skip rfl ?_)
  refine wpXL_call rfl rfl rfl enters_linkPut15 #[.slice (some ⟨b, 0, none⟩) 2 2, .agg (cc kx2.s), .agg (cc kx2.t), .int .i64 0] rfl ?_
  refine (HP.out _ _ (slE_keep (belowD (Below.refl _ _) 1) K1.out)).mono ?_
  rintro e u ⟨v, rfl, hv, g⟩
  refine ⟨_, rfl, g, ?_⟩
  simp only [Act.put, List.setIfInBounds_toArray, List.set_cons_zero, List.set_cons_succ]
  have G : Hid (Below W3.heap.size W3 u) := belowT (belowD (Below.refl _ _) 1) g
  have K2 := Lib.hid hv
  clear hv
  clear g
  repeat (first | (refine wpXL_quiet rfl rfl _ cls_begin ?_; (first | go_big_quiet_step (fail) | quiet_step (fail)); refine wpQuiet_nil ?_) | refine wpXL_skip rfl ?_)
  refine wpXL_nil ?_
  clear L0 L1
  replace A0 := Lib.hid (belowT A0.out G.out)
  replace K1 := Lib.hid (slE_keep G.out K1.out)
  clear G
  obtain ⟨w3, rfl⟩ : ∃ W : World, W = u := ⟨_, rfl⟩
  obtain ⟨y0, y1, y2, y3⟩ := kx_at K1.out HXe.out
  go_wp2_with fail
  have L0 := fun p : Wd w3.drew => wd_ld y0 (by decide) p
  have L1 := fun p : Wd w3.drew => wd_ld y1 (by decide) p
  have L2 := fun p : Wd w3.drew => wd_ld y2 (by decide) p
  have L3 := fun p : Wd w3.drew => wd_ld y3 (by decide) p
  clear y0 y1 y2 y3
  refine wp_region_lex [6, 7, 9, 12, 16, 18, 21, 23, 25, 35, 38, 41] (by kernel_rfl) (by kernel_rfl) (by kernel_rfl) ?_
  repeat (first | (refine wpXL_quiet rfl rfl _ cls_begin ?_; (first | go_big_quiet_step (fail) | quiet_step (fail)); refine wpQuiet_nil ?_) | refine wpXL_skip rfl ?_)
  refine wpXL_call rfl rfl rfl enters_linkClash15 #[.agg (lk kx1), .agg (lk kx2)] rfl ?_
  refine (HC.out _).mono ?_
  rintro e u ⟨rfl, g⟩
  refine ⟨_, rfl, g, ?_⟩
  simp only [Act.put, List.setIfInBounds_toArray, List.set_cons_zero, List.set_cons_succ]
  have G : Hid (Below w3.heap.size w3 u) := belowT (belowD (Below.refl _ _) 1) g
  clear g
  repeat (first | (refine wpXL_quiet rfl rfl _ cls_begin ?_; (first | go_big_quiet_step (fail) | quiet_step (fail)); refine wpQuiet_nil ?_) | refine wpXL_skip rfl ?_)
  refine wpXL_eff rfl rfl (.bool true) _ rfl (Below.refl _ _) ?_
  simp only [Act.put, List.setIfInBounds_toArray, List.set_cons_zero, List.set_cons_succ]
  repeat (first | (refine wpXL_quiet rfl rfl _ cls_begin ?_; (first | go_big_quiet_step (fail) | quiet_step (fail)); refine wpQuiet_nil ?_) | refine wpXL_skip rfl ?_)
  refine wpXL_call rfl rfl rfl enters_linkGuilty15 #[.slice (some ⟨b, 0, none⟩) 2 2] rfl ?_
  refine (HG1.out _ _ (slE_keep G.out K1.out)).mono ?_
  rintro e u ⟨rfl, g⟩
  refine ⟨_, rfl, g, ?_⟩
  simp only [Act.put, List.setIfInBounds_toArray, List.set_cons_zero, List.set_cons_succ]
  replace G : Hid (Below w3.heap.size w3 u) := belowT G.out g
  clear g
  repeat (first | (refine wpXL_quiet rfl rfl _ cls_begin ?_; (first | go_big_quiet_step (fail) | quiet_step (fail)); refine wpQuiet_nil ?_) | refine wpXL_skip rfl ?_)
  refine wpXL_eff rfl rfl (.bool true) _ rfl (Below.refl _ _) ?_
  simp only [Act.put, List.setIfInBounds_toArray, List.set_cons_zero, List.set_cons_succ]
  repeat (first | (refine wpXL_quiet rfl rfl _ cls_begin ?_; (first | go_big_quiet_step (fail) | quiet_step (fail)); refine wpQuiet_nil ?_) | refine wpXL_skip rfl ?_)
  refine wpXL_eff rfl rfl (.bool true) _ rfl (Below.refl _ _) ?_
  simp only [Act.put, List.setIfInBounds_toArray, List.set_cons_zero, List.set_cons_succ]
  repeat (first | (refine wpXL_quiet rfl rfl _ cls_begin ?_; (first | go_big_quiet_step (fail) | quiet_step (fail)); refine wpQuiet_nil ?_) | refine wpXL_skip rfl ?_)
  refine wpXL_call rfl rfl rfl enters_linkGuilty15 #[v] rfl ?_
  refine (HG2.out _ _ (slE_keep G.out K2.out)).mono ?_
  rintro e u ⟨rfl, g⟩
  refine ⟨_, rfl, g, ?_⟩
  simp only [Act.put, List.setIfInBounds_toArray, List.set_cons_zero, List.set_cons_succ]
  replace G : Hid (Below w3.heap.size w3 u) := belowT G.out g
  clear g
  repeat (first | (refine wpXL_quiet rfl rfl _ cls_begin ?_; (first | go_big_quiet_step (fail) | quiet_step (fail)); refine wpQuiet_nil ?_) | refine wpXL_skip rfl ?_)
  refine wpXL_eff rfl rfl (.bool true) _ rfl (Below.refl _ _) ?_
  simp only [Act.put, List.setIfInBounds_toArray, List.set_cons_zero, List.set_cons_succ]
  repeat (first | (refine wpXL_quiet rfl rfl _ cls_begin ?_; (first | go_big_quiet_step (fail) | quiet_step (fail)); refine wpQuiet_nil ?_) | refine wpXL_skip rfl ?_)
  refine wpXL_call rfl rfl rfl enters_linkMay15 #[.slice (some ⟨b, 0, none⟩) 2 2] rfl ?_
  refine (HM.out _ _ (slE_keep G.out K1.out)).mono ?_
  rintro e u ⟨rfl, g⟩
  refine ⟨_, rfl, g, ?_⟩
  simp only [Act.put, List.setIfInBounds_toArray, List.set_cons_zero, List.set_cons_succ]
  replace G : Hid (Below w3.heap.size w3 u) := belowT G.out g
  clear g
  repeat (first | (refine wpXL_quiet rfl rfl _ cls_begin ?_; (first | go_big_quiet_step (fail) | quiet_step (fail)); refine wpQuiet_nil ?_) | refine wpXL_skip rfl ?_)
  refine wpXL_eff rfl rfl (.bool true) _ rfl (Below.refl _ _) ?_
  simp only [Act.put, List.setIfInBounds_toArray, List.set_cons_zero, List.set_cons_succ]
  repeat (first | (refine wpXL_quiet rfl rfl _ cls_begin ?_; (first | go_big_quiet_step (fail) | quiet_step (fail)); refine wpQuiet_nil ?_) | refine wpXL_skip rfl ?_)
  refine wpXL_call rfl rfl rfl enters_linkWho15 #[v, .agg (cc kx2.s), .agg (cc kx2.t)] rfl ?_
  refine (HW.out _ _ (slE_keep G.out K2.out)).mono ?_
  rintro e u ⟨rfl, g⟩
  refine ⟨_, rfl, g, ?_⟩
  simp only [Act.put, List.setIfInBounds_toArray, List.set_cons_zero, List.set_cons_succ]
  replace G : Hid (Below w3.heap.size w3 u) := belowT G.out g
  clear g
  repeat (first | (refine wpXL_quiet rfl rfl _ cls_begin ?_; (first | go_big_quiet_step (fail) | quiet_step (fail)); refine wpQuiet_nil ?_) | refine wpXL_skip rfl ?_)
  refine wpXL_eff rfl rfl (.bool true) _ rfl (Below.refl _ _) ?_
  simp only [Act.put, List.setIfInBounds_toArray, List.set_cons_zero, List.set_cons_succ]
  repeat (first | (refine wpXL_quiet rfl rfl _ cls_begin ?_; (first | go_big_quiet_step (fail) | quiet_step (fail)); refine wpQuiet_nil ?_) | refine wpXL_skip rfl ?_)
  refine wpXL_call rfl rfl rfl enters_linkSame15 #[.slice (some ⟨b, 0, none⟩) 2 2, .slice (some ⟨b, 0, none⟩) 2 2] rfl ?_
  refine (HS.out _ _ (slE_keep G.out K1.out)).mono ?_
  rintro e u ⟨rfl, g⟩
  refine ⟨_, rfl, g, ?_⟩
  simp only [Act.put, List.setIfInBounds_toArray, List.set_cons_zero, List.set_cons_succ]
  replace G : Hid (Below w3.heap.size w3 u) := belowT G.out g
  clear g
  repeat (first | (refine wpXL_quiet rfl rfl _ cls_begin ?_; (first | go_big_quiet_step (fail) | quiet_step (fail)); refine wpQuiet_nil ?_) | refine wpXL_skip rfl ?_)
  refine wpXL_nil ?_
  clear L0 L1 L2 L3
  replace A0 := Lib.hid (belowT A0.out G.out)
  replace K1 := Lib.hid (slE_keep G.out K1.out)
  replace K2 := Lib.hid (slE_keep G.out K2.out)
  clear G
  obtain ⟨w4, rfl⟩ : ∃ W : World, W = u := ⟨_, rfl⟩
  go_wp2_with fail
  go_ret
  exact ⟨rfl, A0.out⟩
end Go.Proofs.Ytkbifcfgcokmlaa
