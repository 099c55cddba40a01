/-
  Package link: isTwice, rules, Clash, walked.
  Package link: Clash, walked.
-/
import Derived.Test.YtkbifcfgcokmlaaQ26
namespace Go.Proofs.Ytkbifcfgcokmlaa
open Go.RowKit
set_option maxRecDepth 100000

set_option maxRecDepth 100000 in
set_option maxHeartbeats 4000000 in
theorem linkTwice (a b : Lk) (w : World) :
    Calls Try.prog 37 #[.agg (lk a), .agg (lk b)] w fun e w' => e = .returned (.bool (twiceB a b)) ∧ Below w.heap.size w w' := by
  obtain ⟨W0, hW0⟩ : ∃ W0, W0 = (w.alloc (.cells (lk a) 36)).alloc (.cells (lk b) 36) := ⟨_, rfl⟩
  obtain ⟨hB, A, B⟩ := lk_two w a b W0 hW0
  have HB := Lib.hid hB
  have HW := Lib.hid hW0
  have La := fun p : Wd W0.drew => wd_ld A.a (by decide) p
  have Lb := fun p : Wd W0.drew => wd_ld B.a (by decide) p
  have Ta := fun p : Wd W0.drew => wd_cell A.te p
  have Tb := fun p : Wd W0.drew => wd_cell B.te p
  have HA := Lib.hid (fun W => linkEnds a W)
  have HC := Lib.hid (fun W => linkEnds b W)
  obtain ⟨O, hO⟩ : ∃ O, O = decide (edOf a = edOf b) := ⟨_, rfl⟩
  have HR : Hid (twiceB a b = (!O && decide (a.t.epoch.toNat = b.t.epoch.toNat))) := by
    show _ = _
    unfold twiceB
    rw [show oneB a b = O from ?_]
    rw [hO, Bool.eq_iff_iff, oneB_iff, decide_eq_true_iff]
    exact ⟨fun h => Ed.ext h.1 h.2, fun h => ⟨congrArg Ed.s h, congrArg Ed.t h⟩⟩
  rw [HR.out]
  have t1 := hO.symm
  generalize a.t.epoch.toNat = A2 at *
  generalize b.t.epoch.toNat = B2 at *
  generalize edOf a = X1 at *
  generalize edOf b = X2 at *
  obtain ⟨E2, hE2⟩ : ∃ E, E = decide (A2 = B2) := ⟨_, rfl⟩
  rw [← hE2]
  have t2 : ((A2 : Int) == (B2 : Int)) = E2 := by rw [hE2, Bool.eq_iff_iff, beq_iff_eq, decide_eq_true_iff]; omega
  have t2' : (A2 == B2) = E2 := by rw [hE2, Bool.eq_iff_iff, beq_iff_eq, decide_eq_true_iff]
  have t2'' : decide (A2 = B2) = E2 := hE2.symm
  clear hE2 HR hW0 hB A B hO
  go_enter Try.func37, Try.ntmps37
  go_upto_region 1 with fail
  rw [← HW.out]
  cases O <;> cases E2 <;> (
    refine wp_region_lex [1, 3] (by kernel_rfl) (by kernel_rfl) (by kernel_rfl) ?_
    repeat (first | (refine wpXL_quiet rfl rfl _ cls_begin ?_; (first | go_big_quiet_step (fail) | quiet_step (fail)); refine wpQuiet_nil ?_) | refine wpXL_skip rfl ?_)
    refine wpXL_call rfl rfl rfl enters_linkEnds #[.agg (lk a)] rfl ?_
    refine (HA.out _).mono ?_
    rintro e u ⟨rfl, g⟩
    refine ⟨_, rfl, g, ?_⟩
    simp only [Act.put, List.setIfInBounds_toArray, List.set_cons_zero, List.set_cons_succ]
    have G : Hid (Below W0.heap.size W0 u) := belowT (belowD (Below.refl _ _) 1) g
    clear g
    repeat (first | (refine wpXL_quiet rfl rfl _ cls_begin ?_; (first | go_big_quiet_step (fail) | quiet_step (fail)); refine wpQuiet_nil ?_) | refine wpXL_skip rfl ?_)
    refine wpXL_call rfl rfl rfl enters_linkEnds #[.agg (lk b)] rfl ?_
    refine (HC.out _).mono ?_
    rintro e u2 ⟨rfl, g⟩
    refine ⟨_, rfl, g, ?_⟩
    simp only [Act.put, List.setIfInBounds_toArray, List.set_cons_zero, List.set_cons_succ]
    replace G : Hid (Below W0.heap.size W0 u2) := belowT G.out g
    clear g
    repeat (first | (refine wpXL_quiet rfl rfl _ cls_begin ?_; (first | go_big_quiet_step (fail) | quiet_step (fail)); refine wpQuiet_nil ?_) | refine wpXL_skip rfl ?_)
    refine wpXL_nil ?_
    go_wp2_with fail
    go_ret
    exact ⟨rfl, belowT HB.out G.out⟩)
theorem enters_linkTwice : ∀ args w, (callFunc 37 args).run Try.prog w = .ok (.enter 37 args) w := entersE Try.func37 (by kernel_rfl) (by kernel_rfl)

def fTwice : Value := .func (.func 37) #[] #[]
def fAround : Value := .func (.func 38) #[] #[]
set_option maxRecDepth 100000 in
set_option maxHeartbeats 4000000 in
theorem linkRules (w : World) :
    Calls Try.prog 30 #[] w fun e w' => e = .returned (.slice (some ⟨w.heap.size, 0, none⟩) 2 2) ∧ w' = w.alloc (.cells #[fTwice, fAround] 56) := by
  go_enter Try.func30, Try.ntmps30
  go_wp2_with fail
  go_ret
  exact ⟨rfl, rfl⟩
end Go.Proofs.Ytkbifcfgcokmlaa
namespace Go.Proofs.Ytkbifcfgcokmlaa
open Go.RowKit
set_option maxRecDepth 100000

@[local go_sem] theorem run_store_fn (P : Program) (w : World) (a : Addr) (m : Mode) (fn : Fn) (first captured : Array Value) : (store a (.func fn first captured) m).run P w = stored P w a (.func fn first captured) m := run_store P w a _ m rfl
theorem clash_rules (a b : Lk) : clashB a b = ((twiceB a b || twiceB b a) || (roundB a b || roundB b a)) := by
  have h1 : twiceB a b = (!oneB a b && decide (a.t.epoch = b.t.epoch)) := by
    unfold twiceB
    rw [show decide (a.t.epoch = b.t.epoch) = decide (a.t.epoch.toNat = b.t.epoch.toNat) by rw [Bool.eq_iff_iff, decide_eq_true_iff, decide_eq_true_iff]; exact UInt64.toNat_inj.symm]
  have h2 : twiceB b a = twiceB a b := by
    unfold twiceB
    rw [oneB_comm b a, show decide (b.t.epoch.toNat = a.t.epoch.toNat) = decide (a.t.epoch.toNat = b.t.epoch.toNat) by rw [Bool.eq_iff_iff, decide_eq_true_iff, decide_eq_true_iff]; exact eq_comm]
  rw [h2, Bool.or_self, h1]; rfl

set_option maxRecDepth 100000 in
set_option maxHeartbeats 8000000 in
theorem linkClash (a b : Lk) (w : World) :
    Calls Try.prog 15 #[.agg (lk a), .agg (lk b)] w fun e w' => e = .returned (.bool (clashB a b)) ∧ Below w.heap.size w w' := by
  obtain ⟨W0, hW0⟩ : ∃ W0, W0 = (w.alloc (.cells (lk a) 36)).alloc (.cells (lk b) 36) := ⟨_, rfl⟩
  obtain ⟨hB, A, B⟩ := lk_two w a b W0 hW0
  have HB := Lib.hid hB
  have HW := Lib.hid hW0
  have HA := Lib.hid A.a
  have HC := Lib.hid B.a
  have HT1 := Lib.hid (fun W => linkTwice a b W)
  have HT2 := Lib.hid (fun W => linkTwice b a W)
  have HR1 := Lib.hid (fun W => linkAround a b W)
  have HR2 := Lib.hid (fun W => linkAround b a W)
  have HR := Lib.hid (clash_rules a b)
  rw [HR.out]
  generalize twiceB a b = T1 at *
  generalize twiceB b a = T2 at *
  generalize roundB a b = R1 at *
  generalize roundB b a = R2 at *
  clear HR hW0 hB A B
  go_enter Try.func15, Try.ntmps15
  go_upto_region 1 with fail
  rw [← HW.out]
  go_wp2_with fail
  refine (linkRules W0).mono ?_
  rintro e w1 ⟨rfl, hw1⟩
  have G1 : Hid (Below W0.heap.size W0 w1) := by show Below _ _ _; rw [hw1]; exact below1
  have M1 : Hid (w1.heap[W0.heap.size]? = some (.cells #[fTwice, fAround] 56 (0, 0))) := by show _ = _; rw [hw1]; exact heap_alloc_last _ _
  obtain ⟨R, hR⟩ : ∃ R, R = W0.heap.size := ⟨_, rfl⟩
  have HZ := Lib.hid hR
  rw [← hR] at M1 ⊢
  clear hw1 hR
  go_wp2_with fail
  go_loopw [9, 6] (fun i _ wr => ∃ j : Nat, j ≤ 2 ∧ i = .int .i64 (j : Int) ∧ (0 < j → T1 = false ∧ T2 = false) ∧ (1 < j → R1 = false ∧ R2 = false) ∧ Below w1.heap.size w1 wr) (fun i _ _ => 2 - (intOf i).toNat)
  case atStart => exact ⟨0, Nat.zero_le _, rfl, fun h => absurd h (Nat.lt_irrefl _), fun h => by omega, Below.refl _ _⟩
  case round =>
    obtain ⟨j, hj, rfl, h1, h2, hb⟩ := hrel
    have H1 := Lib.hid h1
    have H2 := Lib.hid h2
    have HBB := Lib.hid hb
    have m := blk_keep hb M1.out
    have c0 : wr.cell? ⟨R, 0, none⟩ = some (.func (.func 37) #[] #[]) := by rw [cell_of_row _ _ _ _ _ _ m]; rfl
    have c1 : wr.cell? ⟨R, 1, none⟩ = some (.func (.func 38) #[] #[]) := by rw [cell_of_row _ _ _ _ _ _ m]; rfl
    have La := Lib.hid (fun W (g : Below wr.heap.size wr W) => keep (belowT (belowT G1.out HBB.out) g) HA.out)
    have Lb := Lib.hid (fun W (g : Below wr.heap.size wr W) => keep (belowT (belowT G1.out HBB.out) g) HC.out)
    have la := La.out wr (Below.refl _ _)
    have lb := Lb.out wr (Below.refl _ _)
    clear h1 h2 hb m
    obtain rfl | rfl | rfl : j = 0 ∨ j = 1 ∨ j = 2 := by omega
    · go_upto_region 4 with fail
      obtain ⟨V, hV⟩ : ∃ V, V = wr.alloc (.cells #[.func (.func 37) #[] #[]] 56) := ⟨_, rfl⟩
      rw [← hV]
      have GV : Hid (Below wr.heap.size wr V) := by show Below _ _ _; rw [hV]; exact below1
      have mV : Hid (V.heap[wr.heap.size]? = some (.cells #[.func (.func 37) #[] #[]] 56 (0, 0))) := by show _ = _; rw [hV]; exact heap_alloc_last _ _
      clear hV c0 c1 la lb
      have c0 : V.cell? ⟨wr.heap.size, 0, none⟩ = some (.func (.func 37) #[] #[]) := by rw [cell_of_row _ _ _ _ _ _ mV.out]; rfl
      have la := La.out V GV.out
      have lb := Lb.out V GV.out
      go_wp2_with fail
      refine (HT1.out V).mono ?_
      rintro e V1 ⟨rfl, g⟩
      have GV1 := Lib.hid (belowT GV.out g)
      clear c0 la lb
      have c0 : V1.cell? ⟨wr.heap.size, 0, none⟩ = some (.func (.func 37) #[] #[]) := by rw [cell_of_row _ _ _ _ _ _ (blk_keep g mV.out)]; rfl
      have la := La.out V1 GV1.out
      have lb := Lb.out V1 GV1.out
      clear g
      cases T1
      · go_wp2_with fail
        refine (HT2.out V1).mono ?_
        rintro e V2 ⟨rfl, g⟩
        have GV2 := Lib.hid (belowT GV1.out g)
        clear g c0 la lb
        cases T2
        · go_wp2_with fail
          go_roundw
          case rel => exact ⟨1, by omega, by first | rfl | go_num, fun _ => by first | exact ⟨rfl, rfl⟩ | simp, fun h => by omega, belowT HBB.out GV2.out⟩
          case measure => simp [intOf]
        · go_wp2_with fail
          go_ret
          exact ⟨by simp, belowT (belowT HB.out (belowT G1.out HBB.out)) GV2.out⟩
      · go_wp2_with fail
        go_ret
        exact ⟨by simp, belowT (belowT HB.out (belowT G1.out HBB.out)) GV1.out⟩
    · go_upto_region 4 with fail
      obtain ⟨V, hV⟩ : ∃ V, V = wr.alloc (.cells #[.func (.func 38) #[] #[]] 56) := ⟨_, rfl⟩
      rw [← hV]
      have GV : Hid (Below wr.heap.size wr V) := by show Below _ _ _; rw [hV]; exact below1
      have mV : Hid (V.heap[wr.heap.size]? = some (.cells #[.func (.func 38) #[] #[]] 56 (0, 0))) := by show _ = _; rw [hV]; exact heap_alloc_last _ _
      clear hV c0 c1 la lb
      have c0 : V.cell? ⟨wr.heap.size, 0, none⟩ = some (.func (.func 38) #[] #[]) := by rw [cell_of_row _ _ _ _ _ _ mV.out]; rfl
      have la := La.out V GV.out
      have lb := Lb.out V GV.out
      go_wp2_with fail
      refine (HR1.out V).mono ?_
      rintro e V1 ⟨rfl, g⟩
      have GV1 := Lib.hid (belowT GV.out g)
      clear c0 la lb
      have c0 : V1.cell? ⟨wr.heap.size, 0, none⟩ = some (.func (.func 38) #[] #[]) := by rw [cell_of_row _ _ _ _ _ _ (blk_keep g mV.out)]; rfl
      have la := La.out V1 GV1.out
      have lb := Lb.out V1 GV1.out
      clear g
      cases R1
      · go_wp2_with fail
        refine (HR2.out V1).mono ?_
        rintro e V2 ⟨rfl, g⟩
        have GV2 := Lib.hid (belowT GV1.out g)
        clear g c0 la lb
        cases R2
        · go_wp2_with fail
          go_roundw
          case rel => exact ⟨2, by omega, by first | rfl | go_num, fun _ => H1.out (by omega), fun _ => by first | exact ⟨rfl, rfl⟩ | simp, belowT HBB.out GV2.out⟩
          case measure => simp [intOf]
        · go_wp2_with fail
          go_ret
          exact ⟨by simp, belowT (belowT HB.out (belowT G1.out HBB.out)) GV2.out⟩
      · go_wp2_with fail
        go_ret
        exact ⟨by simp, belowT (belowT HB.out (belowT G1.out HBB.out)) GV1.out⟩
    · obtain ⟨e1, e2⟩ := H1.out (by omega)
      obtain ⟨e3, e4⟩ := H2.out (by omega)
      subst e1 e2 e3 e4
      clear c0 c1 la lb
      go_wp2_with fail
      go_ret
      exact ⟨rfl, belowT HB.out (belowT G1.out HBB.out)⟩
theorem enters_linkClash : ∀ args w, (callFunc 15 args).run Try.prog w = .ok (.enter 15 args) w := entersE Try.func15 (by kernel_rfl) (by kernel_rfl)
end Go.Proofs.Ytkbifcfgcokmlaa
