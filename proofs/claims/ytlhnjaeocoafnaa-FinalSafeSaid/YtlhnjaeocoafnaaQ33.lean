/-
  Package final: isBehind, walked.
  Which of two roots is less: the program's root.Less and the document's own, walked; in any seat that holds both.
  Package final: isBetter, walked.
  Package final: Best, walked.
-/
import Derived.Test.YtlhnjaeocoafnaaQ14
import Derived.Test.YtlhnjaeocoafnaaQ31
import Derived.Test.YtlhnjaeocoafnaaQ32
import Derived.Test.YtlhnjaeocoafnaaQ16
import Derived.Deep.Cut
import Derived.Deep.CutRange
import Derived.Deep.RegionLaw
import Derived.Test.YtlhnjaeocoafnaaQ12
import Derived.Test.YtlhnjaeocoafnaaQ01
import Derived.Test.YtlhnjaeocoafnaaQ05
import Derived.Test.YtlhnjaeocoafnaaQ06
import Derived.Test.YtlhnjaeocoafnaaQ02
import Derived.Outline
import Derived.Deep.QuietTactic
import Derived.BigQuiet
import Derived.Lib.Hide
import Derived.Test.YtlhnjaeocoafnaaQ18
namespace Go.Proofs.Ytlhnjaeocoafnaa
open Go.RowKit
set_option maxRecDepth 100000

theorem enters_treeFindP : ∀ args w, (callFunc 25 args).run Try.prog w = .ok (.enter 25 args) w := entersE Try.func25 (by kernel_rfl) (by kernel_rfl)
theorem enters_treeAboveP : ∀ args w, (callFunc 29 args).run Try.prog w = .ok (.enter 29 args) w := entersE Try.func29 (by kernel_rfl) (by kernel_rfl)
set_option maxRecDepth 100000 in
set_option maxHeartbeats 8000000 in
theorem isBehind16 (s : SlV) (l : List Nd) (c d : Ck) (w : World) (h : SlE Ene w (sv s) l) :
    Calls Try.prog 46 #[.agg (tr ⟨s⟩), .agg (cc c), .agg (cc d)] w fun e w' => e = .returned (.bool (behindB l c d)) ∧ Below w.heap.size w w' := by
  have HF := Lib.hid (fun r W (g : Below w.heap.size w W) => treeFind s l r W (slE_keep g h))
  have HA := Lib.hid (fun W (g : Below w.heap.size w W) => treeAbove s l (findT l d.root) (findT l c.root) W (slE_keep g h))
  obtain ⟨r, hr⟩ : ∃ r, r = behindB l c d := ⟨_, rfl⟩
  rw [← hr]
  rw [show aboveZ l (findT l d.root) (findT l c.root) = r from hr.symm] at HA
  have HFc := Lib.hid (HF.out c.root)
  have HFd := Lib.hid (HF.out d.root)
  generalize findT l c.root = x at *
  generalize findT l d.root = y at *
  obtain ⟨W0, hW0⟩ : ∃ W0, W0 = ((w.alloc (.cells (tr ⟨s⟩) 24)).alloc (.cells (cc c) 32)).alloc (.cells (cc d) 32) := ⟨_, rfl⟩
  obtain ⟨hB, k0, k1, k2, hz0⟩ := heap3 w _ _ _ _ _ _ W0 hW0
  have HB := Lib.hid hB
  have HW := Lib.hid hW0
  have z0 := (tr_cells k0).2.1
  have z1 := cc_rd0_root k1
  have z2 := cc_rd0_root k2
  clear hW0 h hB k0 k1 k2 hz0 hr HF
  go_enter Try.func46, Try.ntmps46
  go_upto_region 1 with fail
  rw [← HW.out]
  have L0 := fun p : Wd W0.drew => wd_ld z0 (by decide) p
  have L1 := fun p : Wd W0.drew => wd_ld z1 (by decide) p
  have L2 := fun p : Wd W0.drew => wd_ld z2 (by decide) p
  clear z0 z1 z2
  refine wp_region_lex [4, 8, 9] (by kernel_rfl) (by kernel_rfl) (by kernel_rfl) ?_
  repeat (first | (refine wpXL_quiet rfl rfl _ cls_begin ?_; (first | go_big_quiet_step (fail) | quiet_step (fail)); refine wpQuiet_nil ?_) | refine wpXL_skip rfl ?_)
  refine wpXL_call rfl rfl rfl enters_treeFindP #[.agg (tr ⟨s⟩), .agg (rc d.root)] rfl ?_
  refine (HFd.out _ (belowT HB.out (belowD (Below.refl _ _) 1))).mono ?_
  rintro e u ⟨rfl, g⟩
  refine ⟨_, rfl, g, ?_⟩
  simp only [Act.put, List.setIfInBounds_toArray, List.set_cons_zero, List.set_cons_succ]
  have G : Hid (Below W0.heap.size W0 u) := belowT (belowD (Below.refl _ _) 1) g
  clear g
  repeat (first | (refine wpXL_quiet rfl rfl _ cls_begin ?_; (first | go_big_quiet_step (fail) | quiet_step (fail)); refine wpQuiet_nil ?_) | refine wpXL_skip rfl ?_)
  refine wpXL_call rfl rfl rfl enters_treeFindP #[.agg (tr ⟨s⟩), .agg (rc c.root)] rfl ?_
  refine (HFc.out _ (belowT HB.out G.out)).mono ?_
  rintro e u2 ⟨rfl, g⟩
  refine ⟨_, rfl, g, ?_⟩
  simp only [Act.put, List.setIfInBounds_toArray, List.set_cons_zero, List.set_cons_succ]
  replace G : Hid (Below W0.heap.size W0 u2) := belowT G.out g
  clear g
  repeat (first | (refine wpXL_quiet rfl rfl _ cls_begin ?_; (first | go_big_quiet_step (fail) | quiet_step (fail)); refine wpQuiet_nil ?_) | refine wpXL_skip rfl ?_)
  refine wpXL_call rfl rfl rfl enters_treeAboveP #[.agg (tr ⟨s⟩), .int .i64 y, .int .i64 x] rfl ?_
  refine (HA.out _ (belowT HB.out G.out)).mono ?_
  rintro e u3 ⟨rfl, g⟩
  refine ⟨_, rfl, g, ?_⟩
  simp only [Act.put, List.setIfInBounds_toArray, List.set_cons_zero, List.set_cons_succ]
  replace G : Hid (Below W0.heap.size W0 u3) := belowT G.out g
  clear g
  repeat (first | (refine wpXL_quiet rfl rfl _ cls_begin ?_; (first | go_big_quiet_step (fail) | quiet_step (fail)); refine wpQuiet_nil ?_) | refine wpXL_skip rfl ?_)
  refine wpXL_nil ?_
  clear L0 L1 L2
  go_wp2_with fail
  go_ret
  exact ⟨rfl, belowT HB.out G.out⟩
theorem enters_isBehind16 : ∀ args w, (callFunc 46 args).run Try.prog w = .ok (.enter 46 args) w := entersE Try.func46 (by kernel_rfl) (by kernel_rfl)
end Go.Proofs.Ytlhnjaeocoafnaa
namespace Go.Proofs.Ytlhnjaeocoafnaa
open Go.RowKit
set_option maxRecDepth 100000

set_option maxHeartbeats 1000000 in
theorem rootLess (a b : Rt) (w : World) :
    Calls Try.prog 72 #[.agg (rc a), .agg (rc b)] w fun e w' => e = .returned (.bool (lessR a b)) ∧ Below w.heap.size w w' := by
  have hsa := rc_size a
  have hsb := rc_size b
  go_enter Try.func72, Try.ntmps72
  go_wp2
  go_loopw [6] (fun i wr => ∃ k n : Nat, k ≤ 32 ∧ i = .int .i64 k ∧ lessR a b = lessFrom a b k ∧ wr = ((w.alloc (.cells (rc a) 30)).alloc (.cells (rc b) 30)).drewN n) (fun i _ => 32 - (intOf i).toNat)
  case atStart => exact ⟨0, 0, by omega, rfl, rfl, rfl⟩
  case round =>
    obtain ⟨k, n, hk, rfl, hl, rfl⟩ := hrel
    have HL := Lib.hid hl; clear hl
    by_cases hlt : k < 32
    · have i0 : (0 : Int) ≤ (k : Int) := by omega
      have i1 : (k : Int) < 32 := by omega
      by_cases hs : at8 a k = at8 b k
      · have e : (at8 a k != at8 b k) = false := by simp [hs]
        have HE := Lib.hid (lessFrom_same a b k hlt hs); clear hs
        go_wp2
        go_quiet (fail)
        go_wp2
        go_roundw
        case rel => exact ⟨k + 1, _, by omega, by go_num, by rw [HL.out, HE.out], rfl⟩
        case measure => simp [intOf]; omega
      · have e : (at8 a k != at8 b k) = true := by simp [hs]
        have HE := Lib.hid (lessFrom_other a b k hlt hs); clear hs
        go_wp2
        go_quiet (fail)
        go_wp2
        go_quiet (fail)
        go_wp2
        go_ret
        exact ⟨by rw [HL.out, HE.out]; rfl, belowD (belowD (belowD lessB2 _) _) _⟩
    · obtain rfl : k = 32 := by omega
      go_wp2
      go_ret
      exact ⟨by rw [HL.out, lessFrom_end]; rfl, belowD lessB2 _⟩

theorem enters_rootLess : ∀ args w, (callFunc 72 args).run Try.prog w = .ok (.enter 72 args) w := entersE Try.func72 (by kernel_rfl) (by kernel_rfl)
end Go.Proofs.Ytlhnjaeocoafnaa
namespace Go.Proofs.Ytlhnjaeocoafnaa
open Go.RowKit
set_option maxRecDepth 100000

set_option maxRecDepth 100000 in
set_option maxHeartbeats 8000000 in
/-- Is the first one better than the second one? -/
theorem isBetter16 (b a : Ck) (w : World) :
    Calls Try.prog 45 #[.agg (cc b), .agg (cc a)] w fun e w' => e = .returned (.bool (betC lessR a b)) ∧ Below w.heap.size w w' := by
  have HA := Lib.hid (fun W => rootLess a.root b.root W)
  obtain ⟨A, hA⟩ : ∃ A, A = a.epoch.toNat := ⟨_, rfl⟩
  obtain ⟨B, hB'⟩ : ∃ B, B = b.epoch.toNat := ⟨_, rfl⟩
  have HT : Hid (betC lessR a b = (decide (A < B) || (decide (B = A) && lessR a.root b.root))) := by
    show _ = _
    unfold betC
    rw [hA, hB', show decide (b.epoch = a.epoch) = decide (b.epoch.toNat = a.epoch.toNat) by rw [Bool.eq_iff_iff, decide_eq_true_iff, decide_eq_true_iff]; exact UInt64.toNat_inj.symm]
  rw [HT.out]
  obtain ⟨W0, hW0⟩ : ∃ W0, W0 = (w.alloc (.cells (cc b) 32)).alloc (.cells (cc a) 32) := ⟨_, rfl⟩
  obtain ⟨hB, k0, k1, hz0⟩ := heap2 w _ _ _ _ W0 hW0
  have HB := Lib.hid hB
  have HW := Lib.hid hW0
  have y0 := (ck_v k0).e
  have y1 := (ck_v k1).e
  have z0 := cc_rd0_root k0
  have z1 := cc_rd0_root k1
  rw [← hB'] at y0
  rw [← hA] at y1
  generalize lessR a.root b.root = r at *
  clear hW0 hB k0 k1 hz0 HT hA hB'
  by_cases e : B = A
  · have t1 : ((B : Int) != (A : Int)) = false := by rw [e]; exact bne_self_eq_false _
    have t1' : (B != A) = false := by rw [e]; exact bne_self_eq_false _
    have t2 : decide (A < B) = false := decide_eq_false (by omega)
    have t3 : decide (B = A) = true := decide_eq_true e
    rw [t2, t3, Bool.false_or, Bool.true_and]
    clear e t2 t3
    go_enter Try.func45, Try.ntmps45
    go_upto_region 1 with fail
    rw [← HW.out]
    go_wp2_with fail
    refine (HA.out W0).mono ?_
    rintro e w1 ⟨rfl, g⟩
    have G1 := Lib.hid (belowT HB.out g)
    clear g
    go_wp2_with fail
    go_ret
    exact ⟨rfl, G1.out⟩
  · have t1 : ((B : Int) != (A : Int)) = true := by rw [bne_iff_ne]; omega
    have t1' : (B != A) = true := by rw [bne_iff_ne]; omega
    have t3 : decide (B = A) = false := decide_eq_false e
    rw [t3, Bool.false_and, Bool.or_false]
    have t4 : decide ((A : Int) < (B : Int)) = decide (A < B) := decide_eq_decide.2 (by omega)
    obtain ⟨E, hE⟩ : ∃ E, E = decide (A < B) := ⟨_, rfl⟩
    rw [← hE] at t4 ⊢
    have t4' : decide (A < B) = E := hE.symm
    clear e t3 hE
    go_enter Try.func45, Try.ntmps45
    go_upto_region 1 with fail
    rw [← HW.out]
    go_wp2_with fail
    go_ret
    exact ⟨rfl, HB.out⟩
theorem enters_isBetter16 : ∀ args w, (callFunc 45 args).run Try.prog w = .ok (.enter 45 args) w := entersE Try.func45 (by kernel_rfl) (by kernel_rfl)
end Go.Proofs.Ytlhnjaeocoafnaa
namespace Go.Proofs.Ytlhnjaeocoafnaa
open Go.RowKit
set_option maxRecDepth 100000

set_option maxRecDepth 100000 in
set_option maxHeartbeats 8000000 in
theorem progBest_n (s : SlV) (p : Option Addr) (n cp : Nat) (l : List Nd) (js : List Ck) (fin : Ck) (w : World) (h : SlE Ene w (sv s) l) (h3 : SlE Ecc w (.slice p n cp) js) (hl : js.length = n) (hj : n ≤ 1000) :
    Calls Try.prog 19 #[.agg (tr ⟨s⟩), .slice p n cp, .agg (cc fin)] w fun e w' => e = .returned (.agg (cc (bestJ l js fin))) ∧ Below w.heap.size w w' := by
  have HBh := Lib.hid (fun c W (g : Below w.heap.size w W) => isBehind16 s l c fin W (slE_keep g h))
  have HBt := Lib.hid (fun b a W => isBetter16 b a W)
  obtain ⟨r, hr⟩ : ∃ r, r = bestJ l js fin := ⟨_, rfl⟩
  rw [← hr]
  have HR := Lib.hid hr
  have HL := Lib.hid hl
  have HN := Lib.hid hj
  obtain ⟨W3, hW3⟩ : ∃ W3, W3 = ((w.alloc (.cells (tr ⟨s⟩) 24)).alloc (.cells (cc fin) 32)).alloc (.cells (cc zcc) 32) := ⟨_, rfl⟩
  obtain ⟨hB, k0, k1, k2, hz0⟩ := heap3 w _ _ _ _ _ _ W3 hW3
  have HW := Lib.hid hW3
  have y0 := (ck_v k1).a
  have D := Lib.hid (bv_new (s := s) (fin := fin) hB k0 k1 k2)
  clear hW3 hB k0 k1 k2 hz0 hr hl hj
  go_enter Try.func19, Try.ntmps19
  go_upto_region 1 with fail
  rw [← HW.out]
  go_upto_region 2 with fail
  obtain ⟨W0, hW0⟩ : ∃ W0, W0 = W3.alloc (.cells (cc fin) 32) := ⟨_, rfl⟩
  rw [← hW0]
  rw [← hW0] at D
  generalize W3.heap.size = R at *
  clear hW0 y0 HW
  go_wp2_with fail
  go_loopw [13] (fun i wr => ∃ (j : Nat) (o : Ck), j ≤ n ∧ i = .int .i64 (j : Int) ∧ bestC lessR (fun c => behindB l c fin) (js.drop j) o = r ∧ Bv w wr s fin R o) (fun i _ => n - (intOf i).toNat)
  case atStart => exact ⟨0, fin, Nat.zero_le _, rfl, HR.out.symm, D.out⟩
  case round =>
    obtain ⟨j, o, hj, rfl, hb, hD⟩ := hrel
    have HBe := Lib.hid hb
    replace D := Lib.hid hD
    clear hb hD
    by_cases hlt : j < n
    · have i0 : (0 : Int) ≤ (j : Int) := by omega
      have i1 : (j : Int) < (n : Int) := by omega
      have u1 : (j : Int) + 1 < 10000 := by have := HN.out; omega
      have d0 : decide ((j : Int) < (n : Int)) = true := decide_eq_true i1
      have d0' : decide (j < n) = true := decide_eq_true hlt
      have HLT := Lib.hid hlt
      obtain ⟨b1, o1, rfl, _, x1⟩ := ccs_ptr (slE_keep D.out.g h3) (by have := HL.out; omega)
      have y1 := ccs_ld x1 (i := j) (by have := HL.out; omega)
      have HSt := Lib.hid (best_step (ok := (fun c => behindB l c fin)) (js := js) (j := j) (by rw [HL.out]; exact hlt) o)
      generalize ckAt js j = C at *
      have HBh' := Lib.hid (HBh.out C)
      have HBt' := Lib.hid (HBt.out C o)
      generalize behindB l C fin = a at *
      generalize betC lessR o C = b at *
      clear x1 hlt
      go_upto_region 5 with fail
      obtain ⟨W5, hW5⟩ : ∃ W5, W5 = wr.alloc (.cells (cc C) 32) := ⟨_, rfl⟩
      rw [← hW5]
      have hz5 : W5.heap[wr.heap.size]? = some (.cells (cc C) 32 (0, 0)) := by rw [hW5]; exact heap_alloc_last wr _
      replace D := Lib.hid (D.out.keep (W' := W5) (by rw [hW5]; exact below1))
      have C5 := Lib.hid hz5
      obtain ⟨Q, hQ⟩ : ∃ Q, Q = wr.heap.size := ⟨_, rfl⟩
      rw [← hQ] at C5 hz5 ⊢
      clear hW5 y1 hQ
      have z1 := (ck_v D.out.o).a
      have z2 := (ck_v hz5).a
      clear hz5
      go_wp2_with fail
      refine (HBt'.out _).mono ?_
      rintro e u ⟨rfl, g⟩
      replace D := Lib.hid (D.out.keep g)
      replace C5 := Lib.hid (blk_keep g C5.out)
      clear g z1 z2
      have z0 := (tr_cells D.out.t).2.1
      have z1 := (ck_v D.out.f).a
      have z2 := (ck_v C5.out).a
      cases b
      · go_wp2_with fail
        go_roundw
        case rel => exact ⟨j + 1, o, HLT.out, by go_num, by rw [← HBe.out, HSt.out, Bool.and_false]; rfl, D.out⟩
        case measure => simp [intOf]; have := HLT.out; omega
      · go_wp2_with fail
        refine (HBh'.out _ D.out.g).mono ?_
        rintro e u2 ⟨rfl, g⟩
        replace D := Lib.hid (D.out.keep g)
        replace C5 := Lib.hid (blk_keep g C5.out)
        clear g z0 z1 z2
        have z2 := (ck_v C5.out).a
        have z3 := wrA_block D.out.o (cc_size _)
        cases a
        · go_wp2_with fail
          go_roundw
          case rel => exact ⟨j + 1, o, HLT.out, by go_num, by rw [← HBe.out, HSt.out]; rfl, D.out⟩
          case measure => simp [intOf]; have := HLT.out; omega
        · go_wp2_with fail
          go_roundw
          case rel => exact ⟨j + 1, C, HLT.out, by go_num, by rw [← HBe.out, HSt.out]; rfl, D.out.put C⟩
          case measure => simp [intOf]; have := HLT.out; omega
    · obtain rfl : j = n := by omega
      have d0 : decide ((j : Int) < (j : Int)) = false := decide_eq_false (Int.lt_irrefl _)
      have d0' : decide (j < j) = false := decide_eq_false (Nat.lt_irrefl _)
      have hF : Hid (o = r) := by
        show o = r
        rw [← HBe.out, List.drop_eq_nil_of_le (by rw [HL.out]; exact Nat.le_refl _)]; rfl
      have y1 := (ck_v D.out.o).a
      have z1 := wrA_block D.out.r (cc_size _)
      clear hlt
      go_wp2_with fail
      exact bodyPost_ret (results_agg1 Try.isAgg32 Try.sizeOf32 _ 6 rfl _ _ _ _ rfl (ldA_block (heap_putC D.out.r) (cc_size _))) rfl ⟨by rw [hF.out], below_stA D.out.g (by omega)⟩
theorem progBest (s : SlV) (v : Value) (l : List Nd) (js : List Ck) (fin : Ck) (w : World) (h : SlE Ene w (sv s) l) (h3 : SlE Ecc w v js) (hj : js.length ≤ 1000) :
    Calls Try.prog 19 #[.agg (tr ⟨s⟩), v, .agg (cc fin)] w fun e w' => e = .returned (.agg (cc (bestJ l js fin))) ∧ Below w.heap.size w w' := by
  have k := h3
  obtain ⟨p, cp, rfl, _⟩ := slE_shape h3
  exact progBest_n s p _ cp l js fin w h k rfl hj
theorem enters_progBest : ∀ args w, (callFunc 19 args).run Try.prog w = .ok (.enter 19 args) w := entersE Try.func19 (by kernel_rfl) (by kernel_rfl)
end Go.Proofs.Ytlhnjaeocoafnaa
