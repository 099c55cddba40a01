/-
  The document's links: Same, walked. (written by wip/gen/ref15.py)
  The document's links: One, around, Clash, walked.
-/
import Derived.Test.YtkbifcfgcokmlaaQ14
import Derived.Deep.Cut
import Derived.Deep.CutRange
import Derived.Deep.RegionLaw
namespace Go.Proofs.Ytkbifcfgcokmlaa
open Go.RowKit
set_option maxRecDepth 100000

set_option maxRecDepth 100000 in
set_option maxHeartbeats 8000000 in
theorem ref15Same_n (p q : Option Addr) (n m cp cq : Nat) (a b : List Lk) (w : World) (h : SlE Elk w (.slice p n cp) a) (h' : SlE Elk w (.slice q m cq) b) (ha : a.length = n) (hb : b.length = m) (hn : n ≤ 1000) :
    Calls Try.prog 12 #[.slice p n cp, .slice q m cq] w fun e w' => e = .returned (.bool (decide (a = b))) ∧ Below w.heap.size w w' := by
  have HS := Lib.hid h
  have HS2 := Lib.hid h'
  have HA := Lib.hid ha
  have HB := Lib.hid hb
  have HN := Lib.hid hn
  obtain ⟨r, hr⟩ : ∃ r, r = decide (a = b) := ⟨_, rfl⟩
  rw [← hr]
  have HR := Lib.hid hr
  clear h h' ha hb hn hr
  by_cases hnm : n = m
  · subst hnm
    have e0 : ((n : Int) != (n : Int)) = false := by simp
    go_enter Try.func12, Try.ntmps12
    go_wp2_with fail
    clear e0
    go_loopw [5] (fun i wr => ∃ j : Nat, j ≤ n ∧ i = .int .i64 (j : Int) ∧ (∀ x, x < j → lkAt a x = lkAt b x) ∧ Below w.heap.size w wr) (fun i _ => n - (intOf i).toNat)
    case atStart => exact ⟨0, Nat.zero_le _, rfl, fun x hx => absurd hx (Nat.not_lt_zero _), Below.refl _ _⟩
    case round =>
      obtain ⟨j, hj, rfl, hx, hg⟩ := hrel
      have HX := Lib.hid hx
      have HG := Lib.hid hg
      clear hx hg
      by_cases hlt : j < n
      · have i0 : (0 : Int) ≤ (j : Int) := by omega
        have i1 : (j : Int) < (n : Int) := by omega
        have u1 : (j : Int) + 1 < 10000 := by have := HN.out; omega
        have d0 : decide ((j : Int) < (n : Int)) = true := decide_eq_true i1
        have d0' : decide (j < n) = true := decide_eq_true hlt
        have HLT := Lib.hid hlt
        obtain ⟨b1, o1, rfl, _, x1⟩ := lks_ptr (slE_keep HG.out HS.out) (by have := HA.out; omega)
        obtain ⟨b2, o2, rfl, _, x2⟩ := lks_ptr (slE_keep HG.out HS2.out) (by have := HB.out; omega)
        have y1 := lks_ld x1 (i := j) (by have := HA.out; omega)
        have y2 := lks_ld x2 (i := j) (by have := HB.out; omega)
        clear x1 x2 hlt
        by_cases he : lkAt a j = lkAt b j
        · have HE := Lib.hid he
          rw [he] at y1
          clear he
          go_wp2_with fail
          go_quiet (fail)
          go_wp2_with fail
          go_roundw
          case rel => exact ⟨j + 1, HLT.out, by go_num, (fun x hx => by
            rcases Nat.lt_succ_iff_lt_or_eq.1 hx with h | rfl
            · exact HX.out x h
            · exact HE.out), belowD HG.out _⟩
          case measure => simp [intOf]; have := HLT.out; omega
        · have hF : Hid (r = false) := by
            show r = false
            rw [HR.out, decide_eq_false_iff_not]
            intro e; exact he (by rw [e])
          have t1 : decide (lkAt a j = lkAt b j) = false := decide_eq_false he
          generalize lkAt a j = La at *
          generalize lkAt b j = Lb at *
          clear he
          go_wp2_with fail
          go_quiet (fail)
          go_wp2_with fail
          go_ret
          exact ⟨by rw [hF.out]; first | done | rfl, belowD HG.out _⟩
      · obtain rfl : j = n := by omega
        have d0 : decide ((j : Int) < (j : Int)) = false := decide_eq_false (Int.lt_irrefl _)
        have d0' : decide (j < j) = false := decide_eq_false (Nat.lt_irrefl _)
        have hF : Hid (r = true) := by
          show r = true
          rw [HR.out, decide_eq_true_iff]
          exact lk_ext (by rw [HA.out, HB.out]) fun i hi => HX.out i (by rw [← HB.out]; exact hi)
        clear hlt
        go_wp2_with fail
        go_ret
        exact ⟨by rw [hF.out]; first | done | rfl, HG.out⟩
  · have e0 : ((n : Int) != (m : Int)) = true := by rw [bne_iff_ne]; omega
    have hF : Hid (r = false) := by
      show r = false
      rw [HR.out, decide_eq_false_iff_not]
      intro e; apply hnm; rw [← HA.out, ← HB.out, e]
    clear hnm
    go_enter Try.func12, Try.ntmps12
    go_wp2_with fail
    go_ret
    exact ⟨by rw [hF.out]; first | done | rfl, Below.refl _ _⟩
theorem ref15Same (u v : Value) (a b : List Lk) (w : World) (h : SlE Elk w u a) (h' : SlE Elk w v b) (hn : a.length ≤ 1000) :
    Calls Try.prog 12 #[u, v] w fun e w' => e = .returned (.bool (decide (a = b))) ∧ Below w.heap.size w w' := by
  have k := h
  have k' := h'
  obtain ⟨p, cp, rfl, _⟩ := slE_shape h
  obtain ⟨q, cq, rfl, _⟩ := slE_shape h'
  exact ref15Same_n p q _ _ cp cq a b w k k' rfl rfl hn
theorem enters_ref15Same : ∀ args w, (callFunc 12 args).run Try.prog w = .ok (.enter 12 args) w := entersE Try.func12 (by kernel_rfl) (by kernel_rfl)
end Go.Proofs.Ytkbifcfgcokmlaa
namespace Go.Proofs.Ytkbifcfgcokmlaa
open Go.RowKit
set_option maxRecDepth 100000

set_option maxRecDepth 100000 in
set_option maxHeartbeats 4000000 in
theorem ref15Around (a b : Lk) (w : World) :
    Calls Try.prog 29 #[.agg (lk a), .agg (lk b)] w fun e w' => e = .returned (.bool (roundB a b)) ∧ Below w.heap.size w w' := by
  obtain ⟨W0, hW0⟩ : ∃ W0, W0 = (w.alloc (.cells (lk a) 36)).alloc (.cells (lk b) 36) := ⟨_, rfl⟩
  obtain ⟨hB, A, B⟩ := lk_two w a b W0 hW0
  have HB := Lib.hid hB
  have HW := Lib.hid hW0
  have a1 := A.se
  have a2 := A.te
  have b1 := B.se
  have b2 := B.te
  have HR : Hid (roundB a b = (decide (a.s.epoch.toNat < b.s.epoch.toNat) && decide (b.t.epoch.toNat < a.t.epoch.toNat))) := by show _ = _; unfold roundB; rw [Bool.eq_iff_iff]; simp
  rw [HR.out]
  clear HR hW0 hB A B
  generalize a.s.epoch.toNat = A1 at *
  generalize a.t.epoch.toNat = A2 at *
  generalize b.s.epoch.toNat = B1 at *
  generalize b.t.epoch.toNat = B2 at *
  obtain ⟨E1, hE1⟩ : ∃ E, E = decide (A1 < B1) := ⟨_, rfl⟩
  obtain ⟨E2, hE2⟩ : ∃ E, E = decide (B2 < A2) := ⟨_, rfl⟩
  rw [← hE1, ← hE2]
  have t1 : decide ((A1 : Int) < (B1 : Int)) = E1 := by rw [hE1]; congr 1; rw [eq_iff_iff]; omega
  have t1' : decide (A1 < B1) = E1 := hE1.symm
  have t2 : decide ((B2 : Int) < (A2 : Int)) = E2 := by rw [hE2]; congr 1; rw [eq_iff_iff]; omega
  have t2' : decide (B2 < A2) = E2 := hE2.symm
  clear hE1 hE2
  go_enter Try.func29, Try.ntmps29
  go_upto_region 1 with fail
  rw [← HW.out]
  cases E1 <;> (
    go_wp2_with fail
    go_ret
    exact ⟨by first | rfl | (rw [t2']; rfl) | (cases E2 <;> rfl), HB.out⟩)
theorem enters_ref15Around : ∀ args w, (callFunc 29 args).run Try.prog w = .ok (.enter 29 args) w := entersE Try.func29 (by kernel_rfl) (by kernel_rfl)

set_option maxRecDepth 100000 in
set_option maxHeartbeats 8000000 in
theorem ref15Clash (a b : Lk) (w : World) :
    Calls Try.prog 14 #[.agg (lk a), .agg (lk b)] w fun e w' => e = .returned (.bool (clashB a b)) ∧ Below w.heap.size w w' := by
  obtain ⟨W0, hW0⟩ : ∃ W0, W0 = (w.alloc (.cells (lk a) 36)).alloc (.cells (lk b) 36) := ⟨_, rfl⟩
  obtain ⟨hB, m0, m1, _⟩ := heap2 w _ _ _ _ W0 hW0
  have HB := Lib.hid hB
  have HW := Lib.hid hW0
  have M0 := Lib.hid m0
  have M1 := Lib.hid m1
  have HO := Lib.hid (fun W => ref15One a b W)
  have HX := Lib.hid (fun W => ref15Around a b W)
  have HY := Lib.hid (fun W => ref15Around b a W)
  have HR : Hid (clashB a b = ((!oneB a b && decide (a.t.epoch.toNat = b.t.epoch.toNat)) || (roundB a b || roundB b a))) := by
    show _ = _
    unfold clashB
    rw [show decide (a.t.epoch = b.t.epoch) = decide (a.t.epoch.toNat = b.t.epoch.toNat) by rw [Bool.eq_iff_iff, decide_eq_true_iff, decide_eq_true_iff]; exact UInt64.toNat_inj.symm]
  rw [HR.out]
  generalize oneB a b = O at *
  generalize roundB a b = X at *
  generalize roundB b a = Y at *
  obtain ⟨A, hA⟩ : ∃ A, A = a.t.epoch.toNat := ⟨_, rfl⟩
  obtain ⟨B, hB2⟩ : ∃ B, B = b.t.epoch.toNat := ⟨_, rfl⟩
  have HA := Lib.hid hA
  have HBe := Lib.hid hB2
  rw [← hA, ← hB2]
  obtain ⟨E, hE⟩ : ∃ E, E = decide (A = B) := ⟨_, rfl⟩
  rw [← hE]
  have HEe := Lib.hid hE
  clear HR hW0 hB m0 m1 hA hB2 hE
  go_enter Try.func14, Try.ntmps14
  go_upto_region 1 with fail
  rw [← HW.out]
  have a1 := (lk_v M0.out).a
  have b1 := (lk_v M1.out).a
  go_wp2_with fail
  refine (HO.out W0).mono ?_
  rintro e w1 ⟨rfl, g⟩
  replace HB := Lib.hid (belowT HB.out g)
  replace M0 := Lib.hid (blk_keep g M0.out)
  replace M1 := Lib.hid (blk_keep g M1.out)
  clear g a1 b1
  have a1 := (lk_v M0.out).a
  have b1 := (lk_v M1.out).a
  go_wp2_with fail
  refine (HX.out w1).mono ?_
  rintro e w2 ⟨rfl, g⟩
  replace HB := Lib.hid (belowT HB.out g)
  replace M0 := Lib.hid (blk_keep g M0.out)
  replace M1 := Lib.hid (blk_keep g M1.out)
  clear g a1 b1
  have a1 := (lk_v M0.out).a
  have b1 := (lk_v M1.out).a
  go_wp2_with fail
  refine (HY.out w2).mono ?_
  rintro e w3 ⟨rfl, g⟩
  replace HB := Lib.hid (belowT HB.out g)
  replace M0 := Lib.hid (blk_keep g M0.out)
  replace M1 := Lib.hid (blk_keep g M1.out)
  clear g a1 b1
  have a1 := (lk_v M0.out).te
  have b1 := (lk_v M1.out).te
  rw [← HA.out] at a1
  rw [← HBe.out] at b1
  have hE := HEe.out
  have t1 : ((A : Int) == (B : Int)) = E := by rw [hE, Bool.eq_iff_iff, beq_iff_eq, decide_eq_true_iff]; omega
  have t1' : (A == B) = E := by rw [hE, Bool.eq_iff_iff, beq_iff_eq, decide_eq_true_iff]
  have t1'' : decide (A = B) = E := hE.symm
  clear hE M0 M1 HO HX HY
  cases O <;> cases E <;> cases X <;> cases Y <;> (
    go_wp2_with fail
    go_ret
    exact ⟨rfl, HB.out⟩)
theorem enters_ref15Clash : ∀ args w, (callFunc 14 args).run Try.prog w = .ok (.enter 14 args) w := entersE Try.func14 (by kernel_rfl) (by kernel_rfl)
end Go.Proofs.Ytkbifcfgcokmlaa
