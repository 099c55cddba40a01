/-
  The document's links: One, walked. (cut out of XR15One)
  The document's links: May, walked. (written by wip/gen/ref15.py)
-/
import Derived.Test.YtkbifcfgcokmlaaQ13
import Derived.Deep.Cut
import Derived.Deep.CutRange
import Derived.Deep.RegionLaw
namespace Go.Proofs.Ytkbifcfgcokmlaa
open Go.RowKit
set_option maxRecDepth 100000

/-- Two links in variables. -/
theorem lk_two (w : World) (a b : Lk) (W : World) (hW : W = (w.alloc (.cells (lk a) 36)).alloc (.cells (lk b) 36)) : Below w.heap.size w W ∧ LkV W w.heap.size a ∧ LkV W (w.heap.size + 1) b := by
  obtain ⟨g, m, n, _⟩ := heap2 w _ _ _ _ W hW
  exact ⟨g, lk_v m, lk_v n⟩

set_option maxRecDepth 100000 in
set_option maxHeartbeats 4000000 in
theorem ref15One (a b : Lk) (w : World) :
    Calls Try.prog 28 #[.agg (lk a), .agg (lk b)] w fun e w' => e = .returned (.bool (oneB a b)) ∧ Below w.heap.size w w' := by
  obtain ⟨W0, hW0⟩ : ∃ W0, W0 = (w.alloc (.cells (lk a) 36)).alloc (.cells (lk b) 36) := ⟨_, rfl⟩
  obtain ⟨hB, A, B⟩ := lk_two w a b W0 hW0
  have HB := Lib.hid hB
  have HW := Lib.hid hW0
  have a1 := A.s
  have a2 := A.t
  have b1 := B.s
  have b2 := B.t
  have HR : Hid (oneB a b = (decide (a.s = b.s) && decide (a.t = b.t))) := by show _ = _; unfold oneB; rw [Bool.eq_iff_iff]; simp
  rw [HR.out]
  obtain ⟨E1, hE1⟩ : ∃ E, E = decide (a.s = b.s) := ⟨_, rfl⟩
  obtain ⟨E2, hE2⟩ : ∃ E, E = decide (a.t = b.t) := ⟨_, rfl⟩
  rw [← hE1, ← hE2]
  clear HR hW0 hB A B
  go_enter Try.func28, Try.ntmps28
  go_upto_region 1 with fail
  rw [← HW.out]
  generalize a.s = A1 at *
  generalize a.t = A2 at *
  generalize b.s = B1 at *
  generalize b.t = B2 at *
  have t1 := hE1.symm
  have t2 := hE2.symm
  clear hE1 hE2
  cases E1 <;> (
    go_wp2_with fail
    go_ret
    exact ⟨by first | rfl | (rw [t2]; rfl) | (cases E2 <;> rfl), HB.out⟩)
theorem enters_ref15One : ∀ args w, (callFunc 28 args).run Try.prog w = .ok (.enter 28 args) w := entersE Try.func28 (by kernel_rfl) (by kernel_rfl)
end Go.Proofs.Ytkbifcfgcokmlaa
namespace Go.Proofs.Ytkbifcfgcokmlaa
open Go.RowKit
set_option maxRecDepth 100000

set_option maxRecDepth 100000 in
set_option maxHeartbeats 8000000 in
theorem ref15May_n (p : Option Addr) (n cp : Nat) (l : List Lk) (w : World) (h : SlE Elk w (.slice p n cp) l) (hl : l.length = n) (hn : n ≤ 1000) :
    Calls Try.prog 13 #[.slice p n cp] w fun e w' => e = .returned (.bool (mayL l)) ∧ Below w.heap.size w w' := by
  have HS := Lib.hid h
  have HL := Lib.hid hl
  have HN := Lib.hid hn
  obtain ⟨r, hr⟩ : ∃ r, r = mayL l := ⟨_, rfl⟩
  rw [← hr]
  have HR := Lib.hid hr
  have HO := Lib.hid (fun (a b : Lk) W => ref15One a b W)
  clear h hl hn hr
  go_enter Try.func13, Try.ntmps13
  go_wp2_with fail
  go_loopw [3] (fun i wr => ∃ j : Nat, j ≤ n ∧ i = .int .i64 (j : Int) ∧ MayK l j ∧ Below w.heap.size w wr) (fun i _ => n - (intOf i).toNat)
  case atStart => exact ⟨0, Nat.zero_le _, rfl, fun i hi => absurd hi (Nat.not_lt_zero _), Below.refl _ _⟩
  case round =>
    obtain ⟨j, hj, rfl, hm, hb⟩ := hrel
    obtain ⟨wo, rfl⟩ : ∃ wo : World, wo = wr := ⟨_, rfl⟩
    have HM := Lib.hid hm
    have HB := Lib.hid hb
    clear hm hb
    by_cases hlt : j < n
    · have i0 : (0 : Int) ≤ (j : Int) := by omega
      have i1 : (j : Int) < (n : Int) := by omega
      have u1 : (j : Int) + 1 < 10000 := by have := HN.out; omega
      have d0 : decide ((j : Int) < (n : Int)) = true := decide_eq_true i1
      have d0' : decide (j < n) = true := decide_eq_true hlt
      have HLT := Lib.hid hlt
      obtain ⟨b1, o1, rfl, _, x1⟩ := lks_ptr (slE_keep HB.out HS.out) (by have := HL.out; omega)
      have y1 := lks_se x1 (i := j) (by have := HL.out; omega)
      have y2 := lks_te x1 (i := j) (by have := HL.out; omega)
      have y3 := lks_mask x1 (i := j) (by have := HL.out; omega)
      have HOK : Hid (r = true → okK (lkAt l j)) := fun e => ((mayL_iff.1 (HR.out.symm.trans e)).1 j (by rw [HL.out]; exact HLT.out)).1
      have HOK2 : Hid ((lkAt l j).s.epoch.toNat < (lkAt l j).t.epoch.toNat → 1 ≤ (lkAt l j).mask.toNat → (lkAt l j).mask.toNat ≤ 255 → okK (lkAt l j)) := fun a b c => ⟨a, b, c⟩
      have HOK3 : Hid (okK (lkAt l j) → (lkAt l j).s.epoch.toNat < (lkAt l j).t.epoch.toNat ∧ 1 ≤ (lkAt l j).mask.toNat ∧ (lkAt l j).mask.toNat ≤ 255) := fun h => h
      generalize (lkAt l j).s.epoch.toNat = S at *
      generalize (lkAt l j).t.epoch.toNat = T at *
      generalize (lkAt l j).mask.toNat = M at *
      clear hlt x1
      by_cases h1 : T ≤ S
      · have t1 : decide ((T : Int) ≤ (S : Int)) = true := decide_eq_true (by omega)
        have t1' : decide (T ≤ S) = true := decide_eq_true h1
        have hF : Hid (r = false) := by show r = false; rw [← Bool.not_eq_true]; intro e; have := HOK3.out (HOK.out e); omega
        clear h1
        go_wp2_with fail
        go_quiet (fail)
        go_wp2_with fail
        go_ret
        exact ⟨by rw [hF.out]; first | done | rfl, belowD HB.out _⟩
      · have t1 : decide ((T : Int) ≤ (S : Int)) = false := decide_eq_false (by omega)
        have t1' : decide (T ≤ S) = false := decide_eq_false h1
        by_cases h2 : M < 1
        · have t2 : decide ((M : Int) < 1) = true := decide_eq_true (by omega)
          have t2' : decide (M < 1) = true := decide_eq_true h2
          have t2'' : decide (M = 0) = true := decide_eq_true (by omega)
          have hF : Hid (r = false) := by show r = false; rw [← Bool.not_eq_true]; intro e; have := HOK3.out (HOK.out e); omega
          clear h1 h2
          go_wp2_with fail
          go_quiet (fail)
          go_wp2_with fail
          go_ret
          exact ⟨by rw [hF.out]; first | done | rfl, belowD HB.out _⟩
        · have t2 : decide ((M : Int) < 1) = false := decide_eq_false (by omega)
          have t2' : decide (M < 1) = false := decide_eq_false h2
          have t2'' : decide (M = 0) = false := decide_eq_false (by omega)
          by_cases h3 : 255 < M
          · have t3 : decide ((255 : Int) < (M : Int)) = true := decide_eq_true (by omega)
            have t3' : decide (255 < M) = true := decide_eq_true h3
            have hF : Hid (r = false) := by show r = false; rw [← Bool.not_eq_true]; intro e; have := HOK3.out (HOK.out e); omega
            clear h1 h2 h3
            go_wp2_with fail
            go_quiet (fail)
            go_wp2_with fail
            go_ret
            exact ⟨by rw [hF.out]; first | done | rfl, belowD HB.out _⟩
          · have t3 : decide ((255 : Int) < (M : Int)) = false := decide_eq_false (by omega)
            have t3' : decide (255 < M) = false := decide_eq_false h3
            have HK := Lib.hid (HOK2.out (by omega) (by omega) (by omega))
            clear h1 h2 h3
            go_wp2_with fail
            go_quiet (fail)
            go_wp2_with fail
            clear y1 y2 y3 t1 t1' t2 t2' t2'' t3 t3' d0 d0'
            go_loopw [4] (fun k wr => ∃ q : Nat, q ≤ j ∧ k = .int .i64 (q : Int) ∧ (∀ x, x < q → oneB (lkAt l j) (lkAt l x) = false) ∧ Below wo.heap.size wo wr) (fun k _ => j - (intOf k).toNat)
            case atStart => exact ⟨0, Nat.zero_le _, rfl, fun x hx => absurd hx (Nat.not_lt_zero _), belowD (Below.refl _ _) _⟩
            case round =>
              obtain ⟨q, hq, rfl, hx, hb⟩ := hrel
              have HX := Lib.hid hx
              have HI := Lib.hid hb
              clear hx hb
              by_cases hqj : q < j
              · have d1 : decide ((q : Int) < (j : Int)) = true := decide_eq_true (by omega)
                have d1' : decide (q < j) = true := decide_eq_true hqj
                have q0 : (0 : Int) ≤ (q : Int) := by omega
                have q1 : (q : Int) < (n : Int) := by omega
                have q2 : (q : Int) + 1 < 10000 := by omega
                have HQ := Lib.hid hqj
                obtain ⟨b2, o2, e2, _, x2⟩ := lks_ptr (slE_keep (belowT HB.out HI.out) HS.out) (by have := HL.out; omega)
                cases e2
                have y1 := lks_ld x2 (i := j) (by have := HL.out; omega)
                have y2 := lks_ld x2 (i := q) (by have := HL.out; omega)
                have HC := Lib.hid (fun W => HO.out (lkAt l j) (lkAt l q) W)
                obtain ⟨E, hE⟩ : ∃ E, E = oneB (lkAt l j) (lkAt l q) := ⟨_, rfl⟩
                rw [← hE] at HC
                have HE := Lib.hid hE
                have HRq : Hid (r = true → oneB (lkAt l j) (lkAt l q) = false) := fun e => ((mayL_iff.1 (HR.out.symm.trans e)).1 j (by rw [HL.out]; exact HLT.out)).2 q HQ.out
                generalize lkAt l j = Lj at *
                generalize hLq : lkAt l q = Lq at *
                have HLq := Lib.hid hLq
                clear hqj x2 hE hLq
                go_wp2_with fail
                have L0 := fun p : Wd wr.drew => wd_ld y1 (by decide) p
                have L1 := fun p : Wd wr.drew => wd_ld y2 (by decide) p
                clear y1 y2
                refine wp_region_lex [8] (by kernel_rfl) (by kernel_rfl) (by kernel_rfl) ?_
                repeat (first | (refine wpXL_quiet rfl rfl _ cls_begin ?_; (first | go_big_quiet_step (fail) | quiet_step (fail)); refine wpQuiet_nil ?_) | refine wpXL_skip rfl ?_)
                refine wpXL_call rfl rfl rfl enters_ref15One #[.agg (lk Lj), .agg (lk Lq)] rfl ?_
                refine (HC.out _).mono ?_
                rintro e u ⟨rfl, g⟩
                refine ⟨_, rfl, g, ?_⟩
                simp only [Act.put, List.setIfInBounds_toArray, List.set_cons_zero, List.set_cons_succ]
                have G : Hid (Below wo.heap.size wo u) := belowT HI.out (belowT (belowD (Below.refl _ _) 1) g)
                clear g
                repeat (first | (refine wpXL_quiet rfl rfl _ cls_begin ?_; (first | go_big_quiet_step (fail) | quiet_step (fail)); refine wpQuiet_nil ?_) | refine wpXL_skip rfl ?_)
                refine wpXL_nil ?_
                clear L0 L1
                cases E
                · go_wp2_with fail
                  go_roundw
                  case rel => exact ⟨q + 1, HQ.out, by go_num, (fun x hx => by
                    rcases Nat.lt_succ_iff_lt_or_eq.1 hx with h | rfl
                    · exact HX.out x h
                    · rw [HLq.out]; exact HE.out.symm), G.out⟩
                  case measure => simp [intOf]; have := HQ.out; omega
                · have hF : Hid (r = false) := by show r = false; rw [← Bool.not_eq_true]; intro e; have := HRq.out e; rw [← HE.out] at this; cases this
                  go_wp2_with fail
                  go_ret
                  exact ⟨by rw [hF.out]; first | done | rfl, belowT HB.out G.out⟩
              · obtain rfl : q = j := by omega
                have d1 : decide ((q : Int) < (q : Int)) = false := decide_eq_false (Int.lt_irrefl _)
                have d1' : decide (q < q) = false := decide_eq_false (Nat.lt_irrefl _)
                clear hqj
                go_wp2_with fail
                go_roundw
                case rel => exact ⟨q + 1, HLT.out, by go_num, (fun i hi => by
                  rcases Nat.lt_succ_iff_lt_or_eq.1 hi with h | rfl
                  · exact HM.out i h
                  · exact ⟨HK.out, HX.out⟩), belowT HB.out HI.out⟩
                case measure => simp [intOf]; have := HLT.out; omega
    · obtain rfl : j = n := by omega
      have d0 : decide ((j : Int) < (j : Int)) = false := decide_eq_false (Int.lt_irrefl _)
      have d0' : decide (j < j) = false := decide_eq_false (Nat.lt_irrefl _)
      have hF : Hid (r = decide (j ≤ 16)) := by
        show r = _
        rw [HR.out, Bool.eq_iff_iff, mayL_iff, decide_eq_true_iff, HL.out]
        exact ⟨fun h => h.2, fun h => ⟨HM.out, h⟩⟩
      have t1 : decide ((j : Int) ≤ 16) = r := by rw [hF.out]; exact decide_eq_decide.2 (by omega)
      have t1' : decide (j ≤ 16) = r := hF.out.symm
      clear hlt
      go_wp2_with fail
      go_ret
      exact ⟨rfl, HB.out⟩
theorem ref15May (v : Value) (l : List Lk) (w : World) (h : SlE Elk w v l) (hn : l.length ≤ 1000) :
    Calls Try.prog 13 #[v] w fun e w' => e = .returned (.bool (mayL l)) ∧ Below w.heap.size w w' := by
  have k := h
  obtain ⟨p, cp, rfl, _⟩ := slE_shape h
  exact ref15May_n p _ cp l w k rfl hn
theorem enters_ref15May : ∀ args w, (callFunc 13 args).run Try.prog w = .ok (.enter 13 args) w := entersE Try.func13 (by kernel_rfl) (by kernel_rfl)
end Go.Proofs.Ytkbifcfgcokmlaa
