/-
  Package tree: refusal, walked.
-/
import Derived.Test.YtnehebipikhejaaP06Find
namespace Go.Proofs.Ytnehebipikhejaa
open Go.RowKit Go.Maps

theorem bk_cells {w : World} {g : Nat} {x : Bk} (h : w.heap[g]? = some (.cells (bk x) 29 (0, 0))) : ldA w (.pointer (some ⟨g, 0, none⟩)) 32 = some (rc x.root) ∧ ldA w (.pointer (some ⟨g, 32, none⟩)) 32 = some (rc x.parent) ∧ w.cell? ⟨g, 64, none⟩ = some (.int .u64 (x.slot.toNat : Int)) ∧ w.cell? ⟨g, 65, none⟩ = some (.int .u64 (x.just.toNat : Int)) ∧ ldA w (.pointer (some ⟨g, 0, none⟩)) 66 = some (bk x) ∧ g < w.heap.size :=
  ⟨bk_rd0_root h, bk_rd0_parent h, bk_rd0_slot h, bk_rd0_just h, ldA_block h (bk_size x), (Array.getElem?_eq_some_iff.1 h).1⟩

set_option maxRecDepth 100000 in
set_option maxHeartbeats 4000000 in
theorem treeRefuse_no (s : SlV) (l : List Nd) (x : Bk) (w : World) (h : SlE Ene w (sv s) l) (hm : ¬ MayT l) :
    Calls Try.prog 33 #[.agg (tr ⟨s⟩), .agg (bk x)] w fun e w' => e = .returned (.int .i64 1) ∧ Below w.heap.size w w' := by
  have HM := Lib.hid (fun W (g : Below w.heap.size w W) => treeMay s l W (slE_keep g h))
  rw [decide_eq_false hm] at HM
  obtain ⟨W0, hW0⟩ : ∃ W0, W0 = (w.alloc (.cells (tr ⟨s⟩) 24)).alloc (.cells (bk x) 29) := ⟨_, rfl⟩
  obtain ⟨hB, h0, h1, hz⟩ := heap2 w _ _ _ _ W0 hW0
  have HB := Lib.hid hB
  have HW := Lib.hid hW0
  clear h hW0 hB h0 h1 hz hm
  go_enter Try.func33, Try.ntmps33
  go_wp2_with fail
  rw [← HW.out]
  refine (HM.out W0 HB.out).mono ?_
  rintro e w1 ⟨rfl, g1⟩
  have G1 := Lib.hid (belowT HB.out g1)
  clear g1
  go_wp2_with fail
  go_ret
  exact ⟨rfl, G1.out⟩

set_option maxRecDepth 100000 in
set_option maxHeartbeats 4000000 in
theorem treeRefuse_yes (b1 o1 n cp : Nat) (l : List Nd) (x : Bk) (w : World) (h : SlE Ene w (.slice (some ⟨b1, o1, none⟩) n cp) l) (hx1 : w.rangeAt b1 o1 (cellsE Ene l)) (hl : l.length = n) (hm : MayT l) :
    Calls Try.prog 33 #[.agg (tr ⟨⟨some ⟨b1, o1, none⟩, n, cp⟩⟩), .agg (bk x)] w fun e w' => e = .returned (.int .i64 (insE l x.root x.parent x.slot : Int)) ∧ Below w.heap.size w w' := by
  have HM : Hid (∀ W, Below w.heap.size w W → Calls Try.prog 24 #[.agg (tr ⟨⟨some ⟨b1, o1, none⟩, n, cp⟩⟩)] W fun e w' => e = .returned (.bool true) ∧ Below W.heap.size W w') := fun W g => by
    have := treeMay ⟨some ⟨b1, o1, none⟩, n, cp⟩ l W (slE_keep g h)
    rwa [decide_eq_true hm] at this
  have HP := Lib.hid (fun W (g : Below w.heap.size w W) => treePlaces_n (some ⟨b1, o1, none⟩) n cp l W (slE_keep g h) hl (by have := hm.le; omega))
  have HX1 := Lib.hid hx1
  have HL := Lib.hid hl
  have HMl := Lib.hid hm
  obtain ⟨W0, hW0⟩ : ∃ W0, W0 = (w.alloc (.cells (tr ⟨⟨some ⟨b1, o1, none⟩, n, cp⟩⟩) 24)).alloc (.cells (bk x) 29) := ⟨_, rfl⟩
  obtain ⟨hB, h0, h1, hz⟩ := heap2 w _ _ _ _ W0 hW0
  have HB := Lib.hid hB
  have H0 := Lib.hid h0
  have H1 := Lib.hid h1
  have HW := Lib.hid hW0
  obtain ⟨y, hy⟩ : ∃ y, y = insE l x.root x.parent x.slot := ⟨_, rfl⟩
  rw [← hy]
  unfold insE at hy
  rw [if_neg (Classical.not_not.2 hm)] at hy
  have HY := Lib.hid hy
  obtain ⟨c1, hc1⟩ : ∃ c, c = putR l x.root := ⟨_, rfl⟩
  obtain ⟨c2, hc2⟩ : ∃ c, c = putR l x.parent := ⟨_, rfl⟩
  obtain ⟨k1, hk1⟩ : ∃ k, k = decide (0 ≤ findT l x.root) := ⟨_, rfl⟩
  obtain ⟨k2, hk2⟩ : ∃ k, k = decide (0 ≤ findT l x.parent) := ⟨_, rfl⟩
  have hq1 := plD_look hm x.root
  have hq2 := plD_look hm x.parent
  rw [← hc1, ← hk1, hl] at hq1
  rw [← hc2, ← hk2, hl] at hq2
  have HQ1 := Lib.hid hq1
  have HQ2 := Lib.hid hq2
  have HK1 := Lib.hid hk1
  have HK2 := Lib.hid hk2
  have HC2 := Lib.hid hc2
  clear h hx1 hl hm hW0 hB h0 h1 hz hy hc1 hc2 hk1 hk2 hq1 hq2
  go_enter Try.func33, Try.ntmps33
  go_wp2_with fail
  rw [← HW.out]
  refine (HM.out W0 HB.out).mono ?_
  rintro e w1 ⟨rfl, g1⟩
  have G1 := Lib.hid (belowT HB.out g1)
  have N0 := Lib.hid (blk_keep g1 H0.out)
  have N1 := Lib.hid (blk_keep g1 H1.out)
  obtain ⟨z0, z1, zl⟩ := tr_cells N0.out
  dsimp only at z0
  rw [sv_mk] at z0
  clear g1
  go_wp2_with fail
  refine (HP.out w1 G1.out).mono ?_
  rintro e w2 ⟨b, rfl, ho, g2⟩
  have G2 := Lib.hid (belowT G1.out g2)
  have L1 := look_is ho HQ1.out.1
  have L2 := look_is ho HQ2.out.1
  rw [HQ1.out.2] at L1
  rw [HQ2.out.2] at L2
  clear z0 z1 zl
  obtain ⟨z0, z1, zl⟩ := tr_cells (blk_keep g2 N0.out)
  dsimp only at z0
  rw [sv_mk] at z0
  obtain ⟨y0, y1, y2, y3, y4, yl⟩ := bk_cells (blk_keep g2 N1.out)
  clear g2 ho
  cases k1
  · have HK1' : Hid (¬ 0 ≤ findT l x.root) := of_decide_eq_false HK1.out.symm
    cases k2
    · have HK2' : Hid (¬ 0 ≤ findT l x.parent) := of_decide_eq_false HK2.out.symm
      have HR : Hid (y = 5) := by show y = 5; rw [HY.out, if_neg HK1'.out, if_pos (by have := HK2'.out; omega)]
      go_wp2_with fail
      go_ret
      exact ⟨by rw [HR.out]; first | done | rfl, G2.out⟩
    · have hk2' : 0 ≤ findT l x.parent := of_decide_eq_true HK2.out.symm
      obtain ⟨q, hq⟩ : ∃ q : Nat, findT l x.parent = q := ⟨(findT l x.parent).toNat, by omega⟩
      have hqn : q < n := by
        rcases find_spec HMl.out x.parent with ⟨i, hi, e, _⟩ | ⟨e, _⟩
        · have := HL.out; omega
        · omega
      have hc : c2 = (q : Int) := by rw [HC2.out]; unfold putR; rw [if_pos hk2', hq]
      subst hc
      have HR0 : Hid (y = if x.slot.toNat ≤ sl l q ∨ 1099511627776 < x.slot.toNat then 6 else if n = 12 then 3 else 0) := by
        show y = _
        rw [HY.out, if_neg HK1'.out, if_neg (by omega), hq, Int.toNat_natCast, HL.out]
      have v0 := nds_slot (keepR G2.out HX1.out) (i := q) (by have := HL.out; omega)
      have i1 : (q : Int) < (n : Int) := by omega
      have i0 : (0 : Int) ≤ (q : Int) := by omega
      clear hk2' hq hqn
      by_cases h1 : x.slot.toNat ≤ sl l q
      · have t1 : decide (x.slot.toNat ≤ (nd l q).slot.toNat) = true := decide_eq_true h1
        have t1' : decide ((x.slot.toNat : Int) ≤ ((nd l q).slot.toNat : Int)) = true := by rw [decide_eq_true_iff]; unfold sl at h1; omega
        have HR : Hid (y = 6) := by show y = 6; rw [HR0.out, if_pos (.inl h1)]
        clear h1
        go_wp2_with fail
        go_quiet (fail)
        go_wp2_with fail
        go_ret
        exact ⟨by rw [HR.out]; first | done | rfl, belowD G2.out _⟩
      · have t1 : decide (x.slot.toNat ≤ (nd l q).slot.toNat) = false := decide_eq_false h1
        have t1' : decide ((x.slot.toNat : Int) ≤ ((nd l q).slot.toNat : Int)) = false := by rw [decide_eq_false_iff_not]; unfold sl at h1; omega
        by_cases h2 : 1099511627776 < x.slot.toNat
        · have t2 : decide (1099511627776 < x.slot.toNat) = true := decide_eq_true h2
          have t2' : decide ((1099511627776 : Int) < (x.slot.toNat : Int)) = true := by rw [decide_eq_true_iff]; omega
          have HR : Hid (y = 6) := by show y = 6; rw [HR0.out, if_pos (.inr h2)]
          clear h1 h2
          go_wp2_with fail
          go_quiet (fail)
          go_wp2_with fail
          go_ret
          exact ⟨by rw [HR.out]; first | done | rfl, belowD G2.out _⟩
        · have t2 : decide (1099511627776 < x.slot.toNat) = false := decide_eq_false h2
          have t2' : decide ((1099511627776 : Int) < (x.slot.toNat : Int)) = false := by rw [decide_eq_false_iff_not]; omega
          have HR1 : Hid (y = if n = 12 then 3 else 0) := by show y = _; rw [HR0.out, if_neg (by omega)]
          clear h1 h2
          by_cases h3 : n = 12
          · subst h3
            have HR : Hid (y = 3) := HR1.out
            go_wp2_with fail
            go_quiet (fail)
            go_wp2_with fail
            go_ret
            exact ⟨by rw [HR.out]; first | done | rfl, belowD G2.out _⟩
          · have t3 : ((n : Int) == 12) = false := by simp; omega
            have t3' : decide (n = 12) = false := decide_eq_false h3
            have HR : Hid (y = 0) := by show y = 0; rw [HR1.out, if_neg h3]
            clear h3
            go_wp2_with fail
            go_quiet (fail)
            go_wp2_with fail
            go_ret
            exact ⟨by rw [HR.out]; first | done | rfl, belowD G2.out _⟩
  · have HK1' := Lib.hid (of_decide_eq_true HK1.out.symm)
    have HR : Hid (y = 4) := by show y = 4; rw [HY.out, if_pos HK1'.out]
    go_wp2_with fail
    go_ret
    exact ⟨by rw [HR.out]; first | done | rfl, G2.out⟩
/-- refusal. -/
theorem treeRefuse (s : SlV) (l : List Nd) (x : Bk) (w : World) (h : SlE Ene w (sv s) l) :
    Calls Try.prog 33 #[.agg (tr ⟨s⟩), .agg (bk x)] w fun e w' => e = .returned (.int .i64 (insE l x.root x.parent x.slot : Int)) ∧ Below w.heap.size w w' := by
  by_cases hm : MayT l
  · have hl := sv_lenN h
    obtain ⟨p, n, cp⟩ := s
    obtain ⟨b1, o1, rfl, q1, x1⟩ := slE_ptr h hm.pos
    exact treeRefuse_yes b1 o1 n cp l x w h x1 hl hm
  · have e : insE l x.root x.parent x.slot = 1 := by unfold insE; rw [if_pos hm]
    rw [e]
    exact treeRefuse_no s l x w h hm
theorem enters_refusal : ∀ args w, (callFunc 33 args).run Try.prog w = .ok (.enter 33 args) w := entersE Try.func33 (by kernel_rfl) (by kernel_rfl)
end Go.Proofs.Ytnehebipikhejaa
