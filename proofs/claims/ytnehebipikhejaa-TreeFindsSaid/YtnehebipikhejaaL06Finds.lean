/-
  The law TreeFinds, walked.
-/
import Derived.Test.YtnehebipikhejaaLaw06
namespace Go.Proofs.Ytnehebipikhejaa
open Go.RowKit

set_option maxRecDepth 100000 in
set_option maxHeartbeats 4000000 in
theorem treeFindsL_no (s : SlV) (l : List Nd) (i : Int) (r : Rt) (w : World) (h : SlE Ene w (sv s) l) (hm : decide (MayT l) = false) :
    Calls Try.prog 9 #[.agg (tr ⟨s⟩), .int .i64 i, .agg (rc r)] w fun e w' => e = .returned (.bool true) ∧ Below w.heap.size w w' := by
  have HM := Lib.hid (fun W (g : Below w.heap.size w W) => treeMay s l W (slE_keep g h))
  rw [hm] at HM
  obtain ⟨W0, hW0⟩ : ∃ W0, W0 = (w.alloc (.cells (tr ⟨s⟩) 24)).alloc (.cells (rc r) 26) := ⟨_, rfl⟩
  obtain ⟨hB, h0, h1, hz⟩ := heap2 w _ _ _ _ W0 hW0
  have HB := Lib.hid hB
  have M0 := Lib.hid h0
  have HW := Lib.hid hW0
  clear hW0 h hm hB h0 h1 hz
  go_enter Try.func9, Try.ntmps9
  go_wp2_with fail
  rw [← HW.out]
  refine (awake_any _).mono ?_
  rintro e w1 ⟨rfl, g1⟩
  have G1 := Lib.hid (belowT HB.out g1)
  have z1 := (tr_cells (blk_keep g1 M0.out)).2.1
  clear g1
  go_wp2_with fail
  refine (HM.out w1 G1.out).mono ?_
  rintro e w2 ⟨rfl, g2⟩
  have G2 := Lib.hid (belowT G1.out g2)
  clear g2 z1
  go_wp2_with fail
  go_ret
  exact ⟨rfl, G2.out⟩

/-- The last question: the root at a place. -/
def lastF (l : List Nd) (i : Int) : Prop := i < 0 ∨ (l.length : Int) ≤ i ∨ ∃ j : Nat, i = j ∧ j < l.length ∧ findT l (nd l j).root = j

set_option maxRecDepth 100000 in
set_option maxHeartbeats 8000000 in
theorem treeFindsL_yes (b1 o1 n cp : Nat) (l : List Nd) (i : Int) (r : Rt) (w : World) (h : SlE Ene w (.slice (some ⟨b1, o1, none⟩) n cp) l) (hx : w.rangeAt b1 o1 (cellsE Ene l)) (hl : l.length = n) (hm : MayT l) :
    Calls Try.prog 9 #[.agg (tr ⟨⟨some ⟨b1, o1, none⟩, n, cp⟩⟩), .int .i64 i, .agg (rc r)] w fun e w' => e = .returned (.bool true) ∧ Below w.heap.size w w' := by
  have HM : Hid (∀ W, SlE Ene W (.slice (some ⟨b1, o1, none⟩) n cp) l → Calls Try.prog 24 #[.agg (tr ⟨⟨some ⟨b1, o1, none⟩, n, cp⟩⟩)] W fun e w' => e = .returned (.bool true) ∧ Below W.heap.size W w') := fun W g => by
    have := treeMay ⟨some ⟨b1, o1, none⟩, n, cp⟩ l W g
    rwa [decide_eq_true hm] at this
  have HF : Hid (∀ W, SlE Ene W (.slice (some ⟨b1, o1, none⟩) n cp) l → ∀ q, Calls Try.prog 29 #[.agg (tr ⟨⟨some ⟨b1, o1, none⟩, n, cp⟩⟩), .agg (rc q)] W fun e w' => e = .returned (.int .i64 (findT l q)) ∧ Below W.heap.size W w') := fun W g q => treeFind ⟨some ⟨b1, o1, none⟩, n, cp⟩ l q W g
  obtain ⟨W0, hW0⟩ : ∃ W0, W0 = (w.alloc (.cells (tr ⟨⟨some ⟨b1, o1, none⟩, n, cp⟩⟩) 24)).alloc (.cells (rc r) 26) := ⟨_, rfl⟩
  obtain ⟨hB, h0, h1, hz⟩ := heap2 w _ _ _ _ W0 hW0
  have V : Hid (Tv w W0 w.heap.size b1 o1 n cp l) := ⟨h0, slE_keep hB h, keepR hB hx, hB⟩
  have R := Lib.hid h1
  have HW := Lib.hid hW0
  have HL := Lib.hid hl
  have HMm := Lib.hid hm
  have hlast : lastF l i := by
    by_cases ha : i < 0
    · exact .inl ha
    · by_cases hb : (l.length : Int) ≤ i
      · exact .inr (.inl hb)
      · exact .inr (.inr ⟨i.toNat, by omega, by omega, find_at hm (by omega)⟩)
  have HLast := Lib.hid hlast
  have HSP := Lib.hid (find_spec hm r)
  clear h hx hl hm hB h0 h1 hz hW0 hlast
  go_enter Try.func9, Try.ntmps9
  go_wp2_with fail
  rw [← HW.out]
  refine (awake_any _).mono ?_
  rintro e w1 ⟨rfl, g⟩
  replace V := Lib.hid (V.out.keep g)
  replace R := Lib.hid (blk_keep g R.out)
  have z0 := V.out.z0
  have z1 := V.out.z1
  clear g
  go_wp2_with fail
  refine (HM.out w1 V.out.s).mono ?_
  rintro e w2 ⟨rfl, g⟩
  replace V := Lib.hid (V.out.keep g)
  replace R := Lib.hid (blk_keep g R.out)
  replace z0 := V.out.z0
  replace z1 := V.out.z1
  have y1 := ldA_block R.out (rc_size r)
  clear g
  go_wp2_with fail
  refine (HF.out w2 V.out.s r).mono ?_
  rintro e w3 ⟨rfl, g⟩
  replace V := Lib.hid (V.out.keep g)
  replace R := Lib.hid (blk_keep g R.out)
  replace z0 := V.out.z0
  replace z1 := V.out.z1
  replace y1 := ldA_block R.out (rc_size r)
  clear g
  obtain ⟨x, hx⟩ : ∃ x, x = findT l r := ⟨_, rfl⟩
  rw [← hx]
  have hsp := HSP.out
  rw [← hx] at hsp
  clear hx
  have hdone : ∀ (w4 : World), Tv w w4 w.heap.size b1 o1 n cp l → True := fun _ _ => trivial
  clear hdone
  rcases hsp with ⟨q, hq, rfl, hr⟩ | ⟨rfl, -⟩
  · have i0 : (0 : Int) ≤ (q : Int) := by omega
    have i1 : (q : Int) < (n : Int) := by have := HL.out; omega
    have t0 : decide ((n : Int) ≤ (q : Int)) = false := decide_eq_false (by omega)
    have t0' : decide (n ≤ q) = false := decide_eq_false (by omega)
    have t1 : decide ((q : Int) < -1) = false := decide_eq_false (by omega)
    have y2 := nds_root V.out.x (i := q) hq
    rw [hr] at y2
    have y3 := eqB_self r
    clear hq hr
    go_wp2_with fail
    go_quiet (fail)
    obtain ⟨w4, hw4⟩ : ∃ w4, w4 = w3.drewN nq := ⟨_, rfl⟩
    replace V : Hid (Tv w w4 w.heap.size b1 o1 n cp l) := by rw [hw4]; exact V.out.keep (belowD (Below.refl _ _) _)
    rw [← hw4]
    clear hw4 z0 z1 y1 y2 y3 t0 t0' t1 i0 i1
    have z0 := V.out.z0
    rcases HLast.out with ha | ha | ⟨j, rfl, hj, hf⟩
    · have t4 : decide (i < 0) = true := decide_eq_true ha
      clear ha
      go_wp2_with fail
      have La := fun q : Wd w4.drew => wd_tr V.out.box q
      have Lb := fun q : Wd w4.drew => wd_cell z0 q
      refine wp_region_lex [17] (by kernel_rfl) (by kernel_rfl) (by kernel_rfl) ?_
      repeat (first | (refine wpXL_quiet rfl rfl _ cls_begin ?_; (first | go_big_quiet_step (fail) | quiet_step (fail)); refine wpQuiet_nil ?_) | refine wpXL_skip rfl ?_)
      refine wpXL_nil ?_
      go_wp2_with fail
      go_ret
      exact ⟨rfl, belowT V.out.g (belowD (Below.refl _ _) 1)⟩
    · have t3 : decide (i < 0) = false := decide_eq_false (by omega)
      have t4 : decide ((n : Int) ≤ i) = true := decide_eq_true (by have := HL.out; omega)
      clear ha
      go_wp2_with fail
      have La := fun q : Wd w4.drew => wd_tr V.out.box q
      have Lb := fun q : Wd w4.drew => wd_cell z0 q
      refine wp_region_lex [17] (by kernel_rfl) (by kernel_rfl) (by kernel_rfl) ?_
      repeat (first | (refine wpXL_quiet rfl rfl _ cls_begin ?_; (first | go_big_quiet_step (fail) | quiet_step (fail)); refine wpQuiet_nil ?_) | refine wpXL_skip rfl ?_)
      refine wpXL_nil ?_
      go_wp2_with fail
      go_ret
      exact ⟨rfl, belowT V.out.g (belowD (Below.refl _ _) 1)⟩
    · have j0 : (0 : Int) ≤ (j : Int) := by omega
      have j1 : (j : Int) < (n : Int) := by have := HL.out; omega
      have t3 : decide ((j : Int) < 0) = false := decide_eq_false (by omega)
      have t4 : decide ((n : Int) ≤ (j : Int)) = false := decide_eq_false (by omega)
      have t4' : decide (n ≤ j) = false := decide_eq_false (by omega)
      have Lc := fun q : Wd w4.drew => wd_ld (nds_root V.out.x hj) (by decide) q
      have HFF := Lib.hid hf
      clear hj hf
      go_wp2_with fail
      have La := fun q : Wd w4.drew => wd_tr V.out.box q
      have Lb := fun q : Wd w4.drew => wd_cell z0 q
      refine wp_region_lex [17] (by kernel_rfl) (by kernel_rfl) (by kernel_rfl) ?_
      repeat (first | (refine wpXL_quiet rfl rfl _ cls_begin ?_; (first | go_big_quiet_step (fail) | quiet_step (fail)); refine wpQuiet_nil ?_) | refine wpXL_skip rfl ?_)
      refine wpXL_call rfl rfl rfl enters_find06 #[.agg (tr ⟨⟨some ⟨b1, o1, none⟩, n, cp⟩⟩), .agg (rc (nd l j).root)] rfl ?_
      refine (HF.out _ (slE_keep (belowD (Below.refl _ _) 1) V.out.s) _).mono ?_
      rintro e u ⟨rfl, g⟩
      refine ⟨_, rfl, g, ?_⟩
      simp only [Act.put, List.setIfInBounds_toArray, List.set_cons_zero, List.set_cons_succ]
      rw [HFF.out]
      have G := Lib.hid (belowT V.out.g (belowT (belowD (Below.refl _ _) 1) g))
      clear g
      repeat (first | (refine wpXL_quiet rfl rfl _ cls_begin ?_; (first | go_big_quiet_step (fail) | quiet_step (fail)); refine wpQuiet_nil ?_) | refine wpXL_skip rfl ?_)
      refine wpXL_nil ?_
      go_wp2_with fail
      go_ret
      exact ⟨rfl, G.out⟩
  · go_wp2_with fail
    go_quiet (fail)
    obtain ⟨w4, hw4⟩ : ∃ w4, w4 = w3.drewN nq := ⟨_, rfl⟩
    replace V : Hid (Tv w w4 w.heap.size b1 o1 n cp l) := by rw [hw4]; exact V.out.keep (belowD (Below.refl _ _) _)
    rw [← hw4]
    clear hw4 z0 z1 y1
    have z0 := V.out.z0
    rcases HLast.out with ha | ha | ⟨j, rfl, hj, hf⟩
    · have t4 : decide (i < 0) = true := decide_eq_true ha
      clear ha
      go_wp2_with fail
      have La := fun q : Wd w4.drew => wd_tr V.out.box q
      have Lb := fun q : Wd w4.drew => wd_cell z0 q
      refine wp_region_lex [17] (by kernel_rfl) (by kernel_rfl) (by kernel_rfl) ?_
      repeat (first | (refine wpXL_quiet rfl rfl _ cls_begin ?_; (first | go_big_quiet_step (fail) | quiet_step (fail)); refine wpQuiet_nil ?_) | refine wpXL_skip rfl ?_)
      refine wpXL_nil ?_
      go_wp2_with fail
      go_ret
      exact ⟨rfl, belowT V.out.g (belowD (Below.refl _ _) 1)⟩
    · have t3 : decide (i < 0) = false := decide_eq_false (by omega)
      have t4 : decide ((n : Int) ≤ i) = true := decide_eq_true (by have := HL.out; omega)
      clear ha
      go_wp2_with fail
      have La := fun q : Wd w4.drew => wd_tr V.out.box q
      have Lb := fun q : Wd w4.drew => wd_cell z0 q
      refine wp_region_lex [17] (by kernel_rfl) (by kernel_rfl) (by kernel_rfl) ?_
      repeat (first | (refine wpXL_quiet rfl rfl _ cls_begin ?_; (first | go_big_quiet_step (fail) | quiet_step (fail)); refine wpQuiet_nil ?_) | refine wpXL_skip rfl ?_)
      refine wpXL_nil ?_
      go_wp2_with fail
      go_ret
      exact ⟨rfl, belowT V.out.g (belowD (Below.refl _ _) 1)⟩
    · have j0 : (0 : Int) ≤ (j : Int) := by omega
      have j1 : (j : Int) < (n : Int) := by have := HL.out; omega
      have t3 : decide ((j : Int) < 0) = false := decide_eq_false (by omega)
      have t4 : decide ((n : Int) ≤ (j : Int)) = false := decide_eq_false (by omega)
      have t4' : decide (n ≤ j) = false := decide_eq_false (by omega)
      have Lc := fun q : Wd w4.drew => wd_ld (nds_root V.out.x hj) (by decide) q
      have HFF := Lib.hid hf
      clear hj hf
      go_wp2_with fail
      have La := fun q : Wd w4.drew => wd_tr V.out.box q
      have Lb := fun q : Wd w4.drew => wd_cell z0 q
      refine wp_region_lex [17] (by kernel_rfl) (by kernel_rfl) (by kernel_rfl) ?_
      repeat (first | (refine wpXL_quiet rfl rfl _ cls_begin ?_; (first | go_big_quiet_step (fail) | quiet_step (fail)); refine wpQuiet_nil ?_) | refine wpXL_skip rfl ?_)
      refine wpXL_call rfl rfl rfl enters_find06 #[.agg (tr ⟨⟨some ⟨b1, o1, none⟩, n, cp⟩⟩), .agg (rc (nd l j).root)] rfl ?_
      refine (HF.out _ (slE_keep (belowD (Below.refl _ _) 1) V.out.s) _).mono ?_
      rintro e u ⟨rfl, g⟩
      refine ⟨_, rfl, g, ?_⟩
      simp only [Act.put, List.setIfInBounds_toArray, List.set_cons_zero, List.set_cons_succ]
      rw [HFF.out]
      have G := Lib.hid (belowT V.out.g (belowT (belowD (Below.refl _ _) 1) g))
      clear g
      repeat (first | (refine wpXL_quiet rfl rfl _ cls_begin ?_; (first | go_big_quiet_step (fail) | quiet_step (fail)); refine wpQuiet_nil ?_) | refine wpXL_skip rfl ?_)
      refine wpXL_nil ?_
      go_wp2_with fail
      go_ret
      exact ⟨rfl, G.out⟩
/-- The law. -/
theorem treeFindsL (x : Tr) (l : List Nd) (i : Int) (r : Rt) (w : World) (h : SlE Ene w (sv x.n) l) :
    Calls Try.prog 9 #[.agg (tr x), .int .i64 i, .agg (rc r)] w fun e w' => e = .returned (.bool true) ∧ Below w.heap.size w w' := by
  obtain ⟨s⟩ := x
  by_cases hm : MayT l
  · have hn := sv_lenN h
    obtain ⟨p, n, cp⟩ := s
    dsimp only at hn
    subst hn
    obtain ⟨b1, o1, rfl, _, hx⟩ := slE_ptr h hm.pos
    exact treeFindsL_yes b1 o1 _ cp l i r w h hx rfl hm
  · exact treeFindsL_no s l i r w h (decide_eq_false hm)
end Go.Proofs.Ytnehebipikhejaa
