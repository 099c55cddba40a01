/-
  Package delta: Of, walked.
  Package vote: New, walked.
-/
import Derived.Test.YtccihllcohnnnaaQ32
import Derived.Test.YtccihllcohnnnaaQ35
import Derived.Test.YtccihllcohnnnaaQ27
import Derived.Test.YtccihllcohnnnaaQ33
import Derived.Test.YtccihllcohnnnaaQ24
namespace Go.Proofs.Ytccihllcohnnnaa
open Go.RowKit
set_option maxRecDepth 100000

/-- What byNode makes of what news hands back. -/
theorem byNews (s t t' : SlV) (u : Value) (l : List Nd) (v o : Vt) (bal : List UInt64) (w W : World) (hW : W = ((w.alloc (.cells (vo ⟨t', o.out⟩) 28)).alloc (.cells (vo ⟨t, v.out⟩) 28)).alloc (.cells #[u] 29)) (h : SlE Ene w (sv s) l) (h1 : SlE Elt w (sv t) v.l) (h1' : SlE Elt w (sv t') o.l) (h2 : SlE Enum w u bal) (hf : fitB l v bal = true) (hf' : fitB l o bal = true) :
    Calls Try.prog 29 #[.agg (tr ⟨s⟩), .func (.func 50) #[] #[.pointer (some ⟨w.heap.size + 1, 0, none⟩), .pointer (some ⟨w.heap.size, 0, none⟩), .pointer (some ⟨w.heap.size + 1 + 1, 0, none⟩)]] W fun e w' => ∃ x, e = .returned x ∧ OwnE Enum w' W.heap.size x (numsT (someF l v o bal) l.length) ∧ Below W.heap.size W w' := by
  obtain ⟨hm, hv, hbal, e1⟩ := fit_iff.1 hf
  obtain ⟨_, _, _, e2⟩ := fit_iff.1 hf'
  have hl := sv_lenN h
  have hvl := sv_lenT h1
  have hol := sv_lenT h1'
  obtain ⟨b1, b2, _⟩ := mayB_iff.1 hbal
  obtain ⟨g, k0, k1, k2, hz⟩ := heap3 w _ _ _ _ _ _ W hW
  obtain ⟨p, n, cp⟩ := s
  obtain ⟨q, m, cq⟩ := t
  obtain ⟨q', m', cq'⟩ := t'
  dsimp only at hl hvl hol
  obtain ⟨r, cr, rfl, _⟩ := slE_shape h2
  obtain rfl : m' = m := by omega
  have hbl : bal.length = m' := by omega
  rw [hbl] at h2 k2 hW
  obtain ⟨p1, o1, rfl, q1, x1⟩ := lats_ptr h1 (by have := (mayV_iff.1 hv).1; omega)
  obtain ⟨p2, o2, rfl, q2, x2⟩ := lats_ptr h1' (by have := (mayV_iff.1 hv).1; omega)
  obtain ⟨p3, o3, rfl, q3, x3⟩ := nums_ptr h2 (by have := (mayV_iff.1 hv).1; omega)
  have hs := g.size
  rw [hl]
  exact byNode_n (w.heap.size + 1) w.heap.size (w.heap.size + 1 + 1) n cp p1 o1 cq p2 o2 cq' p3 o3 cr m' p l v o bal W (slE_keep g h) hm hl (by have := (mayV_iff.1 hv).2.1; omega) hvl hol hbl (bal_all hbal) (by omega) (by omega) (by omega) k1 k0 k2 (keepR g x1) (keepR g x2) (keepR g x3)

set_option maxRecDepth 100000 in
set_option maxHeartbeats 16000000 in
theorem deltaOf_n (p q q' r : Option Addr) (n cp m cq m' cq' k cr : Nat) (l : List Nd) (was is : Vt) (bal : List UInt64) (w : World) (h : SlE Ene w (.slice p n cp) l) (h1 : SlE Elt w (.slice q m cq) was.l) (h1' : SlE Elt w (.slice q' m' cq') is.l) (h2 : SlE Enum w (.slice r k cr) bal) :
    Calls Try.prog 14 #[.agg (tr ⟨⟨p, n, cp⟩⟩), .agg (vo ⟨⟨q, m, cq⟩, was.out⟩), .agg (vo ⟨⟨q', m', cq'⟩, is.out⟩), .slice r k cr] w (TwoOk (plusL l was is bal) (minusL l was is bal) (ofB l was is bal) w) := by
  have HF1 := Lib.hid (fun W (g : Below w.heap.size w W) => progFit ⟨p, n, cp⟩ ⟨q, m, cq⟩ (.slice r k cr) l was bal W (slE_keep g h) (slE_keep g h1) (slE_keep g h2))
  have HF2 := Lib.hid (fun W (g : Below w.heap.size w W) => progFit ⟨p, n, cp⟩ ⟨q', m', cq'⟩ (.slice r k cr) l is bal W (slE_keep g h) (slE_keep g h1') (slE_keep g h2))
  have HS1 : Hid (fitB l was bal = true → fitB l is bal = true → ∀ V, Below w.heap.size w V → ∀ W, W = ((V.alloc (.cells (vo ⟨⟨q, m, cq⟩, was.out⟩) 28)).alloc (.cells (vo ⟨⟨q', m', cq'⟩, is.out⟩) 28)).alloc (.cells #[.slice r k cr] 29) →
      Calls Try.prog 29 #[.agg (tr ⟨⟨p, n, cp⟩⟩), .func (.func 50) #[] #[.pointer (some ⟨V.heap.size + 1, 0, none⟩), .pointer (some ⟨V.heap.size, 0, none⟩), .pointer (some ⟨V.heap.size + 1 + 1, 0, none⟩)]] W (fun e w' => ∃ u, e = .returned u ∧ OwnE Enum w' W.heap.size u (plusL l was is bal) ∧ Below W.heap.size W w')) := fun f1 f2 V g W hW => by
    rw [plusL_yes (of_iff.2 ⟨f1, f2⟩)]
    exact byNews ⟨p, n, cp⟩ ⟨q', m', cq'⟩ ⟨q, m, cq⟩ (.slice r k cr) l is was bal V W hW (slE_keep g h) (slE_keep g h1') (slE_keep g h1) (slE_keep g h2) f2 f1
  have HS2 : Hid (fitB l was bal = true → fitB l is bal = true → ∀ V, Below w.heap.size w V → ∀ W, W = ((V.alloc (.cells (vo ⟨⟨q', m', cq'⟩, is.out⟩) 28)).alloc (.cells (vo ⟨⟨q, m, cq⟩, was.out⟩) 28)).alloc (.cells #[.slice r k cr] 29) →
      Calls Try.prog 29 #[.agg (tr ⟨⟨p, n, cp⟩⟩), .func (.func 50) #[] #[.pointer (some ⟨V.heap.size + 1, 0, none⟩), .pointer (some ⟨V.heap.size, 0, none⟩), .pointer (some ⟨V.heap.size + 1 + 1, 0, none⟩)]] W (fun e w' => ∃ u, e = .returned u ∧ OwnE Enum w' W.heap.size u (minusL l was is bal) ∧ Below W.heap.size W w')) := fun f1 f2 V g W hW => by
    rw [minusL_yes (of_iff.2 ⟨f1, f2⟩)]
    exact byNews ⟨p, n, cp⟩ ⟨q, m, cq⟩ ⟨q', m', cq'⟩ (.slice r k cr) l was is bal V W hW (slE_keep g h) (slE_keep g h1) (slE_keep g h1') (slE_keep g h2) f1 f2
  have HNo : Hid (ofB l was is bal = false → plusL l was is bal = [] ∧ minusL l was is bal = []) := fun e => ⟨plusL_no e, minusL_no e⟩
  obtain ⟨f1, hf1⟩ : ∃ f, f = fitB l was bal := ⟨_, rfl⟩
  obtain ⟨f2, hf2⟩ : ∃ f, f = fitB l is bal := ⟨_, rfl⟩
  have ho : ofB l was is bal = (f1 && f2) := by unfold ofB; rw [hf1, hf2]
  rw [ho] at HNo
  rw [ho]
  rw [← hf1] at HF1 HS1 HS2
  rw [← hf2] at HF2 HS1 HS2
  generalize plusL l was is bal = P at *
  generalize minusL l was is bal = M at *
  obtain ⟨W0, hW0⟩ : ∃ W0, W0 = ((w.alloc (.cells (tr ⟨⟨p, n, cp⟩⟩) 24)).alloc (.cells (vo ⟨⟨q, m, cq⟩, was.out⟩) 28)).alloc (.cells (vo ⟨⟨q', m', cq'⟩, is.out⟩) 28) := ⟨_, rfl⟩
  obtain ⟨hB, k0, k1, k2, hz0⟩ := heap3 w _ _ _ _ _ _ W0 hW0
  have HB := Lib.hid hB
  have HW := Lib.hid hW0
  have K0 := Lib.hid k0
  have K1 := Lib.hid k1
  have K2 := Lib.hid k2
  clear hW0 h h1 h1' h2 hB k0 k1 k2 hz0 hf1 hf2 ho
  have z1 := (tr_cells K0.out).2.1
  have y1 := (vo_cells K1.out).2.2.1
  go_enter Try.func14, Try.ntmps14
  go_wp2_with fail
  rw [← HW.out]
  go_wp2_with fail
  refine (HF1.out W0 HB.out).mono ?_
  rintro e w1 ⟨rfl, g1⟩
  have G1 := Lib.hid (belowT HB.out g1)
  have M0 := Lib.hid (blk_keep g1 K0.out)
  have M1 := Lib.hid (blk_keep g1 K1.out)
  have M2 := Lib.hid (blk_keep g1 K2.out)
  clear g1 z1 y1
  have z1 := (tr_cells M0.out).2.1
  have y2 := (vo_cells M2.out).2.2.1
  cases f1
  · obtain ⟨rfl, rfl⟩ := HNo.out rfl
    go_wp2_with fail
    (try simp only [Exit.inBlock, Exit.then])
    refine bodyPost_ret (results_tmp3 rfl _ _ _) rfl ?_
    exact ⟨_, _, rfl, slE_nil _ _ _ _, slE_nil _ _ _ _, G1.out⟩
  · go_wp2_with fail
    refine (HF2.out w1 G1.out).mono ?_
    rintro e w2 ⟨rfl, g2⟩
    have G2 := Lib.hid (belowT G1.out g2)
    have N0 := Lib.hid (blk_keep g2 M0.out)
    have N1 := Lib.hid (blk_keep g2 M1.out)
    have N2 := Lib.hid (blk_keep g2 M2.out)
    clear g2 z1 y2
    cases f2
    · obtain ⟨rfl, rfl⟩ := HNo.out rfl
      go_wp2_with fail
      (try simp only [Exit.inBlock, Exit.then])
      refine bodyPost_ret (results_tmp3 rfl _ _ _) rfl ?_
      exact ⟨_, _, rfl, slE_nil _ _ _ _, slE_nil _ _ _ _, G2.out⟩
    · have S1 := Lib.hid (HS1.out (by simp) (by simp))
      have S2 := Lib.hid (HS2.out (by simp) (by simp))
      clear HS1 HS2 HNo
      have L0 := fun x : Wd w2.drew => wd_ld (tr_cells N0.out).2.1 (by decide) x
      have L1 := fun x : Wd w2.drew => wd_ld (vo_cells N1.out).2.2.1 (by decide) x
      have L2 := fun x : Wd w2.drew => wd_ld (vo_cells N2.out).2.2.1 (by decide) x
      go_wp2_with fail
      refine wp_region_lex [4, 5, 10, 11] (by kernel_rfl) (by kernel_rfl) (by kernel_rfl) ?_
      repeat (refine wpXL_quiet rfl rfl _ cls_begin ?_; (first | go_big_quiet_step (fail) | quiet_step (fail)); refine wpQuiet_nil ?_)
      refine wpXL_call rfl rfl rfl enters_deltaNews #[.agg (vo ⟨⟨q, m, cq⟩, was.out⟩), .agg (vo ⟨⟨q', m', cq'⟩, is.out⟩), .slice r k cr] rfl ?_
      refine (deltaNews _ _ _ _ _ _).mono ?_
      rintro e v1 ⟨rfl, hv1⟩
      have g1 : Below w2.drew.heap.size w2.drew v1 := (heap3 w2.drew _ _ _ _ _ _ v1 hv1).1
      have T1 : Hid (Below w2.heap.size w2 v1) := belowT (belowD (Below.refl _ _) 1) g1
      have HV := Lib.hid hv1
      refine ⟨_, rfl, g1, ?_⟩
      simp only [Act.put, List.setIfInBounds_toArray, List.set_cons_zero, List.set_cons_succ]
      clear g1 hv1
      refine wpXL_call rfl rfl rfl enters_byNode #[.agg (tr ⟨⟨p, n, cp⟩⟩), .func (.func 50) #[] #[.pointer (some ⟨w2.drew.heap.size + 1, 0, none⟩), .pointer (some ⟨w2.drew.heap.size, 0, none⟩), .pointer (some ⟨w2.drew.heap.size + 1 + 1, 0, none⟩)]] rfl ?_
      refine (S1.out _ (belowT G2.out (belowD (Below.refl _ _) 1)) v1 HV.out).mono ?_
      rintro e v2 ⟨u1, rfl, ho1, g⟩
      have T2 : Hid (Below w2.heap.size w2 v2) := belowT T1.out g
      have O1 := Lib.hid (ownE_slE ho1)
      refine ⟨_, rfl, g, ?_⟩
      simp only [Act.put, List.setIfInBounds_toArray, List.set_cons_zero, List.set_cons_succ]
      clear g ho1 HV
      repeat (refine wpXL_quiet rfl rfl _ cls_begin ?_; (first | go_big_quiet_step (fail) | quiet_step (fail)); refine wpQuiet_nil ?_)
      refine wpXL_call rfl rfl rfl enters_deltaNews #[.agg (vo ⟨⟨q', m', cq'⟩, is.out⟩), .agg (vo ⟨⟨q, m, cq⟩, was.out⟩), .slice r k cr] rfl ?_
      refine (deltaNews _ _ _ _ _ _).mono ?_
      rintro e v3 ⟨rfl, hv3⟩
      have g3 : Below v2.heap.size v2 v3 := (heap3 v2 _ _ _ _ _ _ v3 hv3).1
      have T3 : Hid (Below w2.heap.size w2 v3) := belowT T2.out g3
      have O2 := Lib.hid (slE_keep g3 O1.out)
      have HV := Lib.hid hv3
      refine ⟨_, rfl, g3, ?_⟩
      simp only [Act.put, List.setIfInBounds_toArray, List.set_cons_zero, List.set_cons_succ]
      clear g3 hv3
      refine wpXL_call rfl rfl rfl enters_byNode #[.agg (tr ⟨⟨p, n, cp⟩⟩), .func (.func 50) #[] #[.pointer (some ⟨v2.heap.size + 1, 0, none⟩), .pointer (some ⟨v2.heap.size, 0, none⟩), .pointer (some ⟨v2.heap.size + 1 + 1, 0, none⟩)]] rfl ?_
      refine (S2.out _ (belowT G2.out T2.out) v3 HV.out).mono ?_
      rintro e v4 ⟨u2, rfl, ho2, g⟩
      have T4 : Hid (Below w2.heap.size w2 v4) := belowT T3.out g
      have O3 := Lib.hid (ownE_slE ho2)
      have O4 := Lib.hid (slE_keep g O2.out)
      refine ⟨_, rfl, g, ?_⟩
      simp only [Act.put, List.setIfInBounds_toArray, List.set_cons_zero, List.set_cons_succ]
      clear g ho2
      repeat (refine wpXL_quiet rfl rfl _ cls_begin ?_; (first | go_big_quiet_step (fail) | quiet_step (fail)); refine wpQuiet_nil ?_)
      refine wpXL_nil ?_
      clear L0 L1 L2
      go_wp2_with fail
      (try simp only [Exit.inBlock, Exit.then])
      refine bodyPost_ret (results_tmp3 rfl _ _ _) rfl ?_
      exact ⟨_, _, rfl, O4.out, O3.out, belowT G2.out T4.out⟩
theorem deltaOf (s t t' : SlV) (u : Value) (l : List Nd) (was is : Vt) (bal : List UInt64) (w : World) (h : SlE Ene w (sv s) l) (h1 : SlE Elt w (sv t) was.l) (h1' : SlE Elt w (sv t') is.l) (h2 : SlE Enum w u bal) :
    Calls Try.prog 14 #[.agg (tr ⟨s⟩), .agg (vo ⟨t, was.out⟩), .agg (vo ⟨t', is.out⟩), u] w (TwoOk (plusL l was is bal) (minusL l was is bal) (ofB l was is bal) w) := by
  obtain ⟨p, n, cp⟩ := s
  obtain ⟨q, m, cq⟩ := t
  obtain ⟨q', m', cq'⟩ := t'
  have k2 := h2
  obtain ⟨r, cr, rfl, _⟩ := slE_shape h2
  exact deltaOf_n p q q' r n cp m cq m' cq' _ cr l was is bal w h h1 h1' k2
end Go.Proofs.Ytccihllcohnnnaa
namespace Go.Proofs.Ytccihllcohnnnaa
open Go.RowKit
set_option maxRecDepth 100000

set_option maxRecDepth 100000 in
set_option maxHeartbeats 4000000 in
theorem voteNew (n : Int) (w : World) :
    Calls Try.prog 23 #[.int .i64 n] w (VoOk (newV n) (newOkV n) w) := by
  obtain ⟨W0, hW0⟩ : ∃ W0, W0 = w.alloc (.cells (vo zvo) 28) := ⟨_, rfl⟩
  have HB : Hid (Below w.heap.size w W0) := by rw [hW0]; exact below1
  have M0 : Hid (W0.heap[w.heap.size]? = some (.cells (vo zvo) 28 (0, 0))) := by rw [hW0]; exact heap_alloc_last w _
  have HW := Lib.hid hW0
  have HF := Lib.hid (voteFew n W0)
  obtain ⟨i, hi, hz0, hz1, hz2⟩ := info_parts info_lt
  clear hW0
  by_cases hn : 1 ≤ n ∧ n ≤ 8
  · obtain ⟨n, rfl⟩ : ∃ n' : Nat, n = n' := ⟨n.toNat, by omega⟩
    have e : newOkV (n : Int) = true := decide_eq_true hn
    have HV : Hid (newV (n : Int) = ⟨List.replicate n zlt, 0⟩) := by unfold newV; rw [e, if_pos rfl]; exact Lib.hid rfl
    rw [e] at HF ⊢
    have HN : Hid (n ≤ 8) := by show n ≤ 8; omega
    have n0 : (0 : Int) ≤ (n : Int) := by omega
    clear hn e
    go_enter Try.func23, Try.ntmps23
    go_upto_region 1 with fail
    rw [← HW.out]
    go_wp2_with fail
    refine HF.out.mono ?_
    rintro e w1 ⟨rfl, g⟩
    have B1 := Lib.hid (belowT HB.out g)
    have M1 := Lib.hid (blk_keep g M0.out)
    clear g
    go_wp2_with (at_make; refine wpList_make_full _ rfl _ _ 25 rfl w1.heap.size 41 i _ 34 Try.underlying25 hi hz0 hz1 .i64 .i64 _ _ n rfl rfl rfl rfl (by rw [hz2]; have := HN.out; omega) (by unfold maxLen; have := HN.out; omega) (Nat.le_refl _) ?_; intro wz hown hgrow; have BZ : Hid (Below w1.heap.size w1 wz) := (Below.refl _ _).grown hgrow (Nat.le_refl _) (fun k hk => by cases hk); have OZ := Lib.hid hown; have MZ := Lib.hid (blk_keep BZ.out M1.out); have y1 := wrA_block MZ.out (vo_size _); clear hown hgrow)
    have hS : SlE Elt wz (.slice (some ⟨w1.heap.size, 0, none⟩) n n) (List.replicate n zlt) := by
      have h := OZ.out
      rw [made_lts n HN.out] at h
      have : OwnE Elt wz w1.heap.size (.slice (some ⟨w1.heap.size, 0, none⟩) n n) (List.replicate n zlt) := by
        unfold OwnE
        rw [List.length_replicate]
        exact h
      exact ownE_slE this
    have hF := heap_putV MZ.out (r := vo ⟨⟨some ⟨w1.heap.size, 0, none⟩, n, n⟩, 0⟩) (by rw [vo_size, vo_size])
    have hne : w.heap.size ≠ w1.heap.size := by have := (Array.getElem?_eq_some_iff.1 M1.out).1; omega
    refine bodyPost_ret (v := .tuple #[.agg (vo ⟨⟨some ⟨w1.heap.size, 0, none⟩, n, n⟩, 0⟩), .bool true]) (results_agg2 Try.isAgg28 Try.sizeOf28 _ 2 3 rfl _ _ _ _ _ rfl rfl (ldA_block hF (vo_size _))) rfl ⟨⟨some ⟨w1.heap.size, 0, none⟩, n, n⟩, by rw [HV.out], by rw [HV.out]; exact slE_block hS (by rw [size_stA]; exact Nat.le_refl _) (fun b _ hb => heap_stA (by have hb' : w1.heap.size = b := Option.some.inj hb; omega)), below_stA (belowT B1.out BZ.out) (Nat.le_refl _)⟩
  · have e : newOkV n = false := decide_eq_false hn
    have HV : Hid (newV n = ⟨[], 0⟩) := by unfold newV; rw [e, if_neg Bool.false_ne_true]; exact Lib.hid rfl
    rw [e] at HF ⊢
    clear hn e hi hz0 hz1 hz2
    go_enter Try.func23, Try.ntmps23
    go_upto_region 1 with fail
    rw [← HW.out]
    go_wp2_with fail
    refine HF.out.mono ?_
    rintro e w1 ⟨rfl, g⟩
    have B1 := Lib.hid (belowT HB.out g)
    have M1 := Lib.hid (blk_keep g M0.out)
    have y1 := wrA_block M1.out (vo_size _)
    clear g
    go_wp2_with fail
    exact bodyPost_ret (v := .tuple #[.agg (vo zvo), .bool false]) (results_agg2 Try.isAgg28 Try.sizeOf28 _ 2 3 rfl _ _ _ _ _ rfl rfl (ldA_block (heap_putV M1.out rfl) (vo_size _))) rfl ⟨⟨none, 0, 0⟩, by rw [HV.out]; rfl, by rw [HV.out]; exact slE_nil _ _ _ _, below_stA B1.out (Nat.le_refl _)⟩
end Go.Proofs.Ytccihllcohnnnaa
