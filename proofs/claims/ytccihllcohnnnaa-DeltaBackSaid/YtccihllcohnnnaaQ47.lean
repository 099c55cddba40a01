/-
  Package delta: Own, Weights, walked; all that is asked of it, and beside it.
-/
import Derived.Test.YtccihllcohnnnaaQ36
import Derived.Test.YtccihllcohnnnaaQ38
import Derived.Test.YtccihllcohnnnaaQ40
import Derived.Test.YtccihllcohnnnaaQ46
namespace Go.Proofs.Ytccihllcohnnnaa
open Go.RowKit
set_option maxRecDepth 100000

/-- Votes that nobody has. -/
theorem lat_none (n : Nat) (k : Nat) : lat (newV (n : Int)).l k = zlt := by
  unfold newV lat
  split
  · rw [Int.toNat_natCast, List.getD_eq_getElem?_getD, List.getElem?_replicate]
    split <;> rfl
  · rfl
theorem fit_new {l : List Nd} {v : Vt} {bal : List UInt64} (h : fitB l v bal = true) : fitB l (newV (v.l.length : Int)) bal = true := by
  obtain ⟨h1, h2, h3, h4⟩ := fit_iff.1 h
  obtain ⟨a, b, _⟩ := mayV_iff.1 h2
  obtain ⟨k1, k2, _⟩ := new_may (n := (v.l.length : Int)) (decide_eq_true (by omega))
  exact fit_iff.2 ⟨h1, k1, h3, by rw [k2]; omega⟩
theorem of_new (l : List Nd) (v : Vt) (bal : List UInt64) : ofB l (newV (v.l.length : Int)) v bal = fitB l v bal := by
  cases h : fitB l v bal
  · unfold ofB; rw [h, Bool.and_false]
  · exact of_iff.2 ⟨fit_new h, h⟩
theorem plus_new (l : List Nd) (v : Vt) (bal : List UInt64) : plusL l (newV (v.l.length : Int)) v bal = ownL l v bal := by
  cases h : fitB l v bal
  · rw [plusL_no (by rw [of_new, h]), ownL_no h]
  · rw [plusL_yes (by rw [of_new, h]), ownL_yes h]
    congr 1
    funext i
    unfold someF ownF
    congr 1
    funext k
    unfold newB
    rw [lat_none]
    cases hk : forB l v i k
    · rfl
    · have : lat v.l k ≠ zlt := by
        intro e
        unfold forB at hk
        rw [e] at hk
        cases hk
      rw [decide_eq_true this]; rfl

set_option maxRecDepth 100000 in
set_option maxHeartbeats 8000000 in
theorem deltaOwn_n (p q r : Option Addr) (n cp m cq k cr : Nat) (l : List Nd) (v : Vt) (bal : List UInt64) (w : World) (h : SlE Ene w (.slice p n cp) l) (h1 : SlE Elt w (.slice q m cq) v.l) (h2 : SlE Enum w (.slice r k cr) bal) (hv : v.l.length = m) :
    Calls Try.prog 10 #[.agg (tr ⟨⟨p, n, cp⟩⟩), .agg (vo ⟨⟨q, m, cq⟩, v.out⟩), .slice r k cr] w (NumsIs (ownL l v bal) (fitB l v bal) w) := by
  have HN := Lib.hid (fun W => voteNew (m : Int) W)
  have HO := Lib.hid (fun (s1 : SlV) W (g : Below w.heap.size w W) (hs : SlE Elt W (sv s1) (newV (m : Int)).l) => deltaOf ⟨p, n, cp⟩ s1 ⟨q, m, cq⟩ (.slice r k cr) l (newV (m : Int)) v bal W (slE_keep g h) hs (slE_keep g h1) (slE_keep g h2))
  have e1 := of_new l v bal
  have e2 := plus_new l v bal
  rw [hv] at e1 e2
  rw [e1, e2] at HO
  obtain ⟨f, hf⟩ : ∃ f, f = fitB l v bal := ⟨_, rfl⟩
  rw [← hf] at HO ⊢
  generalize ownL l v bal = A at *
  generalize minusL l (newV (m : Int)) v bal = M at *
  generalize newOkV (m : Int) = ok at *
  generalize newV (m : Int) = V at *
  obtain ⟨W0, hW0⟩ : ∃ W0, W0 = (w.alloc (.cells (tr ⟨⟨p, n, cp⟩⟩) 24)).alloc (.cells (vo ⟨⟨q, m, cq⟩, v.out⟩) 28) := ⟨_, rfl⟩
  obtain ⟨hB, k0, k1, hz0⟩ := heap2 w _ _ _ _ W0 hW0
  have HB := Lib.hid hB
  have HW := Lib.hid hW0
  have K0 := Lib.hid k0
  have K1 := Lib.hid k1
  have y0 := (vo_cells k1).1
  dsimp only at y0
  rw [sv_mk] at y0
  clear hW0 h h1 h2 hv hB k0 k1 hz0 hf e1 e2
  go_enter Try.func10, Try.ntmps10
  go_wp2_with fail
  rw [← HW.out]
  go_wp2_with fail
  refine (HN.out W0).mono ?_
  rintro e w1 ⟨s1, rfl, hs1, g1⟩
  have G1 := Lib.hid (belowT HB.out g1)
  have A1 := Lib.hid (vw_new g1 hs1)
  have M0 := Lib.hid (blk_keep (belowT g1 (below1 (o := .cells (vo ⟨s1, V.out⟩) 28))) K0.out)
  have M1 := Lib.hid (blk_keep (belowT g1 (below1 (o := .cells (vo ⟨s1, V.out⟩) 28))) K1.out)
  clear g1 hs1 y0
  have z1 := (tr_cells M0.out).2.1
  have y1 := (vo_cells M1.out).2.2.1
  have y2 := A1.out.z1
  obtain ⟨W2, hW2⟩ : ∃ W2, W2 = w1.alloc (.cells (vo ⟨s1, V.out⟩) 28) := ⟨_, rfl⟩
  obtain ⟨bx, hbx⟩ : ∃ bx, bx = w1.heap.size := ⟨_, rfl⟩
  rw [← hW2] at A1 z1 y1 y2
  rw [← hbx] at A1 y2
  have HW2 := Lib.hid hW2
  have HBX := Lib.hid hbx
  have G2 : Hid (Below w.heap.size w W2) := by show Below _ _ _; rw [hW2]; exact belowT G1.out below1
  clear hW2 hbx M0 M1
  go_wp2_with (rw [← HW2.out]; rw [← HBX.out])
  refine (HO.out s1 W2 G2.out A1.out.s).mono ?_
  rintro e w3 ⟨u1, u2, rfl, hu1, hu2, g3⟩
  have HU := Lib.hid hu1
  have G3 := Lib.hid (belowT G2.out g3)
  clear g3 hu1 hu2 z1 y1 y2
  go_wp2_with fail
  go_ret2
  exact ⟨_, rfl, HU.out, G3.out⟩
theorem deltaOwn (s t : SlV) (u : Value) (l : List Nd) (v : Vt) (bal : List UInt64) (w : World) (h : SlE Ene w (sv s) l) (h1 : SlE Elt w (sv t) v.l) (h2 : SlE Enum w u bal) :
    Calls Try.prog 10 #[.agg (tr ⟨s⟩), .agg (vo ⟨t, v.out⟩), u] w (NumsIs (ownL l v bal) (fitB l v bal) w) := by
  have hv := sv_lenT h1
  obtain ⟨p, n, cp⟩ := s
  obtain ⟨q, m, cq⟩ := t
  dsimp only at hv
  have k2 := h2
  obtain ⟨r, cr, rfl, _⟩ := slE_shape h2
  exact deltaOwn_n p q r n cp m cq _ cr l v bal w h h1 k2 hv

set_option maxRecDepth 100000 in
set_option maxHeartbeats 8000000 in
theorem deltaWeights_n (p q r : Option Addr) (n cp m cq k cr : Nat) (l : List Nd) (v : Vt) (bal : List UInt64) (w : World) (h : SlE Ene w (.slice p n cp) l) (h1 : SlE Elt w (.slice q m cq) v.l) (h2 : SlE Enum w (.slice r k cr) bal) :
    Calls Try.prog 12 #[.agg (tr ⟨⟨p, n, cp⟩⟩), .agg (vo ⟨⟨q, m, cq⟩, v.out⟩), .slice r k cr] w (NumsIs (wtsL l v bal) (fitB l v bal) w) := by
  have HO := Lib.hid (fun W (g : Below w.heap.size w W) => deltaOwn ⟨p, n, cp⟩ ⟨q, m, cq⟩ (.slice r k cr) l v bal W (slE_keep g h) (slE_keep g h1) (slE_keep g h2))
  have HS : Hid (fitB l v bal = true → ∀ x W, Below w.heap.size w W → SlE Enum W x (ownL l v bal) → Calls Try.prog 26 #[.agg (tr ⟨⟨p, n, cp⟩⟩), x] W (NumsIs (wtsL l v bal) true W)) := fun f x W g hx => by
    have := subC ⟨p, n, cp⟩ x l (ownL l v bal) W (slE_keep g h) hx
    rw [wts_ok f] at this
    rwa [wtsL_yes f]
  have HNo : Hid (fitB l v bal = false → wtsL l v bal = []) := fun e => wtsL_no e
  generalize ownL l v bal = A at *
  generalize wtsL l v bal = B at *
  generalize fitB l v bal = f at *
  obtain ⟨W0, hW0⟩ : ∃ W0, W0 = (w.alloc (.cells (tr ⟨⟨p, n, cp⟩⟩) 24)).alloc (.cells (vo ⟨⟨q, m, cq⟩, v.out⟩) 28) := ⟨_, rfl⟩
  obtain ⟨hB, k0, k1, hz0⟩ := heap2 w _ _ _ _ W0 hW0
  have HB := Lib.hid hB
  have HW := Lib.hid hW0
  have K0 := Lib.hid k0
  have z1 := (tr_cells k0).2.1
  have y1 := (vo_cells k1).2.2.1
  clear hW0 h h1 h2 hB k0 k1 hz0
  go_enter Try.func12, Try.ntmps12
  go_wp2_with fail
  rw [← HW.out]
  go_wp2_with fail
  refine (HO.out W0 HB.out).mono ?_
  rintro e w1 ⟨x, rfl, hx, g1⟩
  have HX := Lib.hid hx
  have G1 := Lib.hid (belowT HB.out g1)
  have M0 := Lib.hid (blk_keep g1 K0.out)
  clear hx g1 z1 y1
  have z1 := (tr_cells M0.out).2.1
  cases f
  · have e := HNo.out (by simp)
    subst e
    go_wp2_with fail
    go_ret2
    exact ⟨_, rfl, slE_nil _ _ _ _, G1.out⟩
  · go_wp2_with fail
    refine (HS.out (by simp) x w1 G1.out HX.out).mono ?_
    rintro e w2 ⟨y, rfl, hy, g2⟩
    have HY := Lib.hid hy
    have G2 := Lib.hid (belowT G1.out g2)
    clear hy g2 z1
    go_wp2_with fail
    go_ret2
    exact ⟨_, rfl, HY.out, G2.out⟩
theorem deltaWeights (s t : SlV) (u : Value) (l : List Nd) (v : Vt) (bal : List UInt64) (w : World) (h : SlE Ene w (sv s) l) (h1 : SlE Elt w (sv t) v.l) (h2 : SlE Enum w u bal) :
    Calls Try.prog 12 #[.agg (tr ⟨s⟩), .agg (vo ⟨t, v.out⟩), u] w (NumsIs (wtsL l v bal) (fitB l v bal) w) := by
  obtain ⟨p, n, cp⟩ := s
  obtain ⟨q, m, cq⟩ := t
  have k2 := h2
  obtain ⟨r, cr, rfl, _⟩ := slE_shape h2
  exact deltaWeights_n p q r n cp m cq _ cr l v bal w h h1 k2
theorem deltaC : DeltaC where
  own := deltaOwn
  weights := deltaWeights
  of := deltaOf
theorem besideC : BesideC where
  new := voteNew
  put := votePut
  bit := stakeBit
  ofS := stakeOf
  total := stakeTotal
  find := treeFind
  pass := passC
end Go.Proofs.Ytccihllcohnnnaa
