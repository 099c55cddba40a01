/-
  The document's Push and Pop of rings, walked.
-/
import Derived.Test.YtmcnpefnebehfaaRingI
namespace Go.Proofs.Ytmcnpefnebehfaa
open Go.RowKit

/-- What the document's Push answers. -/
def RPushIs (c : Int) (u : Value) (l : List Int) (x : Int) (w : World) (e : Ending) (w' : World) : Prop := ∃ v, e = .returned (.tuple #[.agg #[.int .i64 c, v], .bool (pushB c l)]) ∧ SlI w' v (pushL c l x) ∧ (v = u ∨ ∀ k, v.ownBlock = some k → w.heap.size ≤ k) ∧ Below w.heap.size w w'
/-- What the document's Pop answers. -/
def RPopIs (c : Int) (u : Value) (l : List Int) (w : World) (e : Ending) (w' : World) : Prop := ∃ v, e = .returned (.tuple #[.agg #[.int .i64 c, v], .int .i64 (popX c l), .bool (popB c l)]) ∧ SlI w' v (popL c l) ∧ (v = u ∨ ∀ k, v.ownBlock = some k → w.heap.size ≤ k) ∧ Below w.heap.size w w'

set_option maxRecDepth 100000 in
set_option maxHeartbeats 1000000 in
theorem refPush_off (c : Int) (p : Option Addr) (cap : Nat) (l : List Int) (x : Int) (w : World) (h : SlI w (.slice p l.length cap) l) (hm : mayB c l = false ∨ (mayB c l = true ∧ c = (l.length : Int))) :
    Calls Try.prog 11 #[.agg #[.int .i64 c, .slice p l.length cap], .int .i64 x] w (RPushIs c (.slice p l.length cap) l x w) := by
  have HS := Lib.hid h; clear h
  have HE : Hid (pushB c l = false ∧ pushL c l x = l) := by
    have e : pushB c l = false := by
      rcases hm with hm | ⟨hm, e⟩
      · exact pushB_not hm
      · unfold pushB; rw [hm, Bool.true_and, decide_eq_false_iff_not]; omega
    exact ⟨e, by unfold pushL; rw [if_neg (by rw [e]; exact Bool.false_ne_true)]⟩
  unfold RPushIs
  rw [HE.out.1, HE.out.2]
  have c1 := fun W => refMay_any c p cap l W
  obtain ⟨W0, hW0⟩ : ∃ W0, W0 = (w.alloc (.cells #[.int .i64 c, .slice p l.length cap] 24)).alloc (.cells #[.int .i64 0, .slice none 0 0] 24) := ⟨_, rfl⟩
  have HB : Hid (Below w.heap.size w W0) := by rw [hW0]; exact ((Below.refl w.heap.size w).alloc (Nat.le_refl _) _).alloc (by simp) _
  have M0 : Hid (W0.heap[w.heap.size]? = some (.cells #[.int .i64 c, .slice p l.length cap] 24 (0, 0))) := by rw [hW0]; exact heap_alloc2_old w _ _
  have N0 : Hid (W0.heap[w.heap.size + 1]? = some (.cells #[.int .i64 0, .slice none 0 0] 24 (0, 0))) := by rw [hW0]; exact heap_alloc2_new w _ _
  have HW := Lib.hid hW0
  have HM := Lib.hid hm
  clear hW0 hm HE
  rcases HM.out with hm | ⟨hm, hc⟩
  · rw [hm] at c1
    have HC := Lib.hid c1
    clear c1 hm HM
    go_enter Try.func11, Try.ntmps11
    go_wp2_with fail
    rw [← HW.out]
    refine (HC.out _).mono ?_
    rintro e w1 ⟨rfl, g1⟩
    have N1 := Lib.hid (blk_keep g1 N0.out)
    have B1 := Lib.hid (belowT HB.out g1)
    obtain ⟨x0, x1, _, _, xl⟩ := cells2 (blk_keep g1 M0.out)
    obtain ⟨z0, z1, q0, q1, zl⟩ := cells2 N1.out
    clear g1
    go_wp2_with fail
    exact bodyPost_ret (results_aggI2 Try.isAgg24 Try.sizeOf24 _ 4 5 rfl _ _ _ _ _ rfl rfl (ring_put N1.out _ _)) rfl (by
      have HG := (B1.out.setCell (p := ⟨w.heap.size + 1, 0, none⟩) (by show w.heap.size ≤ w.heap.size + 1; omega) (.int .i64 c)).setCell (p := ⟨w.heap.size + 1, 1, none⟩) (by show w.heap.size ≤ w.heap.size + 1; omega) (.slice p l.length cap)
      exact ⟨_, rfl, slI_keep HG HS.out, .inl rfl, HG⟩)
  · subst hc
    rw [hm] at c1
    have HC := Lib.hid c1
    clear c1 hm HM
    go_enter Try.func11, Try.ntmps11
    go_wp2_with fail
    rw [← HW.out]
    refine (HC.out _).mono ?_
    rintro e w1 ⟨rfl, g1⟩
    have N1 := Lib.hid (blk_keep g1 N0.out)
    have B1 := Lib.hid (belowT HB.out g1)
    obtain ⟨x0, x1, _, _, xl⟩ := cells2 (blk_keep g1 M0.out)
    obtain ⟨z0, z1, q0, q1, zl⟩ := cells2 N1.out
    clear g1
    go_wp2_with fail
    exact bodyPost_ret (results_aggI2 Try.isAgg24 Try.sizeOf24 _ 4 5 rfl _ _ _ _ _ rfl rfl (ring_put N1.out _ _)) rfl (by
      have HG := (B1.out.setCell (p := ⟨w.heap.size + 1, 0, none⟩) (by show w.heap.size ≤ w.heap.size + 1; omega) (.int .i64 (l.length : Int))).setCell (p := ⟨w.heap.size + 1, 1, none⟩) (by show w.heap.size ≤ w.heap.size + 1; omega) (.slice p l.length cap)
      exact ⟨_, rfl, slI_keep HG HS.out, .inl rfl, HG⟩)

theorem slI_set {w : World} {base R o : Nat} {v : Value} {l : List Int} (h : OwnI w base v l) (hR : R < base) (x : Value) : OwnI (w.setCell ⟨R, o, none⟩ x) base v l := ownI_set h hR x

set_option maxRecDepth 100000 in
set_option maxHeartbeats 1000000 in
theorem refPush_yes (c : Int) (p : Option Addr) (cap : Nat) (l : List Int) (x : Int) (w : World) (h : SlI w (.slice p l.length cap) l) (hm : mayB c l = true) (hc : (l.length : Int) < c) :
    Calls Try.prog 11 #[.agg #[.int .i64 c, .slice p l.length cap], .int .i64 x] w (RPushIs c (.slice p l.length cap) l x w) := by
  have HS := Lib.hid h; clear h
  have HE : Hid (pushB c l = true ∧ pushL c l x = l ++ [x]) := by
    have e : pushB c l = true := by
      unfold pushB; rw [hm, Bool.true_and, decide_eq_true_iff]; exact hc
    exact ⟨e, by unfold pushL; rw [if_pos e]⟩
  unfold RPushIs
  rw [HE.out.1, HE.out.2]
  have c1 := fun W => refMay_any c p cap l W
  have H8 := Lib.hid (may_len hm)
  rw [hm] at c1
  have t1 : ((l.length : Int) == c) = false := by simp; omega
  obtain ⟨k, hk⟩ : ∃ k, k = l ++ [x] := ⟨_, rfl⟩
  rw [← hk]
  have HK := Lib.hid hk
  clear hk
  obtain ⟨W0, hW0⟩ : ∃ W0, W0 = (w.alloc (.cells #[.int .i64 c, .slice p l.length cap] 24)).alloc (.cells #[.int .i64 0, .slice none 0 0] 24) := ⟨_, rfl⟩
  have HB : Hid (Below w.heap.size w W0) := by rw [hW0]; exact ((Below.refl w.heap.size w).alloc (Nat.le_refl _) _).alloc (by simp) _
  have M0 : Hid (W0.heap[w.heap.size]? = some (.cells #[.int .i64 c, .slice p l.length cap] 24 (0, 0))) := by rw [hW0]; exact heap_alloc2_old w _ _
  have N0 : Hid (W0.heap[w.heap.size + 1]? = some (.cells #[.int .i64 0, .slice none 0 0] 24 (0, 0))) := by rw [hW0]; exact heap_alloc2_new w _ _
  have HW := Lib.hid hW0
  have HC := Lib.hid c1
  clear hW0 hm hc HE c1
  go_enter Try.func11, Try.ntmps11
  go_wp2_with fail
  rw [← HW.out]
  refine (HC.out _).mono ?_
  rintro e w1 ⟨rfl, g1⟩
  have M1 := Lib.hid (blk_keep g1 M0.out)
  have N1 := Lib.hid (blk_keep g1 N0.out)
  have B1 := Lib.hid (belowT HB.out g1)
  have S1 := Lib.hid (slI_keep B1.out HS.out)
  obtain ⟨x0, x1, _, _, xl⟩ := cells2 M1.out
  have HZ := Lib.hid (cells2 N1.out).2.2.2.2
  clear g1
  go_wp2_with (first
    | (at_builtin; refine wpList_append_ints w1 rfl (.const (.slice none 0 0)) (.tmp 21) rfl w1.heap.size _ [] rfl (ownI_nil _ _) _ l rfl S1.out (by have := H8.out; simp; omega) (Nat.le_refl _) ?_; intro v2 w2 ho2 hg2)
    | (at_builtin
       refine wpList_append_ints _ rfl (.tmp 22) (.tmp 24) rfl w1.heap.size _ _ rfl (ownI_alloc ho2 _) _ [x] rfl (slI_lit _ [x] _ _ _ rfl rfl) (by have := H8.out; simp; omega) (by have := hg2.1.size; simp; omega) ?_
       intro v3 w3 ho3 hg3
       have D2 : Below w1.heap.size w1 w2 := hg2.own (ownI_nil _ _) (Nat.le_refl _)
       have D3 := Lib.hid (D2.trans ((GrI.alloc hg3).own ho2 D2.size))
       have M3 := Lib.hid (blk_keep D3.out M1.out)
       have N3 := Lib.hid (blk_keep D3.out N1.out)
       obtain ⟨y0, y1, r0, r1, yl⟩ := cells2 M3.out
       obtain ⟨z0, z1, q0, q1, zl⟩ := cells2 N3.out
       have HO3 : Hid (OwnI w3 w1.heap.size v3 k) := by rw [HK.out]; exact ho3
       clear ho2 hg2 ho3 hg3 D2 x0 x1
       obtain ⟨p3, cap3, rfl⟩ := ownI_shape HO3.out))
  exact bodyPost_ret (results_aggI2 Try.isAgg24 Try.sizeOf24 _ 4 5 rfl _ _ _ _ _ rfl rfl (ring_put (by rw [Below.heap_setCell _ _ _ _ (show w.heap.size + 1 ≠ w.heap.size by omega)]; exact N3.out) _ _)) rfl (by
    have hz := HZ.out
    exact ⟨_, rfl, ownI_slI (ownI_set (ownI_set (ownI_set HO3.out (by omega) _) hz _) hz _), .inr fun q hq => by have := (World.ownsRow.lt HO3.out q hq).1; omega, (((belowT B1.out D3.out).setCell (by show w.heap.size ≤ w.heap.size; omega) _).setCell (by show w.heap.size ≤ w.heap.size + 1; omega) _).setCell (by show w.heap.size ≤ w.heap.size + 1; omega) _⟩)
/-- The document's Push of any ring. -/
theorem refPush_any (c : Int) (v : Value) (l : List Int) (x : Int) (w : World) (h : SlI w v l) :
    Calls Try.prog 11 #[.agg #[.int .i64 c, v], .int .i64 x] w (RPushIs c v l x w) := by
  have hs := h
  obtain ⟨p, cap, rfl, _⟩ := slI_shape h
  cases hm : mayB c l with
  | false => exact refPush_off c p cap l x w hs (.inl hm)
  | true =>
    have := mayB_iff.1 hm
    by_cases e : (l.length : Int) < c
    · exact refPush_yes c p cap l x w hs hm e
    · exact refPush_off c p cap l x w hs (.inr ⟨hm, by omega⟩)

set_option maxRecDepth 100000 in
set_option maxHeartbeats 1000000 in
theorem refPop_off (c : Int) (p : Option Addr) (cap : Nat) (l : List Int) (w : World) (h : SlI w (.slice p l.length cap) l) (hm : mayB c l = false ∨ (mayB c l = true ∧ l = [])) :
    Calls Try.prog 13 #[.agg #[.int .i64 c, .slice p l.length cap]] w (RPopIs c (.slice p l.length cap) l w) := by
  have HS := Lib.hid h; clear h
  have HE : Hid (popB c l = false ∧ popL c l = l ∧ popX c l = 0) := by
    have e : popB c l = false := by
      rcases hm with hm | ⟨hm, e⟩
      · exact popB_not hm
      · unfold popB; rw [hm, Bool.true_and, decide_eq_false_iff_not, e]; simp
    exact ⟨e, by unfold popL; rw [if_neg (by rw [e]; exact Bool.false_ne_true)], by unfold popX; rw [if_neg (by rw [e]; exact Bool.false_ne_true)]⟩
  unfold RPopIs
  rw [HE.out.1, HE.out.2.1, HE.out.2.2]
  have c1 := fun W => refMay_any c p cap l W
  have HM := Lib.hid hm
  clear hm HE
  rcases HM.out with hm | ⟨hm, hc⟩
  · obtain ⟨W0, hW0⟩ : ∃ W0, W0 = (w.alloc (.cells #[.int .i64 c, .slice p l.length cap] 24)).alloc (.cells #[.int .i64 0, .slice none 0 0] 24) := ⟨_, rfl⟩
    have HB : Hid (Below w.heap.size w W0) := by rw [hW0]; exact ((Below.refl w.heap.size w).alloc (Nat.le_refl _) _).alloc (by simp) _
    have M0 : Hid (W0.heap[w.heap.size]? = some (.cells #[.int .i64 c, .slice p l.length cap] 24 (0, 0))) := by rw [hW0]; exact heap_alloc2_old w _ _
    have N0 : Hid (W0.heap[w.heap.size + 1]? = some (.cells #[.int .i64 0, .slice none 0 0] 24 (0, 0))) := by rw [hW0]; exact heap_alloc2_new w _ _
    have HW := Lib.hid hW0
    clear hW0
    rw [hm] at c1
    have HC := Lib.hid c1
    clear c1 hm HM
    go_enter Try.func13, Try.ntmps13
    go_wp2_with fail
    rw [← HW.out]
    refine (HC.out _).mono ?_
    rintro e w1 ⟨rfl, g1⟩
    have N1 := Lib.hid (blk_keep g1 N0.out)
    have B1 := Lib.hid (belowT HB.out g1)
    obtain ⟨x0, x1, _, _, xl⟩ := cells2 (blk_keep g1 M0.out)
    obtain ⟨z0, z1, q0, q1, zl⟩ := cells2 N1.out
    clear g1
    go_wp2_with fail
    exact bodyPost_ret (results_aggI3 Try.isAgg24 Try.sizeOf24 _ 2 3 4 rfl _ _ _ _ _ _ rfl rfl rfl (ring_put N1.out _ _)) rfl (by
      have HG := (B1.out.setCell (p := ⟨w.heap.size + 1, 0, none⟩) (by show w.heap.size ≤ w.heap.size + 1; omega) (.int .i64 c)).setCell (p := ⟨w.heap.size + 1, 1, none⟩) (by show w.heap.size ≤ w.heap.size + 1; omega) (.slice p l.length cap)
      exact ⟨_, rfl, slI_keep HG HS.out, .inl rfl, HG⟩)
  · subst hc
    show Calls Try.prog 13 #[.agg #[.int .i64 c, .slice p 0 cap]] w _
    obtain ⟨W0, hW0⟩ : ∃ W0, W0 = (w.alloc (.cells #[.int .i64 c, .slice p 0 cap] 24)).alloc (.cells #[.int .i64 0, .slice none 0 0] 24) := ⟨_, rfl⟩
    have HB : Hid (Below w.heap.size w W0) := by rw [hW0]; exact ((Below.refl w.heap.size w).alloc (Nat.le_refl _) _).alloc (by simp) _
    have M0 : Hid (W0.heap[w.heap.size]? = some (.cells #[.int .i64 c, .slice p 0 cap] 24 (0, 0))) := by rw [hW0]; exact heap_alloc2_old w _ _
    have N0 : Hid (W0.heap[w.heap.size + 1]? = some (.cells #[.int .i64 0, .slice none 0 0] 24 (0, 0))) := by rw [hW0]; exact heap_alloc2_new w _ _
    have HW := Lib.hid hW0
    clear hW0
    rw [hm] at c1
    have c1' : ∀ W, Calls Try.prog 20 #[.agg #[.int .i64 c, .slice p 0 cap]] W fun e w' => e = .returned (.bool true) ∧ Below W.heap.size W w' := c1
    have HC := Lib.hid c1'
    clear c1 c1' hm HM
    go_enter Try.func13, Try.ntmps13
    go_wp2_with fail
    rw [← HW.out]
    refine (HC.out _).mono ?_
    rintro e w1 ⟨rfl, g1⟩
    have N1 := Lib.hid (blk_keep g1 N0.out)
    have B1 := Lib.hid (belowT HB.out g1)
    obtain ⟨x0, x1, _, _, xl⟩ := cells2 (blk_keep g1 M0.out)
    obtain ⟨z0, z1, q0, q1, zl⟩ := cells2 N1.out
    clear g1
    go_wp2_with fail
    exact bodyPost_ret (results_aggI3 Try.isAgg24 Try.sizeOf24 _ 2 3 4 rfl _ _ _ _ _ _ rfl rfl rfl (ring_put N1.out _ _)) rfl (by
      have HG := (B1.out.setCell (p := ⟨w.heap.size + 1, 0, none⟩) (by show w.heap.size ≤ w.heap.size + 1; omega) (.int .i64 c)).setCell (p := ⟨w.heap.size + 1, 1, none⟩) (by show w.heap.size ≤ w.heap.size + 1; omega) (.slice p 0 cap)
      exact ⟨_, rfl, slI_nil _ _ _, .inl rfl, HG⟩)

set_option maxRecDepth 100000 in
set_option maxHeartbeats 1000000 in
theorem refPop_yes (c : Int) (p : Option Addr) (cap : Nat) (l : List Int) (w : World) (h : SlI w (.slice p l.length cap) l) (hcap : l.length ≤ cap) (hm : mayB c l = true) (hc : 0 < l.length) :
    Calls Try.prog 13 #[.agg #[.int .i64 c, .slice p l.length cap]] w (RPopIs c (.slice p l.length cap) l w) := by
  have HE : Hid (popB c l = true ∧ popL c l = l.drop 1 ∧ popX c l = it l 0) := by
    have e : popB c l = true := by
      unfold popB; rw [hm, Bool.true_and, decide_eq_true_iff]; exact hc
    exact ⟨e, by unfold popL; rw [if_pos e], by unfold popX; rw [if_pos e]⟩
  unfold RPopIs
  rw [HE.out.1, HE.out.2.1, HE.out.2.2]
  have c1 := fun W => refMay_any c p cap l W
  have H8 := Lib.hid (may_len hm)
  rw [hm] at c1
  have t1 : ((l.length : Int) == 0) = false := by simp; intro e; subst e; simp at hc
  have i1 : (0 : Int) < (l.length : Int) := by omega
  obtain ⟨b, off, cap', e1, _, hb, hx⟩ := slI_ne h hc
  injection e1 with e2 _ e3
  subst e2 e3
  have HS := Lib.hid h
  have HX := Lib.hid (hx 0 hc)
  have HBL := Lib.hid hb
  obtain ⟨vr, hvr, hsr⟩ := cut_fromI (some ⟨b, off, none⟩) cap l 1 hc hcap
  have hvr' : cutFI (.slice (some ⟨b, off, none⟩) l.length cap) (.int .i64 1) = some vr := hvr
  obtain ⟨y, hy⟩ : ∃ y, y = it l 0 := ⟨_, rfl⟩
  obtain ⟨k, hk⟩ : ∃ k, k = l.drop 1 := ⟨_, rfl⟩
  rw [← hy, ← hk]
  rw [← hk] at hsr
  have HY := Lib.hid hy
  have HSR := Lib.hid hsr
  have HK : Hid (k.length ≤ 8) := by have := H8.out; show k.length ≤ 8; rw [hk, List.length_drop]; omega
  obtain ⟨W0, hW0⟩ : ∃ W0, W0 = (w.alloc (.cells #[.int .i64 c, .slice (some ⟨b, off, none⟩) l.length cap] 24)).alloc (.cells #[.int .i64 0, .slice none 0 0] 24) := ⟨_, rfl⟩
  have HB : Hid (Below w.heap.size w W0) := by rw [hW0]; exact ((Below.refl w.heap.size w).alloc (Nat.le_refl _) _).alloc (by simp) _
  have M0 : Hid (W0.heap[w.heap.size]? = some (.cells #[.int .i64 c, .slice (some ⟨b, off, none⟩) l.length cap] 24 (0, 0))) := by rw [hW0]; exact heap_alloc2_old w _ _
  have N0 : Hid (W0.heap[w.heap.size + 1]? = some (.cells #[.int .i64 0, .slice none 0 0] 24 (0, 0))) := by rw [hW0]; exact heap_alloc2_new w _ _
  have HW := Lib.hid hW0
  have HC := Lib.hid c1
  clear hW0 hm hc HE c1 hx hb h hcap hvr hsr hy hk
  go_enter Try.func13, Try.ntmps13
  go_wp2_with fail
  rw [← HW.out]
  refine (HC.out _).mono ?_
  rintro e w1 ⟨rfl, g1⟩
  have M1 := Lib.hid (blk_keep g1 M0.out)
  have N1 := Lib.hid (blk_keep g1 N0.out)
  have B1 := Lib.hid (belowT HB.out g1)
  have S1 := Lib.hid (HSR.out _ (slI_keep B1.out HS.out))
  obtain ⟨x0, x1, _, _, xl⟩ := cells2 M1.out
  have xy : w1.cell? ⟨b, off, none⟩ = some (.int .i64 y) := by rw [HY.out]; exact (B1.out.cell (p := ⟨b, off, none⟩) HBL.out).trans HX.out
  have HZ := Lib.hid (cells2 N1.out).2.2.2.2
  clear g1
  go_wp2_with (
     at_builtin
     refine wpList_append_ints w1 rfl (.const (.slice none 0 0)) (.tmp 24) rfl w1.heap.size _ [] rfl (ownI_nil _ _) _ k rfl S1.out (by have := HK.out; simp; omega) (Nat.le_refl _) ?_
     intro v2 w2 ho2 hg2
     have D3 := Lib.hid (hg2.own (ownI_nil w1 w1.heap.size) (Nat.le_refl _))
     have M3 := Lib.hid (blk_keep D3.out M1.out)
     have N3 := Lib.hid (blk_keep D3.out N1.out)
     obtain ⟨y0, y1, r0, r1, yl⟩ := cells2 M3.out
     obtain ⟨z0, z1, q0, q1, zl⟩ := cells2 N3.out
     have HO3 := Lib.hid (show OwnI w2 w1.heap.size v2 k by simpa using ho2)
     clear ho2 hg2 x0 x1 xy
     obtain ⟨p3, cap3, rfl⟩ := ownI_shape HO3.out)
  exact bodyPost_ret (results_aggI3 Try.isAgg24 Try.sizeOf24 _ 2 3 4 rfl _ _ _ _ _ _ rfl rfl rfl (ring_put (by rw [Below.heap_setCell _ _ _ _ (show w.heap.size + 1 ≠ w.heap.size by omega)]; exact N3.out) _ _)) rfl (by
    have hz := HZ.out
    exact ⟨_, rfl, ownI_slI (ownI_set (ownI_set (ownI_set HO3.out (by omega) _) hz _) hz _), .inr fun q hq => by have := (World.ownsRow.lt HO3.out q hq).1; omega, (((belowT B1.out D3.out).setCell (by show w.heap.size ≤ w.heap.size; omega) _).setCell (by show w.heap.size ≤ w.heap.size + 1; omega) _).setCell (by show w.heap.size ≤ w.heap.size + 1; omega) _⟩)
/-- The document's Pop of any ring. -/
theorem refPop_any (c : Int) (v : Value) (l : List Int) (w : World) (h : SlI w v l) :
    Calls Try.prog 13 #[.agg #[.int .i64 c, v]] w (RPopIs c v l w) := by
  have hs := h
  obtain ⟨p, cap, rfl, hcap⟩ := slI_shape h
  cases hm : mayB c l with
  | false => exact refPop_off c p cap l w hs (.inl hm)
  | true =>
    by_cases e : 0 < l.length
    · exact refPop_yes c p cap l w hs hcap hm e
    · exact refPop_off c p cap l w hs (.inr ⟨hm, List.length_eq_zero_iff.1 (by omega)⟩)
end Go.Proofs.Ytmcnpefnebehfaa
