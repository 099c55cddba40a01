/-
  Package ring: Push and Pop, walked.
-/
import Derived.Test.YtmcnpefnebehfaaRingE
namespace Go.Proofs.Ytmcnpefnebehfaa
open Go.RowKit

theorem cells2 {w : World} {R : Nat} {a b : Value} {T : TypeId} (h : w.heap[R]? = some (.cells #[a, b] T (0, 0))) : w.cell? ⟨R, 0, none⟩ = some a ∧ w.cell? ⟨R, 1, none⟩ = some b ∧ w.frozen? ⟨R, 0, none⟩ = false ∧ w.frozen? ⟨R, 1, none⟩ = false ∧ R < w.heap.size :=
  ⟨by rw [cell_of_row _ _ _ _ _ _ h]; rfl, by rw [cell_of_row _ _ _ _ _ _ h]; rfl, frozen_of_row _ _ _ _ _ h, frozen_of_row _ _ _ _ _ h, (Array.getElem?_eq_some_iff.1 h).1⟩
theorem blk_keep {w w' : World} {b : Nat} {o : Obj} (g : Below w.heap.size w w') (h : w.heap[b]? = some o) : w'.heap[b]? = some o := (g.block _ (Array.getElem?_eq_some_iff.1 h).1).trans h

/-- What Push answers. -/
def PushIs (c : Int) (l : List Int) (x : Int) (w : World) (e : Ending) (w' : World) : Prop := ∃ v, e = .returned (.tuple #[.agg #[.int .i64 c, v], .bool (pushB c l)]) ∧ OwnI w' w.heap.size v (pushL c l x) ∧ Below w.heap.size w w'

set_option maxRecDepth 100000 in
set_option maxHeartbeats 1000000 in
theorem rpush_no (c : Int) (p : Option Addr) (cap : Nat) (l : List Int) (x : Int) (w : World) (h : SlI w (.slice p l.length cap) l) (hl : l.length ≤ 1000) (hm : mayB c l = false) :
    Calls Try.prog 10 #[.agg #[.int .i64 c, .slice p l.length cap], .int .i64 x] w (PushIs c l x w) := by
  have HS := Lib.hid h; clear h
  have HE : Hid (pushB c l = false ∧ pushL c l x = l) := by
    have e := pushB_not hm
    exact ⟨e, by unfold pushL; rw [if_neg (by rw [e]; exact Bool.false_ne_true)]⟩
  unfold PushIs
  rw [HE.out.1, HE.out.2]
  have HQ := Lib.hid (fun W => queueOf_no c p cap l W hm)
  have HM := Lib.hid (fun W hW => same_any c (.slice p l.length cap) l W hW hl)
  clear hm HE hl
  obtain ⟨W0, hW0⟩ : ∃ W0, W0 = (w.alloc (.cells #[.int .i64 c, .slice p l.length cap] 24)).alloc (.cells #[.int .i64 0, .slice none 0 0] 24) := ⟨_, rfl⟩
  have HB : Hid (Below w.heap.size w W0) := by rw [hW0]; exact ((Below.refl w.heap.size w).alloc (Nat.le_refl _) _).alloc (by simp) _
  have M0 : Hid (W0.heap[w.heap.size]? = some (.cells #[.int .i64 c, .slice p l.length cap] 24 (0, 0))) := by rw [hW0]; exact heap_alloc2_old w _ _
  have N0 : Hid (W0.heap[w.heap.size + 1]? = some (.cells #[.int .i64 0, .slice none 0 0] 24 (0, 0))) := by rw [hW0]; exact heap_alloc2_new w _ _
  have HW := Lib.hid hW0
  clear hW0
  go_enter Try.func10, Try.ntmps10
  go_wp2_with fail
  refine (HQ.out _).mono ?_
  rw [← HW.out]
  rintro e w1 ⟨rfl, g1⟩
  have M1 := Lib.hid (blk_keep g1 M0.out)
  have N1 := Lib.hid (blk_keep g1 N0.out)
  have B1 := Lib.hid (belowT HB.out g1)
  obtain ⟨x0, x1, _, _, xl⟩ := cells2 M1.out
  clear g1 M0 N0
  go_wp2_with fail
  have G2 : Hid (Below w1.heap.size w1 (w1.alloc (.cells zq 44))) := (Below.refl _ _).alloc (Nat.le_refl _) _
  refine (HM.out _ (slI_keep (belowT B1.out G2.out) HS.out)).mono ?_
  rintro e w3 ⟨v3, rfl, ho3, g3⟩
  have B3 := Lib.hid (belowT (belowT B1.out G2.out) g3)
  have N3 := Lib.hid (blk_keep g3 (blk_keep G2.out N1.out))
  obtain ⟨z0, z1, q0, q1, zl⟩ := cells2 N3.out
  have HO3 := Lib.hid ho3
  obtain ⟨p3, cap3, rfl⟩ := ownI_shape ho3
  have HZ := Lib.hid (cells2 N1.out).2.2.2.2
  clear ho3 g3
  go_wp2_with fail
  have hz : w.heap.size + 1 < (w1.alloc (.cells zq 44)).heap.size := by have := HZ.out; simp; omega
  exact bodyPost_ret (results_aggI2 Try.isAgg24 Try.sizeOf24 _ 4 5 rfl _ _ _ _ _ rfl rfl (ring_put N3.out _ _)) rfl ⟨_, rfl, ownI_base (ownI_set (ownI_set HO3.out hz _) hz _) (by omega), (B3.out.setCell (by show w.heap.size ≤ w.heap.size + 1; omega) _).setCell (by show w.heap.size ≤ w.heap.size + 1; omega) _⟩

theorem grown_blk {w w' : World} {b k : Nat} {o : Obj} (g : w.grownBy w' (some b)) (h : w.heap[k]? = some o) (hk : k ≠ b) : w'.heap[k]? = some o := by
  rw [g.block k (Array.getElem?_eq_some_iff.1 h).1 (fun e => hk (by injection e))]; exact h
theorem grown_below {w0 w w' : World} {B b : Nat} (h : Below B w0 w) (g : w.grownBy w' (some b)) (hb : B ≤ b) (hB : B ≤ w.heap.size) : Below B w0 w' := h.grown g hB (fun k hk => by injection hk with hk; omega)
/-- A queue that queueOf answered, in a block of its own. -/
theorem que_new {w : World} {pl : List Int} {l : List Int} {c : Nat} (h1 : pl.length = 8) (h2 : ∀ i, i < l.length → it pl i = it l i) (h3 : l.length ≤ c) (h4 : c ≤ 8) : Que (w.alloc (.cells (qc pl 0 l.length c) 44)) w.heap.size l c :=
  ⟨pl, 0, h1, by omega, h3, h4, heap_alloc_last _ _, fun i hi => by rw [Nat.zero_add, Nat.mod_eq_of_lt (by omega)]; exact h2 i hi⟩

set_option maxRecDepth 100000 in
set_option maxHeartbeats 1000000 in
theorem rpush_full (c : Nat) (p : Option Addr) (cap : Nat) (l : List Int) (x : Int) (w : World) (h : SlI w (.slice p l.length cap) l) (h8 : c ≤ 8) (hc : l.length = c) :
    Calls Try.prog 10 #[.agg #[.int .i64 (c : Int), .slice p l.length cap], .int .i64 x] w (PushIs (c : Int) l x w) := by
  have HS := Lib.hid h
  have HE : Hid (pushB (c : Int) l = false ∧ pushL (c : Int) l x = l) := by
    have e : pushB (c : Int) l = false := by simp [pushB]; intro _; omega
    exact ⟨e, by unfold pushL; rw [if_neg (by rw [e]; exact Bool.false_ne_true)]⟩
  unfold PushIs
  rw [HE.out.1, HE.out.2]
  have HQ := Lib.hid (fun W hW => queueOf_yes c p cap l W hW (by omega) h8)
  have HM := Lib.hid (fun W hW => same_any (c : Int) (.slice p l.length cap) l W hW (by omega))
  have HP := Lib.hid (fun b W hW => push_no b l c x W hW (by omega))
  have H8 : Hid (l.length ≤ c ∧ c ≤ 8) := ⟨by omega, h8⟩
  clear HE h h8 hc
  obtain ⟨W0, hW0⟩ : ∃ W0, W0 = (w.alloc (.cells #[.int .i64 (c : Int), .slice p l.length cap] 24)).alloc (.cells #[.int .i64 0, .slice none 0 0] 24) := ⟨_, rfl⟩
  have HB : Hid (Below w.heap.size w W0) := by rw [hW0]; exact ((Below.refl w.heap.size w).alloc (Nat.le_refl _) _).alloc (by simp) _
  have M0 : Hid (W0.heap[w.heap.size]? = some (.cells #[.int .i64 (c : Int), .slice p l.length cap] 24 (0, 0))) := by rw [hW0]; exact heap_alloc2_old w _ _
  have N0 : Hid (W0.heap[w.heap.size + 1]? = some (.cells #[.int .i64 0, .slice none 0 0] 24 (0, 0))) := by rw [hW0]; exact heap_alloc2_new w _ _
  have HW := Lib.hid hW0
  clear hW0
  go_enter Try.func10, Try.ntmps10
  go_wp2_with fail
  rw [← HW.out]
  refine (HQ.out _ (slI_keep HB.out HS.out)).mono ?_
  rintro e w1 ⟨pl, rfl, hp8, hpl, g1⟩
  have M1 := Lib.hid (blk_keep g1 M0.out)
  have N1 := Lib.hid (blk_keep g1 N0.out)
  have B1 := Lib.hid (belowT HB.out g1)
  have qs := qc_size hp8 0 l.length c
  have qk := qc_ones (f := 0) (n := l.length) (c := c) hp8
  have Q2 := Lib.hid (que_new (w := w1) hp8 hpl H8.out.1 H8.out.2)
  clear g1 M0 N0 hp8 hpl
  generalize qc pl 0 l.length c = Q at *
  go_wp2_with fail
  refine (HP.out _ _ Q2.out).mono ?_
  rintro e w2 ⟨rfl, g2, _⟩
  have HZ := Lib.hid (cells2 N1.out).2.2.2.2
  have hz : w.heap.size + 1 < w1.heap.size := HZ.out
  have M2 := Lib.hid (grown_blk g2 (heap_keepA M1.out) (by omega))
  have N2 := Lib.hid (grown_blk g2 (heap_keepA N1.out) (by omega))
  have B2 : Hid (Below w.heap.size w w2) := grown_below (belowT B1.out ((Below.refl _ _).alloc (Nat.le_refl _) (.cells Q 44))) g2 (by omega) (by simp; omega)
  obtain ⟨x0, x1, _, _, xl⟩ := cells2 M2.out
  clear g2 hz
  go_wp2_with fail
  refine (HM.out _ (slI_keep B2.out HS.out)).mono ?_
  rintro e w3 ⟨v3, rfl, ho3, g3⟩
  have B3 := Lib.hid (belowT B2.out g3)
  have N3 := Lib.hid (blk_keep g3 N2.out)
  obtain ⟨z0, z1, q0, q1, zl⟩ := cells2 N3.out
  have HO3 := Lib.hid ho3
  obtain ⟨p3, cap3, rfl⟩ := ownI_shape ho3
  have HZ2 := Lib.hid (cells2 N2.out).2.2.2.2
  clear ho3 g3
  go_wp2_with fail
  have hz := HZ2.out
  exact bodyPost_ret (results_aggI2 Try.isAgg24 Try.sizeOf24 _ 4 5 rfl _ _ _ _ _ rfl rfl (ring_put N3.out _ _)) rfl ⟨_, rfl, ownI_base (ownI_set (ownI_set HO3.out hz _) hz _) (by omega), (B3.out.setCell (by show w.heap.size ≤ w.heap.size + 1; omega) _).setCell (by show w.heap.size ≤ w.heap.size + 1; omega) _⟩

set_option maxRecDepth 100000 in
set_option maxHeartbeats 1000000 in
theorem rpush_yes (c : Nat) (p : Option Addr) (cap : Nat) (l : List Int) (x : Int) (w : World) (h : SlI w (.slice p l.length cap) l) (h8 : c ≤ 8) (hc : l.length < c) :
    Calls Try.prog 10 #[.agg #[.int .i64 (c : Int), .slice p l.length cap], .int .i64 x] w (PushIs (c : Int) l x w) := by
  have HS := Lib.hid h
  have HE : Hid (pushB (c : Int) l = true ∧ pushL (c : Int) l x = l ++ [x]) := by
    have e : pushB (c : Int) l = true := by
      unfold pushB; rw [Bool.and_eq_true, decide_eq_true_eq, mayB_iff]; omega
    exact ⟨e, by unfold pushL; rw [if_pos e]⟩
  unfold PushIs
  rw [HE.out.1, HE.out.2]
  have HQ := Lib.hid (fun W hW => queueOf_yes c p cap l W hW (by omega) h8)
  have HP := Lib.hid (fun b W hW => push_yes b l c x W hW hc)
  have H8 : Hid (l.length ≤ c ∧ c ≤ 8) := ⟨by omega, h8⟩
  clear HE h h8 hc
  obtain ⟨k, hk⟩ : ∃ k, k = l ++ [x] := ⟨_, rfl⟩
  rw [← hk] at HP ⊢
  clear hk
  obtain ⟨W0, hW0⟩ : ∃ W0, W0 = (w.alloc (.cells #[.int .i64 (c : Int), .slice p l.length cap] 24)).alloc (.cells #[.int .i64 0, .slice none 0 0] 24) := ⟨_, rfl⟩
  have HB : Hid (Below w.heap.size w W0) := by rw [hW0]; exact ((Below.refl w.heap.size w).alloc (Nat.le_refl _) _).alloc (by simp) _
  have N0 : Hid (W0.heap[w.heap.size + 1]? = some (.cells #[.int .i64 0, .slice none 0 0] 24 (0, 0))) := by rw [hW0]; exact heap_alloc2_new w _ _
  have HW := Lib.hid hW0
  clear hW0
  go_enter Try.func10, Try.ntmps10
  go_wp2_with fail
  rw [← HW.out]
  refine (HQ.out _ (slI_keep HB.out HS.out)).mono ?_
  rintro e w1 ⟨pl, rfl, hp8, hpl, g1⟩
  have N1 := Lib.hid (blk_keep g1 N0.out)
  have B1 := Lib.hid (belowT HB.out g1)
  have qs := qc_size hp8 0 l.length c
  have qk := qc_ones (f := 0) (n := l.length) (c := c) hp8
  have Q2 := Lib.hid (que_new (w := w1) hp8 hpl H8.out.1 H8.out.2)
  clear g1 N0 hp8 hpl
  generalize qc pl 0 l.length c = Q at *
  go_wp2_with fail
  refine (HP.out _ _ Q2.out).mono ?_
  rintro e w2 ⟨rfl, g2, q2⟩
  have HZ := Lib.hid (cells2 N1.out).2.2.2.2
  have hz : w.heap.size + 1 < w1.heap.size := HZ.out
  have N2 := Lib.hid (grown_blk g2 (heap_keepA N1.out) (by omega))
  have B2 : Hid (Below w.heap.size w w2) := grown_below (belowT B1.out ((Below.refl _ _).alloc (Nat.le_refl _) (.cells Q 44))) g2 (by omega) (by simp; omega)
  obtain ⟨Q3, s3, b3, c3⟩ := ringOf_que q2
  have l3 := ldA_block b3 s3
  have HC3 := Lib.hid c3
  clear g2 q2 hz b3 c3
  go_wp2_with fail
  refine (HC3.out _).mono ?_
  rintro e w3 ⟨v3, rfl, ho3, g3⟩
  have B3 := Lib.hid (belowT B2.out g3)
  have N3 := Lib.hid (blk_keep g3 N2.out)
  obtain ⟨z0, z1, q0, q1, zl⟩ := cells2 N3.out
  have HO3 := Lib.hid ho3
  obtain ⟨p3, cap3, rfl⟩ := ownI_shape ho3
  have HZ2 := Lib.hid (cells2 N2.out).2.2.2.2
  clear ho3 g3
  go_wp2_with fail
  have hz := HZ2.out
  exact bodyPost_ret (results_aggI2 Try.isAgg24 Try.sizeOf24 _ 4 5 rfl _ _ _ _ _ rfl rfl (ring_put N3.out _ _)) rfl ⟨_, rfl, ownI_base (ownI_set (ownI_set HO3.out hz _) hz _) (by omega), (B3.out.setCell (by show w.heap.size ≤ w.heap.size + 1; omega) _).setCell (by show w.heap.size ≤ w.heap.size + 1; omega) _⟩
/-- Push of any ring. -/
theorem rpush_any (c : Int) (v : Value) (l : List Int) (x : Int) (w : World) (h : SlI w v l) (hl : l.length ≤ 1000) :
    Calls Try.prog 10 #[.agg #[.int .i64 c, v], .int .i64 x] w (PushIs c l x w) := by
  have hs := h
  obtain ⟨p, cap, rfl, _⟩ := slI_shape h
  cases hm : mayB c l with
  | false => exact rpush_no c p cap l x w hs hl hm
  | true =>
    rw [mayB_iff] at hm
    obtain ⟨n, rfl⟩ := Int.eq_ofNat_of_zero_le hm.1
    by_cases e : l.length < n
    · exact rpush_yes n p cap l x w hs (by omega) e
    · exact rpush_full n p cap l x w hs (by omega) (by omega)
end Go.Proofs.Ytmcnpefnebehfaa
