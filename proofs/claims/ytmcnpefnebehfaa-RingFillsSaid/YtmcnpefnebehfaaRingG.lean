/-
  Package ring: Pop, walked.
-/
import Derived.Test.YtmcnpefnebehfaaRingF
namespace Go.Proofs.Ytmcnpefnebehfaa
open Go.RowKit

/-- What Pop answers. -/
def PopIs (c : Int) (l : List Int) (w : World) (e : Ending) (w' : World) : Prop := ∃ v, e = .returned (.tuple #[.agg #[.int .i64 c, v], .int .i64 (popX c l), .bool (popB c l)]) ∧ OwnI w' w.heap.size v (popL c l) ∧ Below w.heap.size w w'

set_option maxRecDepth 100000 in
set_option maxHeartbeats 1000000 in
theorem rpop_no (c : Int) (p : Option Addr) (cap : Nat) (l : List Int) (w : World) (h : SlI w (.slice p l.length cap) l) (hl : l.length ≤ 1000) (hm : mayB c l = false) :
    Calls Try.prog 12 #[.agg #[.int .i64 c, .slice p l.length cap]] w (PopIs c l w) := by
  have HS := Lib.hid h; clear h
  have HE : Hid (popB c l = false ∧ popL c l = l ∧ popX c l = 0) := by
    have e := popB_not hm
    exact ⟨e, by unfold popL; rw [if_neg (by rw [e]; exact Bool.false_ne_true)], by unfold popX; rw [if_neg (by rw [e]; exact Bool.false_ne_true)]⟩
  unfold PopIs
  rw [HE.out.1, HE.out.2.1, HE.out.2.2]
  have HQ := Lib.hid (fun W => queueOf_no c p cap l W hm)
  have HM := Lib.hid (fun W hW => same_any c (.slice p l.length cap) l W hW hl)
  clear hm HE hl
  obtain ⟨W0, hW0⟩ : ∃ W0, W0 = (w.alloc (.cells #[.int .i64 c, .slice p l.length cap] 24)).alloc (.cells #[.int .i64 0, .slice none 0 0] 24) := ⟨_, rfl⟩
  have HB : Hid (Below w.heap.size w W0) := by rw [hW0]; exact ((Below.refl w.heap.size w).alloc (Nat.le_refl _) _).alloc (by simp) _
  have M0 : Hid (W0.heap[w.heap.size]? = some (.cells #[.int .i64 c, .slice p l.length cap] 24 (0, 0))) := by rw [hW0]; exact heap_alloc2_old w _ _
  have N0 : Hid (W0.heap[w.heap.size + 1]? = some (.cells #[.int .i64 0, .slice none 0 0] 24 (0, 0))) := by rw [hW0]; exact heap_alloc2_new w _ _
  have HW := Lib.hid hW0
  clear hW0
  go_enter Try.func12, Try.ntmps12
  go_wp2_with fail
  refine (HQ.out _).mono ?_
  rw [← HW.out]
  rintro e w1 ⟨rfl, g1⟩
  have M1 := Lib.hid (blk_keep g1 M0.out)
  have N1 := Lib.hid (blk_keep g1 N0.out)
  have B1 := Lib.hid (belowT HB.out g1)
  obtain ⟨x0, x1, _, _, xl⟩ := cells2 M1.out
  clear g1 M0 N0
  go_wp2_with fail
  have G2 : Hid (Below w1.heap.size w1 (w1.alloc (.cells zq 44))) := (Below.refl _ _).alloc (Nat.le_refl _) _
  refine (HM.out _ (slI_keep (belowT B1.out G2.out) HS.out)).mono ?_
  rintro e w3 ⟨v3, rfl, ho3, g3⟩
  have B3 := Lib.hid (belowT (belowT B1.out G2.out) g3)
  have N3 := Lib.hid (blk_keep g3 (blk_keep G2.out N1.out))
  obtain ⟨z0, z1, q0, q1, zl⟩ := cells2 N3.out
  have HO3 := Lib.hid ho3
  obtain ⟨p3, cap3, rfl⟩ := ownI_shape ho3
  have HZ := Lib.hid (cells2 N1.out).2.2.2.2
  clear ho3 g3
  go_wp2_with fail
  have hz : w.heap.size + 1 < (w1.alloc (.cells zq 44)).heap.size := by have := HZ.out; simp; omega
  exact bodyPost_ret (results_aggI3 Try.isAgg24 Try.sizeOf24 _ 2 3 4 rfl _ _ _ _ _ _ rfl rfl rfl (ring_put N3.out _ _)) rfl ⟨_, rfl, ownI_base (ownI_set (ownI_set HO3.out hz _) hz _) (by omega), (B3.out.setCell (by show w.heap.size ≤ w.heap.size + 1; omega) _).setCell (by show w.heap.size ≤ w.heap.size + 1; omega) _⟩

set_option maxRecDepth 100000 in
set_option maxHeartbeats 1000000 in
theorem rpop_full (c : Nat) (p : Option Addr) (cap : Nat) (l : List Int) (w : World) (h : SlI w (.slice p l.length cap) l) (h8 : c ≤ 8) (hc : l.length = 0) :
    Calls Try.prog 12 #[.agg #[.int .i64 (c : Int), .slice p l.length cap]] w (PopIs (c : Int) l w) := by
  have HS := Lib.hid h
  have HE : Hid (popB (c : Int) l = false ∧ popL (c : Int) l = l ∧ popX (c : Int) l = 0) := by
    have e : popB (c : Int) l = false := by unfold popB; rw [decide_eq_false (by omega), Bool.and_false]
    exact ⟨e, by unfold popL; rw [if_neg (by rw [e]; exact Bool.false_ne_true)], by unfold popX; rw [if_neg (by rw [e]; exact Bool.false_ne_true)]⟩
  unfold PopIs
  rw [HE.out.1, HE.out.2.1, HE.out.2.2]
  have HQ := Lib.hid (fun W hW => queueOf_yes c p cap l W hW (by omega) h8)
  have HM := Lib.hid (fun W hW => same_any (c : Int) (.slice p l.length cap) l W hW (by omega))
  have HP : Hid (∀ b W, Que W b l c → Calls Try.prog 26 #[.pointer (some ⟨b, 0, none⟩)] W (QueIs W b (.tuple #[.int .i64 0, .bool false]) l c)) := fun b W hW => by
    obtain rfl : l = [] := List.length_eq_zero_iff.1 hc
    exact pop_no b c W hW
  have H8 : Hid (l.length ≤ c ∧ c ≤ 8) := ⟨by omega, h8⟩
  clear HE h h8 hc
  obtain ⟨W0, hW0⟩ : ∃ W0, W0 = (w.alloc (.cells #[.int .i64 (c : Int), .slice p l.length cap] 24)).alloc (.cells #[.int .i64 0, .slice none 0 0] 24) := ⟨_, rfl⟩
  have HB : Hid (Below w.heap.size w W0) := by rw [hW0]; exact ((Below.refl w.heap.size w).alloc (Nat.le_refl _) _).alloc (by simp) _
  have M0 : Hid (W0.heap[w.heap.size]? = some (.cells #[.int .i64 (c : Int), .slice p l.length cap] 24 (0, 0))) := by rw [hW0]; exact heap_alloc2_old w _ _
  have N0 : Hid (W0.heap[w.heap.size + 1]? = some (.cells #[.int .i64 0, .slice none 0 0] 24 (0, 0))) := by rw [hW0]; exact heap_alloc2_new w _ _
  have HW := Lib.hid hW0
  clear hW0
  go_enter Try.func12, Try.ntmps12
  go_wp2_with fail
  rw [← HW.out]
  refine (HQ.out _ (slI_keep HB.out HS.out)).mono ?_
  rintro e w1 ⟨pl, rfl, hp8, hpl, g1⟩
  have M1 := Lib.hid (blk_keep g1 M0.out)
  have N1 := Lib.hid (blk_keep g1 N0.out)
  have B1 := Lib.hid (belowT HB.out g1)
  have qs := qc_size hp8 0 l.length c
  have qk := qc_ones (f := 0) (n := l.length) (c := c) hp8
  have Q2 := Lib.hid (que_new (w := w1) hp8 hpl H8.out.1 H8.out.2)
  clear g1 M0 N0 hp8 hpl
  generalize qc pl 0 l.length c = Q at *
  go_wp2_with fail
  refine (HP.out _ _ Q2.out).mono ?_
  rintro e w2 ⟨rfl, g2, _⟩
  have HZ := Lib.hid (cells2 N1.out).2.2.2.2
  have hz : w.heap.size + 1 < w1.heap.size := HZ.out
  have M2 := Lib.hid (grown_blk g2 (heap_keepA M1.out) (by omega))
  have N2 := Lib.hid (grown_blk g2 (heap_keepA N1.out) (by omega))
  have B2 : Hid (Below w.heap.size w w2) := grown_below (belowT B1.out ((Below.refl _ _).alloc (Nat.le_refl _) (.cells Q 44))) g2 (by omega) (by simp; omega)
  obtain ⟨x0, x1, _, _, xl⟩ := cells2 M2.out
  clear g2 hz
  go_wp2_with fail
  refine (HM.out _ (slI_keep B2.out HS.out)).mono ?_
  rintro e w3 ⟨v3, rfl, ho3, g3⟩
  have B3 := Lib.hid (belowT B2.out g3)
  have N3 := Lib.hid (blk_keep g3 N2.out)
  obtain ⟨z0, z1, q0, q1, zl⟩ := cells2 N3.out
  have HO3 := Lib.hid ho3
  obtain ⟨p3, cap3, rfl⟩ := ownI_shape ho3
  have HZ2 := Lib.hid (cells2 N2.out).2.2.2.2
  clear ho3 g3
  go_wp2_with fail
  have hz := HZ2.out
  exact bodyPost_ret (results_aggI3 Try.isAgg24 Try.sizeOf24 _ 2 3 4 rfl _ _ _ _ _ _ rfl rfl rfl (ring_put N3.out _ _)) rfl ⟨_, rfl, ownI_base (ownI_set (ownI_set HO3.out hz _) hz _) (by omega), (B3.out.setCell (by show w.heap.size ≤ w.heap.size + 1; omega) _).setCell (by show w.heap.size ≤ w.heap.size + 1; omega) _⟩

set_option maxRecDepth 100000 in
set_option maxHeartbeats 1000000 in
theorem rpop_yes (c : Nat) (p : Option Addr) (cap : Nat) (l : List Int) (w : World) (h : SlI w (.slice p l.length cap) l) (h8 : c ≤ 8) (hlc : l.length ≤ c) (hc : 0 < l.length) :
    Calls Try.prog 12 #[.agg #[.int .i64 (c : Int), .slice p l.length cap]] w (PopIs (c : Int) l w) := by
  have HS := Lib.hid h
  have HE : Hid (popB (c : Int) l = true ∧ popL (c : Int) l = l.drop 1 ∧ popX (c : Int) l = it l 0) := by
    have e : popB (c : Int) l = true := by
      unfold popB; rw [Bool.and_eq_true, decide_eq_true_eq, mayB_iff]; omega
    exact ⟨e, by unfold popL; rw [if_pos e], by unfold popX; rw [if_pos e]⟩
  unfold PopIs
  rw [HE.out.1, HE.out.2.1, HE.out.2.2]
  have HQ := Lib.hid (fun W hW => queueOf_yes c p cap l W hW (by omega) h8)
  have HP := Lib.hid (fun b W hW => pop_yes b l c W hW hc)
  have H8 : Hid (l.length ≤ c ∧ c ≤ 8) := ⟨by omega, h8⟩
  clear HE h h8 hc hlc
  obtain ⟨k, hk⟩ : ∃ k, k = l.drop 1 := ⟨_, rfl⟩
  obtain ⟨y, hy⟩ : ∃ y, y = it l 0 := ⟨_, rfl⟩
  rw [← hk, ← hy] at HP ⊢
  clear hk hy
  obtain ⟨W0, hW0⟩ : ∃ W0, W0 = (w.alloc (.cells #[.int .i64 (c : Int), .slice p l.length cap] 24)).alloc (.cells #[.int .i64 0, .slice none 0 0] 24) := ⟨_, rfl⟩
  have HB : Hid (Below w.heap.size w W0) := by rw [hW0]; exact ((Below.refl w.heap.size w).alloc (Nat.le_refl _) _).alloc (by simp) _
  have N0 : Hid (W0.heap[w.heap.size + 1]? = some (.cells #[.int .i64 0, .slice none 0 0] 24 (0, 0))) := by rw [hW0]; exact heap_alloc2_new w _ _
  have HW := Lib.hid hW0
  clear hW0
  go_enter Try.func12, Try.ntmps12
  go_wp2_with fail
  rw [← HW.out]
  refine (HQ.out _ (slI_keep HB.out HS.out)).mono ?_
  rintro e w1 ⟨pl, rfl, hp8, hpl, g1⟩
  have N1 := Lib.hid (blk_keep g1 N0.out)
  have B1 := Lib.hid (belowT HB.out g1)
  have qs := qc_size hp8 0 l.length c
  have qk := qc_ones (f := 0) (n := l.length) (c := c) hp8
  have Q2 := Lib.hid (que_new (w := w1) hp8 hpl H8.out.1 H8.out.2)
  clear g1 N0 hp8 hpl
  generalize qc pl 0 l.length c = Q at *
  go_wp2_with fail
  refine (HP.out _ _ Q2.out).mono ?_
  rintro e w2 ⟨rfl, g2, q2⟩
  have HZ := Lib.hid (cells2 N1.out).2.2.2.2
  have hz : w.heap.size + 1 < w1.heap.size := HZ.out
  have N2 := Lib.hid (grown_blk g2 (heap_keepA N1.out) (by omega))
  have B2 : Hid (Below w.heap.size w w2) := grown_below (belowT B1.out ((Below.refl _ _).alloc (Nat.le_refl _) (.cells Q 44))) g2 (by omega) (by simp; omega)
  obtain ⟨Q3, s3, b3, c3⟩ := ringOf_que q2
  have l3 := ldA_block b3 s3
  have HC3 := Lib.hid c3
  clear g2 q2 hz b3 c3
  go_wp2_with fail
  refine (HC3.out _).mono ?_
  rintro e w3 ⟨v3, rfl, ho3, g3⟩
  have B3 := Lib.hid (belowT B2.out g3)
  have N3 := Lib.hid (blk_keep g3 N2.out)
  obtain ⟨z0, z1, q0, q1, zl⟩ := cells2 N3.out
  have HO3 := Lib.hid ho3
  obtain ⟨p3, cap3, rfl⟩ := ownI_shape ho3
  have HZ2 := Lib.hid (cells2 N2.out).2.2.2.2
  clear ho3 g3
  go_wp2_with fail
  have hz := HZ2.out
  exact bodyPost_ret (results_aggI3 Try.isAgg24 Try.sizeOf24 _ 2 3 4 rfl _ _ _ _ _ _ rfl rfl rfl (ring_put N3.out _ _)) rfl ⟨_, rfl, ownI_base (ownI_set (ownI_set HO3.out hz _) hz _) (by omega), (B3.out.setCell (by show w.heap.size ≤ w.heap.size + 1; omega) _).setCell (by show w.heap.size ≤ w.heap.size + 1; omega) _⟩
/-- Pop of any ring. -/
theorem rpop_any (c : Int) (v : Value) (l : List Int) (w : World) (h : SlI w v l) (hl : l.length ≤ 1000) :
    Calls Try.prog 12 #[.agg #[.int .i64 c, v]] w (PopIs c l w) := by
  have hs := h
  obtain ⟨p, cap, rfl, _⟩ := slI_shape h
  cases hm : mayB c l with
  | false => exact rpop_no c p cap l w hs hl hm
  | true =>
    rw [mayB_iff] at hm
    obtain ⟨n, rfl⟩ := Int.eq_ofNat_of_zero_le hm.1
    by_cases e : 0 < l.length
    · exact rpop_yes n p cap l w hs (by omega) (by omega) e
    · exact rpop_full n p cap l w hs (by omega) (by omega)
end Go.Proofs.Ytmcnpefnebehfaa
