/-
  The document's Close and Take of boxes, walked.
-/
import Derived.Test.YtiljgnhnpoackaaBoxH
namespace Go.Proofs.Ytiljgnhnpoackaa
open Go.RowKit

theorem app1E {α : Type} {E : Lie α} {w2 W w3 : World} {v3 : Value} {a : List α} (hW : Below w2.heap.size w2 W) (ho : OwnE E w3 W.heap.size v3 a) (hg : Gr W (.slice none 0 0) w3 v3) :
    ∃ base, w2.heap.size ≤ base ∧ base ≤ w3.heap.size ∧ OwnE E w3 base v3 a ∧ Below w2.heap.size w2 w3 ∧ Below W.heap.size W w3 := by
  have D := hg.own (ownE_nil E W W.heap.size) (Nat.le_refl _)
  exact ⟨W.heap.size, hW.size, D.size, ho, belowT hW D, D⟩
theorem app2E {α : Type} {E : Lie α} {w2 W w4 : World} {base : Nat} {v3 v4 : Value} {a : List α} (hW : Below w2.heap.size w2 W) (hle : w2.heap.size ≤ base) (hb : base ≤ W.heap.size) (ho : OwnE E W base v3 a) (hg : Gr W v3 w4 v4) :
    Below w2.heap.size w2 w4 := hW.trans ((hg.own ho hb).mono hle)
/-- A box, from one block into the other. -/
theorem slE_fresh {w : World} {v x y : Value} {l : List Nt} {b c k : Nat} (h : SlE Ent w v l) (hf : ∀ b, v.ownBlock = some b → k ≤ b) (hb : b < k) (hc : c < k) (o : Nat) : SlE Ent (stA (w.setCell ⟨b, o, none⟩ x) (.pointer (some ⟨c, 0, none⟩)) y) v l :=
  slE_block h (by rw [size_stA]; exact Nat.le_of_eq (by simp [World.setCell])) (fun j _ hj => by
    have := hf j hj
    rw [heap_stA (by omega), Below.heap_setCell _ _ _ _ (show j ≠ b by omega)])

set_option maxRecDepth 100000 in
set_option maxHeartbeats 1000000 in
/-- The document's Close. -/
theorem refClose_any (b : Bx) (l : List Nt) (w : World) (h : SlE Ent w (sv b.l) l) (hn : l.length ≤ 100) :
    Calls Try.prog 16 #[.agg (bx b)] w (CloIs (closeX Nt.ver (bp b l)) (closeB Nt.ver (bp b l)) w) := by
  have HM := Lib.hid (fun W (g : Below w.heap.size w W) => refMay_any b l W (slE_keep g h) (by omega))
  obtain ⟨B, hB'⟩ : ∃ B, B = closeX Nt.ver (bp b l) := ⟨_, rfl⟩
  obtain ⟨ok, hok⟩ : ∃ ok, ok = closeB Nt.ver (bp b l) := ⟨_, rfl⟩
  rw [← hB', ← hok]
  unfold closeX at hB'
  rw [← hok] at hB'
  unfold closeB bp at hok
  unfold bp at hB'
  obtain ⟨r, hr⟩ : ∃ r, r = mayX Nt.ver (bp b l) := ⟨_, rfl⟩
  rw [← hr] at HM
  rw [show mayX Nt.ver ⟨b.cap, l, b.lag, b.closed⟩ = r from hr.symm] at hok
  have HBB := Lib.hid hB'
  have HOK := Lib.hid hok
  obtain ⟨W0, hW0⟩ : ∃ W0, W0 = (w.alloc (.cells (bx b) 24)).alloc (.cells (bx zbx) 24) := ⟨_, rfl⟩
  obtain ⟨hB, hM1, hM2, hZ⟩ := heap2 w _ _ _ _ W0 hW0
  have HB := Lib.hid hB
  have M1 := Lib.hid hM1
  have M2 := Lib.hid hM2
  have HZ := Lib.hid hZ
  have HW := Lib.hid hW0
  have HS := Lib.hid h
  clear h hn hW0 hB hM1 hM2 hZ hB' hok hr
  obtain ⟨cap, s, lag, closed⟩ := b
  dsimp only at HOK HBB
  go_enter Try.func16, Try.ntmps16
  go_wp2_with fail
  rw [← HW.out]
  refine (HM.out W0 HB.out).mono ?_
  rintro e w1 ⟨rfl, g1⟩
  have N1 := Lib.hid (blk_keep g1 M1.out)
  have N2 := Lib.hid (blk_keep g1 M2.out)
  have G1 := Lib.hid (belowT HB.out g1)
  obtain ⟨_, _, _, x3, x4, xl⟩ := bx_cells N1.out
  have xf : w1.frozen? ⟨w.heap.size, 3, none⟩ = false := frozen_of_row _ _ _ _ _ N1.out
  have q2 := wrA_block N2.out (bx_size _)
  have S1 := Lib.hid (slE_keep G1.out HS.out)
  have F1 : Hid (∀ b, (sv s).ownBlock = some b → l = [] ∨ b < w.heap.size) := by
    intro b hb
    rcases List.eq_nil_or_concat l with e | ⟨_, _, e⟩
    · exact .inl e
    · refine .inr ?_
      obtain ⟨p, n, cp⟩ := s
      exact slE_lt HS.out rfl (by have := sv_len HS.out; rw [e] at this; simp at this; dsimp only; omega) hb
  have K1 : Hid (∀ x y : Value, SlE Ent (stA (w1.setCell ⟨w.heap.size, 3, none⟩ x) (.pointer (some ⟨w.heap.size + 1, 0, none⟩)) y) (sv s) l ∧ SlE Ent (stA w1 (.pointer (some ⟨w.heap.size + 1, 0, none⟩)) y) (sv s) l) := by
    intro x y
    by_cases hl : l = []
    · obtain ⟨p, n, cp⟩ := s
      have e := sv_len HS.out
      rw [hl] at e
      obtain rfl : n = 0 := e.symm
      rw [hl]
      exact ⟨slE_nil _ _ _ _, slE_nil _ _ _ _⟩
    · refine ⟨slE_block S1.out (by rw [size_stA]; exact Nat.le_of_eq (by simp [World.setCell])) (fun j _ hj => ?_), slE_block S1.out (by rw [size_stA]; exact Nat.le_refl _) (fun j _ hj => ?_)⟩
      · have := (F1.out j hj).resolve_left hl
        rw [heap_stA (by omega), Below.heap_setCell _ _ _ _ (show j ≠ w.heap.size by omega)]
      · have := (F1.out j hj).resolve_left hl
        rw [heap_stA (by omega)]
  clear g1
  dsimp only at x3
  cases r with
  | false =>
    have HR := Lib.hid (show ok = false by rw [HOK.out]; rfl)
    have HB1 := Lib.hid (show B = ⟨cap, l, lag, closed⟩ by rw [HBB.out, HR.out]; rfl)
    clear HBB HOK
    go_wp2_with fail
    exact bodyPost_ret (results_agg2 Try.isAgg24 Try.sizeOf24 _ 2 3 rfl _ _ _ _ _ rfl rfl (put_whole N2.out (bx_size _) (bx_size _))) rfl ⟨⟨cap, s, lag, closed⟩, l, by rw [HR.out]; rfl, HB1.out.symm, (K1.out (.bool false) _).2, below_stA G1.out (by omega)⟩
  | true =>
    cases closed with
    | true =>
      have HR := Lib.hid (show ok = false by rw [HOK.out]; rfl)
      have HB1 := Lib.hid (show B = ⟨cap, l, lag, true⟩ by rw [HBB.out, HR.out]; rfl)
      clear HBB HOK
      go_wp2_with fail
      exact bodyPost_ret (results_agg2 Try.isAgg24 Try.sizeOf24 _ 2 3 rfl _ _ _ _ _ rfl rfl (put_whole N2.out (bx_size _) (bx_size _))) rfl ⟨⟨cap, s, lag, true⟩, l, by rw [HR.out]; rfl, HB1.out.symm, (K1.out (.bool false) _).2, below_stA G1.out (by omega)⟩
    | false =>
      have HR := Lib.hid (show ok = true by rw [HOK.out]; rfl)
      have HB1 := Lib.hid (show B = ⟨cap, l, lag, true⟩ by rw [HBB.out, HR.out]; rfl)
      have P1 : Hid ((w1.setCell ⟨w.heap.size, 3, none⟩ (.bool true)).heap[w.heap.size]? = some (.cells (bx ⟨cap, s, lag, true⟩) 24 (0, 0))) := by
        have := heap_setCell_same N1.out 3 (.bool true)
        rwa [bx_set_closed] at this
      have P2 : Hid ((w1.setCell ⟨w.heap.size, 3, none⟩ (.bool true)).heap[w.heap.size + 1]? = some (.cells (bx zbx) 24 (0, 0))) := by
        show _ = _
        rw [Below.heap_setCell _ _ _ _ (show w.heap.size + 1 ≠ w.heap.size by omega)]; exact N2.out
      have y1 := ldA_block P1.out (bx_size _)
      have y2 := wrA_block P2.out (bx_size _)
      clear HBB HOK
      go_wp2_with fail
      exact bodyPost_ret (results_agg2 Try.isAgg24 Try.sizeOf24 _ 2 3 rfl _ _ _ _ _ rfl rfl (put_whole P2.out (bx_size _) (bx_size _))) rfl ⟨⟨cap, s, lag, true⟩, l, by rw [HR.out]; rfl, HB1.out.symm, (K1.out _ _).1, below_stA (below_set G1.out (Nat.le_refl _)) (by omega)⟩

set_option maxRecDepth 100000 in
set_option maxHeartbeats 1000000 in
theorem refTake_0 (b : Bx) (l : List Nt) (w : World) (r : Bool) (h : SlE Ent w (sv b.l) l) (hn : l.length ≤ 100) (hr : mayX Nt.ver (bp b l) = r) (hz : r = true → b.l.len = 0) :
    Calls Try.prog 14 #[.agg (bx b)] w (TakIs (bp b l) znt false w) := by
  have HM := Lib.hid (fun W (g : Below w.heap.size w W) => refMay_any b l W (slE_keep g h) (by omega))
  rw [hr] at HM
  obtain ⟨W0, hW0⟩ : ∃ W0, W0 = ((w.alloc (.cells (bx b) 24)).alloc (.cells (bx zbx) 24)).alloc (.cells (nt znt) 31) := ⟨_, rfl⟩
  obtain ⟨hB, hM0, hM1, hM2, hZ⟩ := heap3 w _ _ _ _ _ _ W0 hW0
  have HB := Lib.hid hB
  have M0 := Lib.hid hM0
  have M1 := Lib.hid hM1
  have M2 := Lib.hid hM2
  have HW := Lib.hid hW0
  have HS := Lib.hid h
  have HZ := Lib.hid hz
  obtain ⟨P, hP⟩ : ∃ P, P = bp b l := ⟨_, rfl⟩
  rw [← hP]
  have HP := Lib.hid hP
  clear h hn hr hz hW0 hB hM0 hM1 hM2 hZ hP
  obtain ⟨cap, ⟨p, n, cp⟩, lag, closed⟩ := b
  dsimp only at HZ
  go_enter Try.func14, Try.ntmps14
  go_wp2_with fail
  rw [← HW.out]
  refine (HM.out W0 HB.out).mono ?_
  rintro e w1 ⟨rfl, g1⟩
  have N0 := Lib.hid (blk_keep g1 M0.out)
  have N1 := Lib.hid (blk_keep g1 M1.out)
  have N2 := Lib.hid (blk_keep g1 M2.out)
  have G1 := Lib.hid (belowT HB.out g1)
  obtain ⟨_, x1, _, _, x4, xl⟩ := bx_cells N0.out
  dsimp only at x1
  rw [sv_mk] at x1
  have q1 := wrA_block N1.out (bx_size _)
  have T1 : Hid ((stA w1 (.pointer (some ⟨w.heap.size + 1, 0, none⟩)) (.agg (bx ⟨cap, ⟨p, n, cp⟩, lag, closed⟩))).heap[w.heap.size + 2]? = some (.cells (nt znt) 31 (0, 0))) := (heap_stA (by omega)).trans N2.out
  have q5 : wrA (stA w1 (.pointer (some ⟨w.heap.size + 1, 0, none⟩)) (.agg (bx ⟨cap, ⟨p, n, cp⟩, lag, closed⟩))) (.pointer (some ⟨w.heap.size + 1 + 1, 0, none⟩)) 66 = true := wrA_block T1.out (nt_size _)
  have U1 : Hid ((stA (stA w1 (.pointer (some ⟨w.heap.size + 1, 0, none⟩)) (.agg (bx ⟨cap, ⟨p, n, cp⟩, lag, closed⟩))) (.pointer (some ⟨w.heap.size + 2, 0, none⟩)) (.agg (nt znt))).heap[w.heap.size + 1]? = some (.cells (bx ⟨cap, ⟨p, n, cp⟩, lag, closed⟩) 24 (0, 0))) := (heap_stA (by omega)).trans (heap_put N1.out (by rw [bx_size, bx_size]))
  have U2 : Hid ((stA (stA w1 (.pointer (some ⟨w.heap.size + 1, 0, none⟩)) (.agg (bx ⟨cap, ⟨p, n, cp⟩, lag, closed⟩))) (.pointer (some ⟨w.heap.size + 2, 0, none⟩)) (.agg (nt znt))).heap[w.heap.size + 2]? = some (.cells (nt znt) 31 (0, 0))) := heap_put T1.out rfl
  have GG := Lib.hid (below_stA (o := 0) (x := .agg (nt znt)) (below_stA (o := 0) (x := .agg (bx ⟨cap, ⟨p, n, cp⟩, lag, closed⟩)) G1.out (show w.heap.size ≤ w.heap.size + 1 by omega)) (show w.heap.size ≤ w.heap.size + 2 by omega))
  clear g1
  cases r with
  | false =>
    go_wp2_with fail
    exact bodyPost_ret (results_agg22 Try.isAgg24 Try.sizeOf24 Try.isAgg31 Try.sizeOf31 _ 2 3 4 rfl _ _ _ _ _ _ _ rfl rfl rfl (ldA_block U1.out (bx_size _)) (ldA_block U2.out (nt_size _))) rfl ⟨⟨cap, ⟨p, n, cp⟩, lag, closed⟩, l, rfl, HP.out.symm, slE_keep GG.out HS.out, GG.out⟩
  | true =>
    obtain rfl : n = 0 := HZ.out (by first | trivial | rfl)
    go_wp2_with fail
    exact bodyPost_ret (results_agg22 Try.isAgg24 Try.sizeOf24 Try.isAgg31 Try.sizeOf31 _ 2 3 4 rfl _ _ _ _ _ _ _ rfl rfl rfl (ldA_block U1.out (bx_size _)) (ldA_block U2.out (nt_size _))) rfl ⟨⟨cap, ⟨p, 0, cp⟩, lag, closed⟩, l, rfl, HP.out.symm, slE_keep GG.out HS.out, GG.out⟩

set_option maxRecDepth 100000 in
set_option maxHeartbeats 1000000 in
theorem refTake_s (cap : Int) (b1 o1 k cp : Nat) (lag closed : Bool) (y : Nt) (l : List Nt) (w : World) (h : SlE Ent w (.slice (some ⟨b1, o1, none⟩) (k + 1) cp) (y :: l)) (hl : l.length = k) (hn : k ≤ 99) (hr : mayX Nt.ver ⟨cap, y :: l, lag, closed⟩ = true) :
    Calls Try.prog 14 #[.agg (bx ⟨cap, ⟨some ⟨b1, o1, none⟩, k + 1, cp⟩, lag, closed⟩)] w (TakIs ⟨cap, l, lag, closed⟩ y true w) := by
  have HM := Lib.hid (fun W (g : Below w.heap.size w W) => refMay_any ⟨cap, ⟨some ⟨b1, o1, none⟩, k + 1, cp⟩, lag, closed⟩ (y :: l) W (slE_keep g h) (by simp; omega))
  rw [show mayX Nt.ver (bp ⟨cap, ⟨some ⟨b1, o1, none⟩, k + 1, cp⟩, lag, closed⟩ (y :: l)) = true from hr] at HM
  obtain ⟨b', o', c', e1, hc, q1, x1⟩ := slE_ne h (by simp)
  injection e1 with e2 e6 e3
  clear e6
  injection e2 with e2
  injection e2 with e4 e5
  subst e3 e4 e5
  have y1 := nts_ld x1 (i := 0) (by simp)
  rw [Nat.zero_mul, Nat.add_zero, show itN (y :: l) 0 = y from rfl] at y1
  obtain ⟨vr, hcut, hS⟩ := cut_fromE (E := Ent) (some ⟨b1, o1, none⟩) cp (y :: l) 1 (by simp) hc
  have hS' := hS w (by rw [List.length_cons, hl]; exact h)
  rw [List.length_cons, hl] at hcut
  rw [List.drop_succ_cons, List.drop_zero] at hS'
  obtain ⟨p', cap', e', _⟩ := slE_shape hS'
  rw [hl] at e'
  subst e'
  have hcut' : cutFE 66 (.slice (some ⟨b1, o1, none⟩) (k + 1) cp) (.int .i64 1) = some (.slice p' k cap') := hcut
  have HS := Lib.hid hS'
  have HL := Lib.hid hl
  have HN := Lib.hid hn
  have t2 : ((k : Int) + 1 == 0) = false := by simp; omega
  have i1 : (0 : Int) < (k : Int) + 1 := by omega
  obtain ⟨W0, hW0⟩ : ∃ W0, W0 = ((w.alloc (.cells (bx ⟨cap, ⟨some ⟨b1, o1, none⟩, k + 1, cp⟩, lag, closed⟩) 24)).alloc (.cells (bx zbx) 24)).alloc (.cells (nt znt) 31) := ⟨_, rfl⟩
  obtain ⟨hB, hM0, hM1, hM2, hZ⟩ := heap3 w _ _ _ _ _ _ W0 hW0
  have HB := Lib.hid hB
  have M0 := Lib.hid hM0
  have M1 := Lib.hid hM1
  have M2 := Lib.hid hM2
  have HW := Lib.hid hW0
  have Y1 := Lib.hid y1
  have Q1 := Lib.hid q1
  clear h hl hn hr x1 hc hcut hS hS' hW0 hB hM0 hM1 hM2 hZ y1 q1
  go_enter Try.func14, Try.ntmps14
  go_wp2_with fail
  rw [← HW.out]
  refine (HM.out W0 HB.out).mono ?_
  rintro e w1 ⟨rfl, g1⟩
  have G1 := Lib.hid (belowT HB.out g1)
  obtain ⟨_, x1, _, _, _, xl⟩ := bx_cells (blk_keep g1 M0.out)
  have y1 := keep G1.out Y1.out
  have q1 : b1 < w1.heap.size := Nat.lt_of_lt_of_le Q1.out G1.out.size
  obtain ⟨W2, hW2⟩ : ∃ W2, W2 = w1.alloc (.cells (nt y) 31) := ⟨_, rfl⟩
  have HW2 := Lib.hid hW2
  have E2 : Hid (Below w1.heap.size w1 W2) := by rw [hW2]; exact below1
  have N0 := Lib.hid (blk_keep E2.out (blk_keep g1 M0.out))
  have N1 := Lib.hid (blk_keep E2.out (blk_keep g1 M1.out))
  have N2 := Lib.hid (blk_keep E2.out (blk_keep g1 M2.out))
  have N3 : Hid (W2.heap[w1.heap.size]? = some (.cells (nt y) 31 (0, 0))) := by rw [hW2]; exact heap_alloc_last w1 _
  have G2 := Lib.hid (belowT G1.out E2.out)
  have S2 := Lib.hid (slE_keep G2.out HS.out)
  have L2 : Hid (w.heap.size + 2 < w1.heap.size) := (Array.getElem?_eq_some_iff.1 (blk_keep g1 M2.out)).1
  clear g1 hW2
  go_wp2_with (
    at_builtin; go_loud (
    rw [← HW2.out]
    refine wpList_append_E Knt _ rfl (.const (.slice none 0 0)) (.tmp 25) rfl W2.heap.size _ [] rfl (ownE_nil _ _ _) _ l rfl S2.out (by have := HL.out; have := HN.out; simp; omega) (Nat.le_refl _) ?_
    intro v3 w3 ho3 hg3
    have D3 : Below W2.heap.size W2 w3 := hg3.own (ownE_nil Ent W2 W2.heap.size) (Nat.le_refl _)
    have B3 := Lib.hid (belowT G2.out D3)
    have P0 := Lib.hid (blk_keep D3 N0.out)
    have P1 := Lib.hid (blk_keep D3 N1.out)
    have P2 := Lib.hid (blk_keep D3 N2.out)
    have P3 := Lib.hid (blk_keep D3 N3.out)
    have S3 : Hid (SlE Ent w3 v3 l) := ownE_slE ho3
    have F3 : Hid (∀ b, v3.ownBlock = some b → W2.heap.size ≤ b) := fun b hb => (ownE_lt ho3 hb).1
    obtain ⟨p3, c3, rfl⟩ := slE_len S3.out HL.out
    clear ho3 hg3 D3
    have z1 : w3.cell? ⟨w.heap.size, 1, none⟩ = some (.slice (some ⟨b1, o1, none⟩) (k + 1) cp) := (bx_cells P0.out).2.1
    have zf : w3.frozen? ⟨w.heap.size, 1, none⟩ = false := frozen_of_row _ _ _ _ _ P0.out
    obtain ⟨W4, hW4⟩ : ∃ W4, W4 = w3.setCell ⟨w.heap.size, 1, none⟩ (.slice p3 k c3) := ⟨_, rfl⟩
    have R0 : Hid (W4.heap[w.heap.size]? = some (.cells (bx ⟨cap, ⟨p3, k, c3⟩, lag, closed⟩) 24 (0, 0))) := by
      have := heap_setCell_same P0.out 1 (.slice p3 k c3)
      rw [hW4]
      rwa [bx_sets_l] at this
    have R1 : Hid (W4.heap[w.heap.size + 1]? = some (.cells (bx zbx) 24 (0, 0))) := by
      rw [hW4, Below.heap_setCell _ _ _ _ (show w.heap.size + 1 ≠ w.heap.size by omega)]; exact P1.out
    have R2 : Hid (W4.heap[w.heap.size + 2]? = some (.cells (nt znt) 31 (0, 0))) := by
      rw [hW4, Below.heap_setCell _ _ _ _ (show w.heap.size + 2 ≠ w.heap.size by omega)]; exact P2.out
    have R3 : Hid (W4.heap[w1.heap.size]? = some (.cells (nt y) 31 (0, 0))) := by
      rw [hW4, Below.heap_setCell _ _ _ _ (show w1.heap.size ≠ w.heap.size by have := L2.out; omega)]; exact P3.out
    have B4 : Hid (Below w.heap.size w W4) := by rw [hW4]; exact below_set B3.out (Nat.le_refl _)
    have S4 : Hid (SlE Ent W4 (.slice p3 k c3) l) := by
      rw [hW4]
      exact slE_block S3.out (Nat.le_of_eq (by simp [World.setCell])) (fun j _ hj => by
        have := F3.out j hj
        have := E2.out.size
        have := L2.out
        rw [Below.heap_setCell _ _ _ _ (show j ≠ w.heap.size by omega)])
    have f0 := ldA_block R0.out (bx_size _)
    have f3 := ldA_block R3.out (nt_size _)
    have f1 := wrA_block R1.out (bx_size _)
    have T1 : Hid ((stA W4 (.pointer (some ⟨w.heap.size + 1, 0, none⟩)) (.agg (bx ⟨cap, ⟨p3, k, c3⟩, lag, closed⟩))).heap[w.heap.size + 2]? = some (.cells (nt znt) 31 (0, 0))) := (heap_stA (by omega)).trans R2.out
    have f5 : wrA (stA W4 (.pointer (some ⟨w.heap.size + 1, 0, none⟩)) (.agg (bx ⟨cap, ⟨p3, k, c3⟩, lag, closed⟩))) (.pointer (some ⟨w.heap.size + 1 + 1, 0, none⟩)) 66 = true := wrA_block T1.out (nt_size _)
    have f6 : ldA (stA W4 (.pointer (some ⟨w.heap.size + 1, 0, none⟩)) (.agg (bx ⟨cap, ⟨p3, k, c3⟩, lag, closed⟩))) (.pointer (some ⟨w1.heap.size, 0, none⟩)) 66 = some (nt y) := ldA_block ((heap_stA (by have := L2.out; omega)).trans R3.out) (nt_size _)
    have F4 : Hid (∀ b, (Value.slice p3 k c3).ownBlock = some b → w.heap.size + 2 < b) := fun b hb => by
      have := F3.out b hb
      have := E2.out.size
      have := L2.out
      omega
    have HW4 := Lib.hid hW4
    rw [hW4] at f0 f3 f1 f5 f6
    clear hW4))
  go_region
  all_goals
    go_wp2_with fail
    rw [← HW4.out]
    have U1 : (stA (stA W4 (.pointer (some ⟨w.heap.size + 1, 0, none⟩)) (.agg (bx ⟨cap, ⟨p3, k, c3⟩, lag, closed⟩))) (.pointer (some ⟨w.heap.size + 2, 0, none⟩)) (.agg (nt y))).heap[w.heap.size + 1]? = some (.cells (bx ⟨cap, ⟨p3, k, c3⟩, lag, closed⟩) 24 (0, 0)) := (heap_stA (by omega)).trans (heap_put R1.out (by rw [bx_size, bx_size]))
    have U2 : (stA (stA W4 (.pointer (some ⟨w.heap.size + 1, 0, none⟩)) (.agg (bx ⟨cap, ⟨p3, k, c3⟩, lag, closed⟩))) (.pointer (some ⟨w.heap.size + 2, 0, none⟩)) (.agg (nt y))).heap[w.heap.size + 2]? = some (.cells (nt y) 31 (0, 0)) := heap_put T1.out (by rw [nt_size, nt_size])
    exact bodyPost_ret (results_agg22 Try.isAgg24 Try.sizeOf24 Try.isAgg31 Try.sizeOf31 _ 2 3 4 rfl _ _ _ _ _ _ _ rfl rfl rfl (ldA_block U1 (bx_size _)) (ldA_block U2 (nt_size _))) rfl ⟨⟨cap, ⟨p3, k, c3⟩, lag, closed⟩, l, rfl, rfl, slE_keep (belowD (Below.refl _ _) 1) (slE_stA (slE_stA S4.out (fun e => by have := F4.out _ e; omega)) (fun e => by have := F4.out _ e; omega)), belowD (below_stA (below_stA B4.out (by omega)) (by omega)) 1⟩
/-- The document's Take. -/
theorem refTake_any (b : Bx) (l : List Nt) (w : World) (h : SlE Ent w (sv b.l) l) (hn : l.length ≤ 100) :
    Calls Try.prog 14 #[.agg (bx b)] w (TakIs (takeX Nt.ver (bp b l)) (takeN Nt.ver znt (bp b l)) (takeB Nt.ver (bp b l)) w) := by
  have hl := sv_len h
  cases ht : takeB Nt.ver (bp b l) with
  | false =>
    have e1 : takeX Nt.ver (bp b l) = bp b l := by unfold takeX; rw [if_neg (by rw [ht]; exact Bool.false_ne_true)]
    have e2 : takeN Nt.ver znt (bp b l) = znt := by unfold takeN; rw [if_neg (by rw [ht]; exact Bool.false_ne_true)]
    rw [e1, e2]
    refine refTake_0 b l w _ h hn rfl (fun hm => ?_)
    unfold takeB at ht
    rw [hm, Bool.true_and, decide_eq_false_iff_not] at ht
    have : (bp b l).l = l := rfl
    rw [this] at ht
    omega
  | true =>
    have ht' := ht
    unfold takeB at ht'
    rw [Bool.and_eq_true] at ht'
    obtain ⟨cap, ⟨p, n, cp⟩, lag, closed⟩ := b
    dsimp only at hl
    cases l with
    | nil => simp [bp] at ht'
    | cons y l =>
      have e1 : takeX Nt.ver (bp ⟨cap, ⟨p, n, cp⟩, lag, closed⟩ (y :: l)) = ⟨cap, l, lag, closed⟩ := by unfold takeX; rw [if_pos ht]; rfl
      have e2 : takeN Nt.ver znt (bp ⟨cap, ⟨p, n, cp⟩, lag, closed⟩ (y :: l)) = y := by unfold takeN; rw [if_pos ht]; rfl
      rw [e1, e2]
      obtain ⟨k, rfl⟩ : ∃ k, n = k + 1 := ⟨l.length, hl.symm⟩
      obtain ⟨b1, o1, c1, e3, _⟩ := slE_ne h (by simp)
      injection e3 with e3
      subst e3
      rw [List.length_cons] at hn hl
      exact refTake_s cap b1 o1 k cp lag closed y l w h (by omega) (by omega) ht'.1
end Go.Proofs.Ytiljgnhnpoackaa
